import PyProof.Rows.All
import Wide.All
import OpenK.AllK
import Wide.FinOn
import Lean
import PyProof.EqAt
import PyProof.EqKinds
import PyProof.TupleCall
import PySem.Challenge.RW_dockethall_k73_value
set_option Elab.async false
set_option linter.all false
set_option maxRecDepth 100000
namespace L2
open PySem PySem.Spec PyProof.Rows
abbrev Key := Sum Int Str
def keyIs : Key → Value → Bool
  | .inl k, v => Value.isInt k v
  | .inr x, v => Value.isStrOf x v
def keyH (w : World) : Key → Int
  | .inl k => hashInt k
  | .inr x => hashStr w x
theorem keyIs_shape : ∀ {k : Key} {v : Value}, keyIs k v = true → (∃ i t, k = Sum.inl i ∧ v = Value.int i t) ∨ (∃ x t, k = Sum.inr x ∧ v = Value.str x t)
  | .inl i, v, h => by
    obtain ⟨t, e⟩ := Value.isInt_shape (k := i) (v := v) h
    exact .inl ⟨i, t, rfl, e⟩
  | .inr x, v, h => by
    obtain ⟨t, e⟩ := Value.isStrOf_shape (x := x) (v := v) h
    exact .inr ⟨x, t, rfl, e⟩
theorem keyIs_int (i : Int) (t : Tok) : keyIs (.inl i) (.int i t) = true := by simp [keyIs, Value.isInt]
theorem keyIs_str (x : Str) (t : Tok) : keyIs (.inr x) (.str x t) = true := by simp [keyIs, Value.isStrOf]
theorem key_ll (a b : Int) : decide ((Sum.inl a : Key) = Sum.inl b) = (a == b) := by
  by_cases e : a = b
  · subst e; simp
  · have h : ¬ (Sum.inl a : Key) = Sum.inl b := fun q => e (Sum.inl.inj q)
    rw [decide_eq_false h]
    exact (beq_eq_false_iff_ne.mpr e).symm
theorem key_rr (a b : Str) : decide ((Sum.inr a : Key) = Sum.inr b) = decide (a = b) := by
  by_cases e : a = b
  · subst e; simp
  · have h : ¬ (Sum.inr a : Key) = Sum.inr b := fun q => e (Sum.inr.inj q)
    rw [decide_eq_false h, decide_eq_false e]
theorem key_lr (a : Int) (b : Str) : decide ((Sum.inl a : Key) = Sum.inr b) = false := decide_eq_false (fun q => nomatch q)
theorem key_rl (a : Str) (b : Int) : decide ((Sum.inr a : Key) = Sum.inl b) = false := decide_eq_false (fun q => nomatch q)
def mixKind (prog : Program) (w : World) : PySem.KeyKind prog w Key where
  is := keyIs
  hash := keyH w
  inj := fun v a b ha hb => by
    rcases keyIs_shape ha with ⟨i, t, rfl, rfl⟩ | ⟨x, t, rfl, rfl⟩
    · rcases keyIs_shape hb with ⟨j, u, rfl, e⟩ | ⟨y, u, rfl, e⟩
      · injection e with e1 _; rw [e1]
      · exact nomatch e
    · rcases keyIs_shape hb with ⟨j, u, rfl, e⟩ | ⟨y, u, rfl, e⟩
      · exact nomatch e
      · injection e with e1 _; rw [e1]
  byValue := fun k v h => by
    rcases keyIs_shape h with ⟨i, t, rfl, rfl⟩ | ⟨x, t, rfl, rfl⟩ <;> rfl
  pyHash := fun hv h => by
    rcases keyIs_shape hv with ⟨i, t, rfl, rfl⟩ | ⟨x, t, rfl, rfl⟩
    · exact wpAny_pyHash_int h
    · exact wpAny_pyHash_str h
  eqBool := fun hu hv h => by
    rcases keyIs_shape hu with ⟨i, t, rfl, rfl⟩ | ⟨x, t, rfl, rfl⟩
    · rcases keyIs_shape hv with ⟨j, u, rfl, rfl⟩ | ⟨y, u, rfl, rfl⟩
      · rw [key_ll] at h; exact wpAny_eqBool_int h
      · rw [key_lr] at h; exact SeqAt.EqAt.int_str i t y u _ _ _ _ h
    · rcases keyIs_shape hv with ⟨j, u, rfl, rfl⟩ | ⟨y, u, rfl, rfl⟩
      · rw [key_rl] at h; exact SeqAt.EqAt.str_int x t j u _ _ _ _ h
      · rw [key_rr] at h; exact wpAny_eqBool_str h
  «strs» := fun k x t v h => by
    rcases keyIs_shape h with ⟨i, u, rfl, e⟩ | ⟨y, u, rfl, e⟩
    · exact nomatch e
    · injection e with e1 _
      subst e1
      cases v <;> rfl
theorem mixKind_int (prog : Program) (w : World) (i : Int) (t : Tok) : (mixKind prog w).is (.inl i) (.int i t) = true := keyIs_int i t
theorem mixKind_str (prog : Program) (w : World) (x : Str) (t : Tok) : (mixKind prog w).is (.inr x) (.str x t) = true := keyIs_str x t
end L2
namespace L2
open PySem PySem.Spec PyProof.Rows
inductive V where
  | non | bl (b : Bool) | int (i : Int) | str (x : Str) | byt (b : Array UInt8) | flt (b : UInt64) | ref (a : Addr) | ty (n : String)
  deriving DecidableEq
def RelV : V → Value → Prop
  | .non, u => u = Value.none
  | .bl b, u => u = Value.bool b
  | .int i, u => ∃ t, u = Value.int i t
  | .str x, u => ∃ t, u = Value.str x t
  | .byt b, u => ∃ t, u = Value.bytes b t
  | .flt b, u => ∃ t, u = Value.float b t
  | .ref a, u => u = Value.ref a
  | .ty n, u => u = Value.type n
abbrev Vals : List V → List Value → Prop := Paired RelV
theorem Vals.length {xs : List V} {us : List Value} (r : Vals xs us) : xs.length = us.length := Paired.length r
theorem Vals.get : ∀ {xs : List V} {us : List Value} {i : Nat} {x : V}, Vals xs us → xs[i]? = some x → ∃ u, us[i]? = some u ∧ RelV x u
  | _, _, _, _, .nil, e => by simp at e
  | _, _, 0, _, .cons r _, e => by simp at e; subst e; exact ⟨_, rfl, r⟩
  | _, _, i + 1, x, .cons _ t, e => by
    obtain ⟨u, h1, h2⟩ := Vals.get (i := i) (x := x) t (by simpa using e)
    exact ⟨u, by simpa using h1, h2⟩
theorem Vals.set {x : V} {u : Value} (r : RelV x u) : ∀ {xs : List V} {us : List Value} (i : Nat), Vals xs us → Vals (xs.set i x) (us.set i u)
  | _, _, _, .nil => .nil
  | _, _, 0, .cons _ t => .cons r t
  | _, _, i + 1, .cons q t => .cons q (Vals.set r i t)
theorem Vals.append : ∀ {xs ys : List V} {us ws : List Value}, Vals xs us → Vals ys ws → Vals (xs ++ ys) (us ++ ws)
  | _, _, _, _, .nil, s => s
  | _, _, _, _, .cons r t, s => .cons r (Vals.append t s)
theorem Vals.take : ∀ {xs : List V} {us : List Value} (n : Nat), Vals xs us → Vals (xs.take n) (us.take n)
  | _, _, 0, _ => .nil
  | _, _, _ + 1, .nil => .nil
  | _, _, n + 1, .cons r t => .cons r (Vals.take n t)
theorem Vals.drop : ∀ {xs : List V} {us : List Value} (n : Nat), Vals xs us → Vals (xs.drop n) (us.drop n)
  | _, _, 0, r => r
  | _, _, _ + 1, .nil => .nil
  | _, _, n + 1, .cons _ t => Vals.drop n t
def RelO : Option V → Option Value → Prop
  | some v, some u => RelV v u
  | none, none => True
  | _, _ => False
def KV {κ : Type} : List (κ × V) → List (κ × Value) → Prop := Paired fun (p : κ × V) (q : κ × Value) => p.1 = q.1 ∧ RelV p.2 q.2
def kV : Key → V
  | .inl i => .int i
  | .inr x => .str x
inductive HO where
  /-- a list -/
  | lst (xs : List V)
  /-- a tuple (never changes) -/
  | tup (xs : List V)
  /-- a dict whose keys are ints and texts; one whose keys are tuples of ints and texts (the empty one is both) -/
  | dK (kvs : List (Key × V)) | dT (kvs : List (List Key × V))
  /-- a set of ints: its members, its size -/
  | set (S : Int → Bool) (n : Nat)
  /-- an instance of the class at C, its dict at dx, its attributes -/
  | ins (C dx : Addr) (fs : List (Str × V))
  /-- the dict of the instance at x -/
  | own (x : Addr)
  /-- the dict of an exception -/
  | xd (fs : List (Str × V))
  /-- a bound method, f of x -/
  | met (f x : Addr)
  /-- a range object lo, lo + 1, .. below hi -/
  | rng (lo hi : Int)
  /-- a thing that is known to the object (the script; a dict while a loop walks it): read, never written while it is so -/
  | frz (o : Obj) (u : HO)
  /-- a code object's table -/
  | tbl (ps : Array Value)
  /-- any other thing, by what is true of its one object (a def of one's own: SetO a S n := HO.ext fun h => ..) -/
  | ext (φ : Heap → Prop)
abbrev Hp := Addr → Option HO
def upd (H : Hp) (a : Addr) (o : HO) : Hp := fun b => if b = a then some o else H b
theorem upd_same {H : Hp} {a : Addr} {o : HO} : upd H a o a = some o := by unfold upd; rw [if_pos rfl]
theorem upd_ne {H : Hp} {a b : Addr} {o : HO} (h : b ≠ a) : upd H a o b = H b := by unfold upd; rw [if_neg h]
theorem ne_of {H : Hp} {a b : Addr} {o u : HO} (h : H a = some o) (h' : H b = some u) (d : o ≠ u) : a ≠ b := by
  intro e; subst e; rw [h] at h'; exact d (Option.some.inj h')
theorem ne_of_none {H : Hp} {a b : Addr} {o : HO} (h : H a = some o) (h' : H b = none) : a ≠ b := by
  intro e; subst e; rw [h] at h'; cases h'
section
variable (P : Program) (w : World)
def ObjOk (H : Hp) (h : Heap) (a : Addr) : HO → Prop
  | .lst xs => xs.length ≤ sizeLine ∧ ∃ (its : List Value) (n : Nat), Vals xs its ∧ h.get? a = some { cls := .type "list", data := .seq its.toArray n }
  | .tup xs => xs.length ≤ sizeLine ∧ ∃ its : List Value, Vals xs its ∧ IsTup h a its.toArray
  | .dK kvs => kvs.length ≤ sizeLine ∧ (a == sysModules) = false ∧ ∃ vs, KV kvs vs ∧ h.DictOf (mixKind P w) a vs
  | .dT kvs => kvs.length ≤ sizeLine ∧ (a == sysModules) = false ∧ ∃ xs : List (List Key × Addr × Value),
      Paired (fun (p : List Key × V) (q : List Key × Addr × Value) => p.1 = q.1 ∧ H q.2.1 = some (.tup (p.1.map kV)) ∧ RelV p.2 q.2.2) kvs xs ∧
      ∃ o es ep, h.get? a = some o ∧ o.ExactDict ∧ o.data = .dict es ep ∧ es.toList = xs.map (entryOfKey (tupleKind (mixKind P w))) ∧ (xs.map (·.1)).Nodup
  | .set S n => h.SetOf (intKind P w) a S n
  | .ins C dx fs => H dx = some (.own a) ∧ fs.length ≤ 1000 ∧ dx ≠ a ∧ h.get? a = some (PySem.W.instObj C dx) ∧
      ∃ mA, h.Ns1 dx mA ∧ (∀ f, RelO (fs.lookup f) (mA f)) ∧ PySem.Within mA (fs.map (·.1))
  | .own _ => ∃ o, h.get? a = some o
  | .xd fs => ∃ mA, h.Ns1 a mA ∧ ∀ f, RelO (fs.lookup f) (mA f)
  | .rng lo hi => ∃ t u v, h.get? a = some { cls := .type "range", data := .fields #[.int lo t, .int hi u, .int 1 v] }
  | .frz o u => h.get? a = some o ∧ ObjOk H h a u
  | .tbl ps => h.get? a = some { cls := .none, data := .fields ps }
  | .met f x => h.get? a = some (PySem.W.methodObj (.ref f) (.ref x))
  | .ext φ => φ h ∧ (∃ o, h.get? a = some o) ∧ ∀ h1 h2 : Heap, φ h1 → (∀ o, h1.get? a = some o → h2.get? a = some o) → φ h2
def HOk (H : Hp) (h : Heap) : Prop := ∀ a o, H a = some o → ObjOk P w H h a o
end
section
variable {P : Program} {w : World} {H H' : Hp} {h h' : Heap} {a : Addr} {o : HO}
theorem ObjOk.lt (x : ObjOk P w H h a o) : a < h.objs.size := by
  cases o with
  | lst xs => obtain ⟨_, _, _, _, e⟩ := x; exact Heap.lt_size e
  | tup xs => obtain ⟨_, _, _, p⟩ := x; exact p.lt
  | dK kvs => obtain ⟨_, _, _, _, o, _, _, e, _⟩ := x; exact Heap.lt_size e
  | dT kvs => obtain ⟨_, _, _, _, o, _, _, e, _⟩ := x; exact Heap.lt_size e
  | set S n => obtain ⟨o, _, _, _, e, _⟩ := x; exact Heap.lt_size e
  | ins C dx fs => obtain ⟨_, _, _, e, _⟩ := x; exact Heap.lt_size e
  | own y => obtain ⟨_, e⟩ := x; exact Heap.lt_size e
  | xd fs => obtain ⟨_, ⟨_, _, _, e, _⟩, _⟩ := x; exact Heap.lt_size e
  | rng lo hi => obtain ⟨_, _, _, e⟩ := x; exact Heap.lt_size e
  | frz ob u => obtain ⟨e, _⟩ := x; exact Heap.lt_size e
  | tbl ps => exact Heap.lt_size (show h.get? a = some _ from x)
  | met f y => exact Heap.lt_size (show h.get? a = some _ from x)
  | ext φ => obtain ⟨_, ⟨_, e⟩, _⟩ := x; exact Heap.lt_size e
theorem Paired.mapP {α β : Type} {F G : α → β → Prop} : ∀ {l₁ : List α} {l₂ : List β}, Paired F l₁ l₂ → (∀ a b, F a b → G a b) → Paired G l₁ l₂
  | _, _, .nil, _ => .nil
  | _, _, .cons r t, f => .cons (f _ _ r) (Paired.mapP t f)
theorem ObjOk.stay (x : ObjOk P w H h a o) (k : ∀ b u, (b = a ∨ H b = some (.own a)) → h.get? b = some u → h'.get? b = some u)
    (ho : ∀ b, H b = some (.own a) → H' b = some (.own a)) (ht : ∀ b xs, H b = some (.tup xs) → H' b = some (.tup xs)) : ObjOk P w H' h' a o := by
  induction o with
  | lst xs => obtain ⟨z, its, n, r, e⟩ := x; exact ⟨z, its, n, r, k _ _ (.inl rfl) e⟩
  | tup xs => obtain ⟨z, its, r, ob, e, c⟩ := x; exact ⟨z, its, r, ob, k _ _ (.inl rfl) e, c⟩
  | dK kvs => obtain ⟨z, y, vs, r, ob, es, ep, e, c⟩ := x; exact ⟨z, y, vs, r, ob, es, ep, k _ _ (.inl rfl) e, c⟩
  | dT kvs =>
    obtain ⟨z, y, xs, r, ob, es, ep, e, c⟩ := x
    exact ⟨z, y, xs, Paired.mapP r fun p q z => ⟨z.1, ht _ _ z.2.1, z.2.2⟩, ob, es, ep, k _ _ (.inl rfl) e, c⟩
  | set S n => obtain ⟨ob, es, ep, t, e, c⟩ := x; exact ⟨ob, es, ep, t, k _ _ (.inl rfl) e, c⟩
  | ins C dx fs =>
    obtain ⟨d, z, ne, e, mA, ⟨od, es, ep, e2, c⟩, r⟩ := x
    exact ⟨ho _ d, z, ne, k _ _ (.inl rfl) e, mA, ⟨od, es, ep, k _ _ (.inr d) e2, c⟩, r⟩
  | own y => obtain ⟨ob, e⟩ := x; exact ⟨ob, k _ _ (.inl rfl) e⟩
  | xd fs => obtain ⟨mA, ⟨od, es, ep, e, c⟩, r⟩ := x; exact ⟨mA, ⟨od, es, ep, k _ _ (.inl rfl) e, c⟩, r⟩
  | rng lo hi => obtain ⟨t, u, v, e⟩ := x; exact ⟨t, u, v, k _ _ (.inl rfl) e⟩
  | frz ob u ih => obtain ⟨e, q⟩ := x; exact ⟨k _ _ (.inl rfl) e, ih q⟩
  | tbl ps =>
    have e : h.get? a = some { cls := .none, data := .fields ps } := x
    show h'.get? a = some { cls := .none, data := .fields ps }
    exact k a _ (.inl rfl) e
  | met f y =>
    have e : h.get? a = some (PySem.W.methodObj (.ref f) (.ref y)) := x
    show h'.get? a = some (PySem.W.methodObj (.ref f) (.ref y))
    exact k a _ (.inl rfl) e
  | ext φ => obtain ⟨p, ⟨o, e⟩, st⟩ := x; exact ⟨st _ _ p fun o q => k _ _ (.inl rfl) q, ⟨o, k _ _ (.inl rfl) e⟩, st⟩
theorem HOk.lt (x : HOk P w H h) (e : H a = some o) : a < h.objs.size := (x a o e).lt
theorem HOk.fresh (x : HOk P w H h) (e : h.objs.size ≤ a) : H a = none := by
  cases q : H a with
  | none => rfl
  | some u => exact absurd (Nat.lt_of_lt_of_le (x.lt q) e) (Nat.lt_irrefl _)
theorem HOk.kept (x : HOk P w H h) (k : ∀ b u, h.get? b = some u → h'.get? b = some u) : HOk P w H h' := fun a o e =>
  (x a o e).stay (fun b u _ q => k b u q) (fun _ q => q) fun _ _ q => q
theorem HOk.laid (x : HOk P w H h) (k : ∀ b u, h.get? b = some u → h'.get? b = some u) (hp : h.objs.size ≤ a) (new : ObjOk P w (upd H a o) h' a o) : HOk P w (upd H a o) h' := fun b u e => by
  have hn := x.fresh hp
  by_cases hb : b = a
  · subst hb; rw [upd_same] at e; cases e; exact new
  · rw [upd_ne hb] at e
    exact (x b u e).stay (fun c v _ q => k c v q) (fun c q => by rw [upd_ne (ne_of_none q hn)]; exact q) fun c xs q => by rw [upd_ne (ne_of_none q hn)]; exact q
end
def Rd (H : Hp) (a : Addr) (u : HO) : Prop := H a = some u ∨ ∃ o, H a = some (.frz o u)
theorem Rd.of {H : Hp} {a : Addr} {u : HO} (h : H a = some u) : Rd H a u := .inl h
theorem Rd.ok {P : Program} {w : World} {H : Hp} {h : Heap} {a : Addr} {u : HO} (r : Rd H a u) (x : HOk P w H h) : ObjOk P w H h a u := by
  rcases r with r | ⟨o, r⟩
  · exact x a u r
  · obtain ⟨_, q⟩ := x a _ r
    exact q
def Mut : Option HO → Prop
  | some (.lst _) => True
  | some (.dK _) => True
  | some (.dT _) => True
  | some (.set _ _) => True
  | some (.ins _ _ _) => True
  | some (.ext _) => True
  | _ => False
section
variable {P : Program} {w : World} {H : Hp} {h h' : Heap} {x e : Addr} {o' : HO}
theorem HOk.write (ok : HOk P w H h) (mu : Mut (H x)) (he : e = x ∨ H e = some (.own x)) (k : ∀ b u, b ≠ e → h.get? b = some u → h'.get? b = some u) (heo : ∃ u, h'.get? e = some u)
    (new : ObjOk P w (upd H x o') h' x o') : HOk P w (upd H x o') h' := fun b u q => by
  have nown : ∀ c y, H c = some (.own y) → c ≠ x := fun c y r z => by subst z; rw [r] at mu; exact mu
  have ntup : ∀ c xs, H c = some (.tup xs) → c ≠ x := fun c xs r z => by subst z; rw [r] at mu; exact mu
  by_cases hb : b = x
  · subst hb; rw [upd_same] at q; cases q; exact new
  · rw [upd_ne hb] at q
    by_cases hbe : b = e
    · have q' : H b = some (.own x) := by
        rcases he with z | z
        · exact absurd (hbe.trans z) hb
        · rw [hbe]; exact z
      rw [q] at q'; cases q'
      obtain ⟨v, hv⟩ := heo
      exact ⟨v, by rw [hbe]; exact hv⟩
    · refine (ok b u q).stay (fun c v hc r => k c v ?_ r) (fun c r => by rw [upd_ne (nown c b r)]; exact r) fun c xs r => by rw [upd_ne (ntup c xs r)]; exact r
      rcases hc with rfl | hc
      · exact hbe
      · rintro rfl
        rcases he with z | z
        · exact nown c b hc z
        · rw [hc] at z; cases z; exact hb rfl
end
structure Un (fs ex : List Addr) (H H' : Hp) (h h' : Heap) : Prop where
  keep : ∀ b o, h.get? b = some o → H b = none → b ∉ fs → b ∉ ex → h'.get? b = some o
  slot : ∀ b o, h.get? b = some o → H b = none → b ∈ fs → b ∉ ex → ∃ sl, h'.get? b = some { o with slots := sl }
  free : ∀ b o, h.get? b = some o → H b = none → b ∉ ex → H' b = none
  there : ∀ b o, h.get? b = some o → b ∉ ex → ∃ o', h'.get? b = some o'
  tups : ∀ b xs, H b = some (.tup xs) → H' b = some (.tup xs)
  frzs : ∀ b o u, H b = some (.frz o u) → H' b = some (.frz o u)
  tbls : ∀ b ps, H b = some (.tbl ps) → ∃ more, H' b = some (.tbl (ps ++ more))
section
variable {fs fs' ex ex' : List Addr} {H H1 H2 : Hp} {h h1 h2 h' : Heap} {a x e : Addr} {o : HO}
theorem Un.any (u : Un fs ex H H1 h h1) {b : Addr} {ob : Obj} (q : h.get? b = some ob) (n : H b = none) (hx : b ∉ ex) : ∃ sl, h1.get? b = some { ob with slots := sl } := by
  by_cases hb : b ∈ fs
  · exact u.slot b ob q n hb hx
  · exact ⟨ob.slots, u.keep b ob q n hb hx⟩
theorem Un.kept (k : ∀ b u, h.get? b = some u → h'.get? b = some u) : Un fs ex H H h h' :=
  ⟨fun b ob q _ _ _ => k b ob q, fun b ob q _ _ _ => ⟨ob.slots, k b ob q⟩, fun _ _ _ n _ => n, fun b ob q _ => ⟨ob, k b ob q⟩, fun _ _ q => q, fun _ _ _ q => q, fun _ ps q => ⟨#[], by rw [q]; simp⟩⟩
theorem Un.refl : Un fs ex H H h h := Un.kept fun _ _ q => q
theorem Un.laid (k : ∀ b u, h.get? b = some u → h'.get? b = some u) (hp : h.objs.size ≤ a) (hn : H a = none) : Un fs ex H (upd H a o) h h' where
  keep := fun b u q _ _ _ => k b u q
  slot := fun b u q _ _ _ => ⟨u.slots, k b u q⟩
  free := fun b u q n _ => by rw [upd_ne (Nat.ne_of_lt (Nat.lt_of_lt_of_le (Heap.lt_size q) hp))]; exact n
  there := fun b u q _ => ⟨u, k b u q⟩
  tups := fun b xs q => by rw [upd_ne (ne_of_none q hn)]; exact q
  frzs := fun b u xs q => by rw [upd_ne (ne_of_none q hn)]; exact q
  tbls := fun b ps q => ⟨#[], by rw [upd_ne (ne_of_none q hn), q]; simp⟩
theorem Un.write (mu : Mut (H x)) (he : e = x ∨ H e = some (.own x)) (k : ∀ b u, b ≠ e → h.get? b = some u → h'.get? b = some u) (heo : ∃ u, h'.get? e = some u) : Un fs ex H (upd H x o) h h' := by
  have hx : ∀ b, H b = none → b ≠ x := fun b n z => by subst z; rw [n] at mu; exact mu
  have hb : ∀ b, H b = none → b ≠ e := fun b n z => by
    subst z
    rcases he with r | r
    · exact hx b n r
    · rw [n] at r; cases r
  have hm : ∀ b u, H b = some u → ¬ Mut (some u) → b ≠ x := fun b u q nm z => by subst z; rw [q] at mu; exact nm mu
  refine ⟨fun b u q n _ _ => k b u (hb b n) q, fun b u q n _ _ => ⟨u.slots, k b u (hb b n) q⟩, fun b u q n _ => by rw [upd_ne (hx b n)]; exact n, fun b u q _ => ?_,
    fun b xs q => by rw [upd_ne (hm b _ q fun z => z)]; exact q, fun b u xs q => by rw [upd_ne (hm b _ q fun z => z)]; exact q, fun b ps q => ⟨#[], by rw [upd_ne (hm b _ q fun z => z), q]; simp⟩⟩
  by_cases hbe : b = e
  · subst hbe; exact heo
  · exact ⟨u, k b u hbe q⟩
end
def trk (h : Heap) (H : Hp) : List Addr := (List.range h.objs.size).filter fun a => (H a).isSome
def hidT (h : Heap) (H : Hp) : Heap := PySem.W.hideAll h (trk h H)
theorem hidT_size (h : Heap) (H : Hp) : (hidT h H).objs.size = h.objs.size := PySem.W.hideAll_size _ _
theorem hidT_get {h : Heap} {H : Hp} {b : Addr} {o : Obj} (e : h.get? b = some o) (n : H b = none) : (hidT h H).get? b = some o :=
  PySem.W.hideAll_get _ e fun hm => by
    have q : (H b).isSome = true := (List.mem_filter.mp hm).2
    rw [n] at q; simp at q
theorem of_hidT {h : Heap} {H : Hp} {b : Addr} {o : Obj} (e : (hidT h H).get? b = some o) : h.get? b = some o ∧ H b = none := by
  have e' : h.get? b = some o := PySem.W.of_hideAll (trk h H) e
  refine ⟨e', ?_⟩
  cases q : H b with
  | none => rfl
  | some x =>
    have hm : b ∈ trk h H := List.mem_filter.mpr ⟨List.mem_range.mpr (Heap.lt_size e'), by simp [q]⟩
    have z : (hidT h H).get? b = none := PySem.W.hideAll_none (trk h H) hm
    rw [z] at e; cases e
def allNews (g h : Heap) (L : Addr) : List (Addr × Obj) := (List.range h.objs.size).filterMap fun a => if a = L ∨ (g.get? a).isSome = true then none else (h.get? a).map fun o => (a, o)
def rest (g h : Heap) (L d : Addr) : List (Addr × Obj) := (allNews g h L).filter fun p => decide (p.1 ≠ d)
end L2
namespace L2
open PySem PySem.Spec PyProof.Rows
structure Mod (K : PySem.W.Frag) (mg : Str → Option Value) (base : Heap) : Prop where
  kin : K.In base
  glob : base.Ns mainGlobals mg
  blt : ∃ mb, base.Ns builtinsNs mb ∧ ∀ x : Str, x ≠ "__name__" → mb x = bootBuiltins x
  nolimit : base.NoLimit
structure Cx where
  prog : Program
  w : World
  K : PySem.W.Frag
  mg : Str → Option Value
  base : Heap
  A : Around
  N : List Str
  s₀ : Shared
  H₀ : Hp
  env : Env
  outer : List Env
  stack : List Env
  ex : List Addr
  fn : Str → Bool
  calm : Bool
  pn : List (Addr × Obj)
  xe : Value → Shared → Prop
def frs (l : List Env) : List Addr := l.filterMap (·.frame)
abbrev Cx.fs (X : Cx) : List Addr := frs X.outer
def Vis (sc : Scope) (x : Str) : Prop := sc.names.lookup x = some .local ∨ sc.names.lookup x = some .cell ∨ sc.names.lookup x = some .free
def Loc (sc : Scope) (x : Str) : Prop := sc.names.lookup x = some .local ∨ sc.names.lookup x = some .cell
def Look (env : Env) (h : Heap) (m : Str → Option Value) (x : Str) (u : Value) : Prop :=
  (env.kindOf x = some .local ∧ m x = some u) ∨ ((env.kindOf x = some .cell ∨ env.kindOf x = some .free) ∧ ∃ c, env.cells.lookup x = some c ∧ h.IsCell c (some u))
structure Cx.Ok (X : Cx) : Prop where
  mod : Mod X.K X.mg X.base
  kind : X.env.scope.kind = .function
  glob : X.env.globals = mainGlobals
  blt : X.env.builtins = builtinsNs
  above : X.s₀.heap.objs.size ≤ X.env.locals
  inj : ∀ x y c, X.env.cells.lookup x = some c → X.env.cells.lookup y = some c → x = y
  has : ∀ x, (X.env.kindOf x = some .cell ∨ X.env.kindOf x = some .free) → ∃ c, X.env.cells.lookup x = some c
  cab : ∀ x c, X.fn x = true → X.env.cells.lookup x = some c → X.s₀.heap.objs.size ≤ c
  hd : X.calm = true → X.A.handled = none
  frames : X.A.frames = some X.stack
  stk : X.stack = X.outer ∨ (X.stack = X.env :: X.outer ∧ X.env.frame = some X.env.locals)
  exf : ∀ b ∈ X.ex, b ≠ X.env.locals ∧ ∀ x c, X.env.cells.lookup x = some c → c ≠ b
  bs : ∀ b o, X.base.get? b = some o → X.s₀.heap.get? b = some o ∧ X.H₀ b = none
  bsz : X.base.objs.size ≤ X.s₀.heap.objs.size
  noex : ∀ b o, X.base.get? b = some o → b ∉ X.ex
  exfs : ∀ b ∈ X.ex, b ∉ X.fs
  funs : X.s₀.heap.FunFrames X.base X.outer
  frf : ∀ b ∈ X.fs, X.H₀ b = none
structure Inv (X : Cx) (pins : List (Addr × Obj)) (σ : List (Option V)) (H : Hp) (s : Shared) : Prop where
  ok : X.Ok
  os : s.os = X.s₀.os
  bare : AllBare s.gens
  base : Un X.fs X.ex X.H₀ H X.s₀.heap s.heap
  loc : ∃ m, s.heap.Ns X.env.locals m ∧ ∀ (i : Nat) (x : Str) (v : V), X.N[i]? = some x → σ[i]? = some (some v) → Vis X.env.scope x → ∃ u, RelV v u ∧ Look X.env s.heap m x u
  cell : ∀ x c, X.env.cells.lookup x = some c → ∃ v, s.heap.IsCell c v
  free : H X.env.locals = none
  freeC : ∀ x c, X.env.cells.lookup x = some c → H c = none
  pin : ∀ p ∈ X.pn ++ pins, s.heap.get? p.1 = some p.2 ∧ H p.1 = none ∧ p.1 ≠ X.env.locals ∧ p.1 ∉ X.fs ∧ ∀ v, p.2.data ≠ .cell v
  hok : HOk X.prog X.w H s.heap
  len : σ.length = X.N.length
section
variable {X : Cx} {pins : List (Addr × Obj)} {σ : List (Option V)} {H H' : Hp} {s : Shared} {h' : Heap}
theorem Cx.Ok.nofr (ok : X.Ok) {b : Addr} {o : Obj} (e : X.base.get? b = some o) : b ∉ X.fs := fun hb => by
  have := (ok.funs.mem hb).1
  rw [e] at this; cases this
theorem Inv.bs (I : Inv X pins σ H s) : ∀ b o, X.base.get? b = some o → s.heap.get? b = some o ∧ H b = none := fun b o e =>
  ⟨I.base.keep b o (I.ok.bs b o e).1 (I.ok.bs b o e).2 (I.ok.nofr e) (I.ok.noex b o e), I.base.free b o (I.ok.bs b o e).1 (I.ok.bs b o e).2 (I.ok.noex b o e)⟩
theorem Inv.bk (I : Inv X pins σ H s) : ∀ b o, X.base.get? b = some o → s.heap.get? b = some o := fun b o e => (I.bs b o e).1
theorem Inv.mod (I : Inv X pins σ H s) : Mod X.K X.mg X.base := I.ok.mod
theorem Inv.kIn (I : Inv X pins σ H s) : X.K.In s.heap := I.ok.mod.kin.keeps I.bk
theorem Inv.fr (I : Inv X pins σ H s) : ∃ m, Fr X.base X.env.locals s.heap m :=
  let ⟨m, hn, _⟩ := I.loc
  ⟨m, hn, I.bk, Nat.le_trans I.ok.bsz I.ok.above⟩
theorem Inv.lt (I : Inv X pins σ H s) : X.env.locals < s.heap.objs.size := let ⟨_, hn, _⟩ := I.loc; hn.lt
theorem Inv.sz (I : Inv X pins σ H s) : X.s₀.heap.objs.size ≤ s.heap.objs.size := Nat.le_trans I.ok.above (Nat.le_of_lt I.lt)
theorem Inv.nofs (I : Inv X pins σ H s) {a : Addr} (h : s.heap.objs.size ≤ a) : a ∉ X.fs := fun hb => by
  obtain ⟨_, o, ho, _⟩ := I.ok.funs.mem hb
  exact absurd (Nat.lt_of_lt_of_le (Heap.lt_size ho) (Nat.le_trans I.sz h)) (Nat.lt_irrefl _)
theorem Inv.cne (I : Inv X pins σ H s) : ∀ x c, X.env.cells.lookup x = some c → c ≠ X.env.locals := fun x c e z => by
  obtain ⟨v, o, ho, hd⟩ := I.cell x c e
  obtain ⟨m, ⟨o', es, ep, ho', hd', _⟩, _⟩ := I.loc
  rw [z, ho'] at ho; cases ho; rw [hd'] at hd; cases hd
theorem Inv.funs (I : Inv X pins σ H s) : s.heap.FunFrames X.base X.outer := by
  have all : ∀ (l : List Env), (∀ b ∈ frs l, b ∈ X.fs) → X.s₀.heap.FunFrames X.base l → s.heap.FunFrames X.base l := by
    intro l
    induction l with
    | nil => intro _ _; trivial
    | cons env r ih =>
      intro hs hl
      obtain ⟨hk, ⟨L, o, hf, hn, ho, hd⟩, hr⟩ := hl
      have hL : L ∈ X.fs := hs L (by unfold frs; rw [List.filterMap_cons, hf]; exact List.mem_cons_self)
      obtain ⟨sl, e⟩ := I.base.slot L o ho (I.ok.frf L hL) hL fun z => I.ok.exfs L z hL
      exact ⟨hk, ⟨L, _, hf, hn, e, hd⟩, ih (fun b hb => hs b (by unfold frs; rw [List.filterMap_cons, hf]; exact List.mem_cons_of_mem _ hb)) hr⟩
  exact all X.outer (fun _ hb => hb) I.ok.funs
theorem Inv.stack (I : Inv X pins σ H s) : s.heap.FunFrames X.base X.stack := by
  rcases I.ok.stk with e | ⟨e, hf⟩
  · rw [e]; exact I.funs
  · rw [e]
    obtain ⟨m, hn, _⟩ := I.loc
    refine .cons (by rw [I.ok.kind]; decide) hf hn ?_ I.funs
    exact Heap.get?_none_of_le (Nat.le_trans I.ok.bsz I.ok.above)
theorem Inv.stkSub (I : Inv X pins σ H s) : ∀ b ∈ frs X.stack, b ∈ X.env.locals :: X.fs := fun b hb => by
  rcases I.ok.stk with e | ⟨e, hf⟩
  · rw [e] at hb; exact List.mem_cons_of_mem _ hb
  · rw [e] at hb
    unfold frs at hb
    rw [List.filterMap_cons, hf] at hb
    exact hb
theorem Inv.stkFree (I : Inv X pins σ H s) : ∀ b ∈ frs X.stack, H b = none := fun b hb => by
  rcases List.mem_cons.mp (I.stkSub b hb) with e | hb
  · rw [e]; exact I.free
  · obtain ⟨_, o, ho, _⟩ := I.ok.funs.mem hb
    exact I.base.free b o ho (I.ok.frf b hb) fun z => I.ok.exfs b z hb
theorem Inv.step {g' : Array GenState} {t' : Nat} {d' : Drawn} {ch : List Addr} (I : Inv X pins σ H s)
    (hch : ∀ b ∈ ch, (b ∈ X.ex ∨ X.s₀.heap.objs.size ≤ b) ∧ b ≠ X.env.locals ∧ (∀ x c, X.env.cells.lookup x = some c → c ≠ b) ∧ ∀ p ∈ X.pn ++ pins, p.1 ≠ b)
    (keep : ∀ b o, b ≠ X.env.locals → b ∉ X.fs → b ∉ ch → s.heap.get? b = some o → H b = none → h'.get? b = some o)
    (slot : ∀ b o, b ≠ X.env.locals → b ∈ X.fs → b ∉ ch → s.heap.get? b = some o → H b = none → ∃ sl, h'.get? b = some { o with slots := sl }) (free : ∀ b o, b ∉ ch → s.heap.get? b = some o → H b = none → H' b = none)
    (there : ∀ b o, b ∉ ch → s.heap.get? b = some o → ∃ o', h'.get? b = some o')
    (tups : ∀ b xs, H b = some (.tup xs) → H' b = some (.tup xs)) (frzs : ∀ b o u, H b = some (.frz o u) → H' b = some (.frz o u)) (tbls : ∀ b ps, H b = some (.tbl ps) → ∃ more, H' b = some (.tbl (ps ++ more)))
    (ns : ∀ m, s.heap.Ns X.env.locals m → h'.Ns X.env.locals m) (hok : HOk X.prog X.w H' h') (hg : AllBare g') :
    Inv X pins σ H' { s with heap := h', gens := g', drawn := d', toks := t' } := by
  have neL : ∀ b o, X.s₀.heap.get? b = some o → b ≠ X.env.locals := fun b o e => Nat.ne_of_lt (Nat.lt_of_lt_of_le (Heap.lt_size e) I.ok.above)
  have neC : ∀ b o, X.s₀.heap.get? b = some o → b ∉ X.ex → b ∉ ch := fun b o e hx hb => by
    rcases (hch b hb).1 with z | z
    · exact hx z
    · exact absurd (Nat.lt_of_lt_of_le (Heap.lt_size e) z) (Nat.lt_irrefl _)
  have cellK : ∀ x c, X.env.cells.lookup x = some c → ∀ v, s.heap.IsCell c v → h'.IsCell c v := fun x c e v ⟨o, ho, hd⟩ => by
    have nch : c ∉ ch := fun z => (hch c z).2.2.1 x c e rfl
    by_cases hc : c ∈ X.fs
    · obtain ⟨sl, q⟩ := slot c o (I.cne x c e) hc nch ho (I.freeC x c e)
      exact ⟨_, q, hd⟩
    · exact ⟨o, keep c o (I.cne x c e) hc nch ho (I.freeC x c e), hd⟩
  refine ⟨I.ok, I.os, hg, ⟨fun b o e n hb hx => ?_, fun b o e n hb hx => ?_, fun b o e n hx => ?_, fun b o e hx => ?_, fun b xs e => tups b xs (I.base.tups b xs e), fun b o xs e => frzs b o xs (I.base.frzs b o xs e), fun b ps e => ?_⟩, ?_, fun x c e => ?_, ?_, fun x c e => ?_, fun p hp => ?_, hok, I.len⟩
  · exact keep b o (neL b o e) hb (neC b o e hx) (I.base.keep b o e n hb hx) (I.base.free b o e n hx)
  · obtain ⟨sl, e1⟩ := I.base.slot b o e n hb hx
    obtain ⟨sl', e2⟩ := slot b _ (neL b o e) hb (neC b o e hx) e1 (I.base.free b o e n hx)
    exact ⟨sl', e2⟩
  · obtain ⟨o', e1⟩ := I.base.there b o e hx
    exact free b o' (neC b o e hx) e1 (I.base.free b o e n hx)
  · obtain ⟨o', e1⟩ := I.base.there b o e hx
    exact there b o' (neC b o e hx) e1
  · obtain ⟨m1, e1⟩ := I.base.tbls b ps e
    obtain ⟨m2, e2⟩ := tbls b _ e1
    exact ⟨m1 ++ m2, by rw [e2, Array.append_assoc]⟩
  · obtain ⟨m, hn, hl⟩ := I.loc
    refine ⟨m, ns m hn, fun i x v e1 e2 e3 => ?_⟩
    obtain ⟨u, r, l⟩ := hl i x v e1 e2 e3
    refine ⟨u, r, ?_⟩
    rcases l with l | ⟨k, c, e, z⟩
    · exact .inl l
    · exact .inr ⟨k, c, e, cellK x c e _ z⟩
  · obtain ⟨v, z⟩ := I.cell x c e
    exact ⟨v, cellK x c e v z⟩
  · obtain ⟨m, ⟨o, _, _, ho, _⟩, _⟩ := I.loc
    exact free _ o (fun z => (hch _ z).2.1 rfl) ho I.free
  · obtain ⟨v, o, ho, hd⟩ := I.cell x c e
    exact free c o (fun z => (hch c z).2.2.1 x c e rfl) ho (I.freeC x c e)
  · obtain ⟨e, n, ne, nf, d⟩ := I.pin p hp
    have nch : p.1 ∉ ch := fun z => (hch p.1 z).2.2.2 p hp rfl
    exact ⟨keep p.1 p.2 ne nf nch e n, free p.1 p.2 nch e n, ne, nf, d⟩
theorem Inv.un {t' : Nat} (I : Inv X pins σ H s) (u : Un X.fs [] H H' s.heap h') (hok : HOk X.prog X.w H' h') : Inv X pins σ H' { s with heap := h', toks := t' } := by
  obtain ⟨m, ⟨o, es, ep, ho, r⟩, _⟩ := id I.loc
  obtain ⟨sl, hL⟩ := u.any ho I.free (by simp)
  exact I.step (g' := s.gens) (d' := s.drawn) (ch := []) (fun _ z => nomatch z) (fun b o _ hb _ e n => u.keep b o e n hb (by simp)) (fun b o _ hb _ e n => u.slot b o e n hb (by simp)) (fun b o _ e n => u.free b o e n (by simp)) (fun b o _ e => u.there b o e (by simp)) u.tups u.frzs u.tbls (fun m' hm => by
    obtain ⟨o', es', ep', ho', r'⟩ := hm
    rw [ho] at ho'; cases ho'
    exact ⟨_, es', ep', hL, r'⟩) hok I.bare
theorem Inv.call {g' : Array GenState} {t' : Nat} {d' : Drawn} {ch : List Addr} (I : Inv X pins σ H s) (u : Un (frs X.stack) ch H H' s.heap h') (hok : HOk X.prog X.w H' h') (hg : AllBare g')
    (hch : ∀ b ∈ ch, (b ∈ X.ex ∨ X.s₀.heap.objs.size ≤ b) ∧ b ≠ X.env.locals ∧ (∀ x c, X.env.cells.lookup x = some c → c ≠ b) ∧ ∀ p ∈ X.pn ++ pins, p.1 ≠ b) :
    Inv X pins σ H' { s with heap := h', gens := g', drawn := d', toks := t' } := by
  obtain ⟨m, ⟨o, es, ep, ho, r⟩, _⟩ := id I.loc
  obtain ⟨sl, hL⟩ := u.any ho I.free fun z => (hch _ z).2.1 rfl
  exact I.step (ch := ch) hch (fun b o hL hb hc e n => u.keep b o e n (fun z => (List.mem_cons.mp (I.stkSub b z)).elim hL hb) hc) (fun b o _ _ hc e n => u.any e n hc) (fun b o hc e n => u.free b o e n hc) (fun b o hc e => u.there b o e hc) u.tups u.frzs u.tbls (fun m' hm => by
    obtain ⟨o', es', ep', ho', r'⟩ := hm
    rw [ho] at ho'; cases ho'
    exact ⟨_, es', ep', hL, r'⟩) hok hg
theorem Inv.turned {t' : Nat} {it : Addr} (I : Inv X pins σ H s) (k : ∀ b o, b ≠ it → s.heap.get? b = some o → h'.get? b = some o) (hn : H it = none) (hL : it ≠ X.env.locals)
    (h1 : it ∈ X.ex ∨ X.s₀.heap.objs.size ≤ it) (h2 : ∀ x c, X.env.cells.lookup x = some c → c ≠ it) (h3 : ∀ p ∈ X.pn ++ pins, p.1 ≠ it) : Inv X pins σ H { s with heap := h', toks := t' } := by
  have nit : ∀ b u, H b = some u → b ≠ it := fun b u e z => by rw [z, hn] at e; cases e
  refine I.step (g' := s.gens) (d' := s.drawn) (ch := [it]) (fun b hb => ?_) (fun b o _ _ hc e _ => k b o (fun z => hc (by simp [z])) e) (fun b o _ _ hc e _ => ⟨o.slots, k b o (fun z => hc (by simp [z])) e⟩) (fun _ _ _ _ n => n)
    (fun b o hc e => ⟨o, k b o (fun z => hc (by simp [z])) e⟩) (fun _ _ e => e) (fun _ _ _ e => e) (fun b ps e => ⟨#[], by rw [e]; simp⟩) (fun m hm => ?_) (fun b u e => ?_) I.bare
  · have e : b = it := by simpa using hb
    subst e
    exact ⟨h1, hL, h2, h3⟩
  · obtain ⟨o, es, ep, ho, r⟩ := hm
    exact ⟨o, es, ep, k _ o (Ne.symm hL) ho, r⟩
  · refine (I.hok b u e).stay (fun c v hc q => k c v ?_ q) (fun _ q => q) fun _ _ q => q
    rcases hc with z | z
    · rw [z]; exact nit b u e
    · exact nit c _ z
theorem Inv.tok (I : Inv X pins σ H s) (t : Nat) : Inv X pins σ H { s with toks := t } := I.un (h' := s.heap) (t' := t) Un.refl I.hok
theorem Inv.kept {t' : Nat} (I : Inv X pins σ H s) (k : ∀ b u, s.heap.get? b = some u → h'.get? b = some u) : Inv X pins σ H { s with heap := h', toks := t' } := I.un (Un.kept k) (I.hok.kept k)
theorem Inv.laid {a : Addr} {o : HO} {t' : Nat} (I : Inv X pins σ H s) (k : ∀ b u, s.heap.get? b = some u → h'.get? b = some u) (hp : s.heap.objs.size ≤ a) (new : ObjOk X.prog X.w (upd H a o) h' a o) :
    Inv X pins σ (upd H a o) { s with heap := h', toks := t' } := I.un (Un.laid k hp (I.hok.fresh hp)) (I.hok.laid k hp new)
theorem Inv.write {x e : Addr} {o : HO} {t' : Nat} (I : Inv X pins σ H s) (mu : Mut (H x)) (he : e = x ∨ H e = some (.own x)) (k : ∀ b u, b ≠ e → s.heap.get? b = some u → h'.get? b = some u) (heo : ∃ u, h'.get? e = some u)
    (new : ObjOk X.prog X.w (upd H x o) h' x o) : Inv X pins σ (upd H x o) { s with heap := h', toks := t' } := I.un (Un.write mu he k heo) (I.hok.write mu he k heo new)
theorem Inv.pins_of {pins' : List (Addr × Obj)} (I : Inv X pins σ H s) (h : ∀ p ∈ pins', s.heap.get? p.1 = some p.2 ∧ H p.1 = none ∧ p.1 ≠ X.env.locals ∧ p.1 ∉ X.fs ∧ ∀ v, p.2.data ≠ .cell v) : Inv X pins' σ H s :=
  ⟨I.ok, I.os, I.bare, I.base, I.loc, I.cell, I.free, I.freeC, fun p hp => (List.mem_append.mp hp).elim (fun z => I.pin p (List.mem_append_left _ z)) (h p), I.hok, I.len⟩
theorem nodup_ix {N : List Str} (hN : N.Nodup) {i j : Nat} {x : Str} (a : N[i]? = some x) (b : N[j]? = some x) : i = j := by
  obtain ⟨h1, e1⟩ := List.getElem?_eq_some_iff.mp a
  obtain ⟨h2, e2⟩ := List.getElem?_eq_some_iff.mp b
  exact (List.getElem_inj hN).mp (e1.trans e2.symm)
theorem store_ok2 {M : Model} {A : Around} {E : Value → Shared → Prop} {i : Nat} {x : Str} {v : V} {u : Value} {Q : Unit → Shared → Prop} (I : Inv X pins σ H s) (hN : X.N.Nodup) (hi : X.N[i]? = some x) (hx : Loc X.env.scope x) (r : RelV v u)
    (h : ∀ s', Inv X pins (σ.set i (some v)) H s' → (∃ a, Heap.SameBut a s.heap s'.heap ∧ (a = X.env.locals ∨ X.env.cells.lookup x = some a)) → Q () s') (hf : X.fn x = true ∨ X.env.scope.names.lookup x = some .local := by first | exact .inl rfl | exact .inr rfl | assumption) : wpAny M A (storeName X.env x u) Q E s := by
  obtain ⟨m, hn, hl⟩ := id I.loc
  have hcls : (X.env.scope.kind == .class || (X.env.scope.kind == .module && X.env.locals != X.env.globals)) = false := by rw [I.ok.kind]; rfl
  have hiσ : i < σ.length := by rw [I.len]; exact (List.getElem?_eq_some_iff.mp hi).1
  have cne := I.cne
  have tracked : ∀ {a : Addr} {h' : Heap}, (∃ o, s.heap.get? a = some o ∧ H a = none) → Heap.SameBut a s.heap h' → HOk X.prog X.w H h' := fun {a h'} ha hs b ob e => by
    obtain ⟨_, _, hfree⟩ := ha
    refine (I.hok b ob e).stay (fun c w' hc q => (hs.2 c ?_).trans q) (fun _ q => q) fun _ _ q => q
    rintro rfl
    rcases hc with rfl | hc
    · rw [hfree] at e; cases e
    · rw [hfree] at hc; cases hc
  rcases hx with hk | hk
  · refine wpAny_storeName_local hk hn (fun h' hn' hs => ?_) hcls
    obtain ⟨oL, _, _, hoL, _⟩ := id hn
    refine h _ ⟨I.ok, I.os, I.bare, ⟨fun b o e n hb hx => ?_, fun b o e n hb hx => ?_, I.base.free, fun b o e hx => ?_, I.base.tups, I.base.frzs, I.base.tbls⟩, ⟨_, hn', fun j y v' e1 e2 e3 => ?_⟩, fun y c e => ?_, I.free, I.freeC, fun p hp => ?_, tracked ⟨oL, hoL, I.free⟩ hs, by simpa using I.len⟩ ⟨_, hs, .inl rfl⟩
    · exact (hs.2 b (Nat.ne_of_lt (Nat.lt_of_lt_of_le (Heap.lt_size e) I.ok.above))).trans (I.base.keep b o e n hb hx)
    · obtain ⟨sl, e1⟩ := I.base.slot b o e n hb hx
      exact ⟨sl, (hs.2 b (Nat.ne_of_lt (Nat.lt_of_lt_of_le (Heap.lt_size e) I.ok.above))).trans e1⟩
    · obtain ⟨o', e1⟩ := I.base.there b o e hx
      exact ⟨o', (hs.2 b (Nat.ne_of_lt (Nat.lt_of_lt_of_le (Heap.lt_size e) I.ok.above))).trans e1⟩
    · by_cases hj : j = i
      · subst hj
        rw [hi] at e1; cases e1
        rw [List.getElem?_set_self hiσ] at e2
        cases e2
        exact ⟨u, r, .inl ⟨hk, by simp⟩⟩
      · rw [List.getElem?_set_ne (Ne.symm hj)] at e2
        obtain ⟨u', r', q⟩ := hl j y v' e1 e2 e3
        refine ⟨u', r', ?_⟩
        rcases q with ⟨k, e⟩ | ⟨k, c, e, z⟩
        · refine .inl ⟨k, ?_⟩
          have : y ≠ x := fun e => hj (nodup_ix hN e1 (e ▸ hi))
          simp [this, e]
        · exact .inr ⟨k, c, e, z.sameBut hs (cne y c e)⟩
    · obtain ⟨w', z⟩ := I.cell y c e
      exact ⟨w', z.sameBut hs (cne y c e)⟩
    · obtain ⟨e, n, ne, nf, d⟩ := I.pin p hp
      exact ⟨(hs.2 p.1 ne).trans e, n, ne, nf, d⟩
  · have hfn : X.fn x = true := by
      rcases hf with z | z
      · exact z
      · rw [z] at hk; cases hk
    obtain ⟨c, hc⟩ := I.ok.has x (.inl hk)
    obtain ⟨w', z⟩ := I.cell x c hc
    refine wpAny_storeName_cell I.ok.kind hk hc z (fun h' hc' hs => ?_)
    obtain ⟨oc, hoc, hocd⟩ := id z
    refine h { s with heap := h' } ⟨I.ok, I.os, I.bare, ⟨fun b o e n hb hx => ?_, fun b o e n hb hx => ?_, I.base.free, fun b o e hx => ?_, I.base.tups, I.base.frzs, I.base.tbls⟩, ⟨m, hn.sameBut hs (Ne.symm (cne x c hc)), fun j y v' e1 e2 e3 => ?_⟩, fun y c' e => ?_, I.free, I.freeC, fun p hp => ?_, tracked ⟨oc, hoc, I.freeC x c hc⟩ hs, by simpa using I.len⟩ ⟨c, hs, .inr hc⟩
    · exact (hs.2 b (Nat.ne_of_lt (Nat.lt_of_lt_of_le (Heap.lt_size e) (I.ok.cab x c hfn hc)))).trans (I.base.keep b o e n hb hx)
    · obtain ⟨sl, e1⟩ := I.base.slot b o e n hb hx
      exact ⟨sl, (hs.2 b (Nat.ne_of_lt (Nat.lt_of_lt_of_le (Heap.lt_size e) (I.ok.cab x c hfn hc)))).trans e1⟩
    · obtain ⟨o', e1⟩ := I.base.there b o e hx
      exact ⟨o', (hs.2 b (Nat.ne_of_lt (Nat.lt_of_lt_of_le (Heap.lt_size e) (I.ok.cab x c hfn hc)))).trans e1⟩
    · by_cases hj : j = i
      · subst hj
        rw [hi] at e1; cases e1
        rw [List.getElem?_set_self hiσ] at e2
        cases e2
        exact ⟨u, r, .inr ⟨.inl hk, c, hc, hc'⟩⟩
      · rw [List.getElem?_set_ne (Ne.symm hj)] at e2
        obtain ⟨u', r', q⟩ := hl j y v' e1 e2 e3
        refine ⟨u', r', ?_⟩
        rcases q with q | ⟨k, c', e, z'⟩
        · exact .inl q
        · refine .inr ⟨k, c', e, z'.sameBut hs ?_⟩
          rintro rfl
          exact hj (nodup_ix hN e1 (I.ok.inj _ _ _ e hc ▸ hi))
    · by_cases hcc : c' = c
      · subst hcc; exact ⟨_, hc'⟩
      · obtain ⟨w2, z2⟩ := I.cell y c' e
        exact ⟨w2, z2.sameBut hs hcc⟩
    · obtain ⟨e, n, ne, nf, d⟩ := I.pin p hp
      refine ⟨(hs.2 p.1 ?_).trans e, n, ne, nf, d⟩
      intro q
      rw [q, hoc] at e
      have q' : oc = p.2 := Option.some.inj e
      exact d w' (by rw [← q']; exact hocd)
theorem store_ok {M : Model} {A : Around} {E : Value → Shared → Prop} {i : Nat} {x : Str} {v : V} {u : Value} {Q : Unit → Shared → Prop} (I : Inv X pins σ H s) (hN : X.N.Nodup) (hi : X.N[i]? = some x) (hx : Loc X.env.scope x) (r : RelV v u)
    (h : ∀ s', Inv X pins (σ.set i (some v)) H s' → Q () s') (hf : X.fn x = true ∨ X.env.scope.names.lookup x = some .local := by first | exact .inl rfl | exact .inr rfl | assumption) : wpAny M A (storeName X.env x u) Q E s :=
  store_ok2 I hN hi hx r (fun s' I' _ => h s' I') hf
end
abbrev XK := Value → Option Addr → Hp → Prop
abbrev St := List (Option V)
abbrev VK := V → Hp → Prop
abbrev TE := St → Hp → VK → Prop
abbrev TT := St → Hp → (Bool → Hp → Prop) → Prop
abbrev TA := St → Hp → (List V → Hp → Prop) → Prop
structure Ends where
  nx : St → Hp → Prop
  rt : VK
  bk : St → Hp → Prop := fun _ _ => False
  ct : St → Hp → Prop := fun _ _ => False
abbrev TS := Ends → St → Hp → Prop
def EP (X : Cx) (pins : List (Addr × Obj)) (σ : St) (Q : VK) (u : Value) (s' : Shared) : Prop := ∃ v H', Inv X pins σ H' s' ∧ RelV v u ∧ Q v H'
def TP (X : Cx) (pins : List (Addr × Obj)) (σ : St) (Q : Bool → Hp → Prop) (b : Bool) (s' : Shared) : Prop := ∃ H', Inv X pins σ H' s' ∧ Q b H'
def AP (X : Cx) (pins : List (Addr × Obj)) (σ : St) (Q : List V → Hp → Prop) (us : List Value) (s' : Shared) : Prop := ∃ vs H', Inv X pins σ H' s' ∧ Vals vs us ∧ Q vs H'
def SP (X : Cx) (pins : List (Addr × Obj)) (D : Ends) (f : Flow) (s' : Shared) : Prop :=
  match f with
  | .next => ∃ σ' H', Inv X pins σ' H' s' ∧ D.nx σ' H'
  | .brk => ∃ σ' H', Inv X pins σ' H' s' ∧ D.bk σ' H'
  | .cont => ∃ σ' H', Inv X pins σ' H' s' ∧ D.ct σ' H'
  | .ret u => ∃ v σ' H', Inv X pins σ' H' s' ∧ RelV v u ∧ D.rt v H'
def PE (X : Cx) (e : Expr) (t : TE) : Prop :=
  ∀ (pins : List (Addr × Obj)) (s : Shared) (σ : St) (H : Hp) (Q : VK), Inv X pins σ H s → t σ H Q → wpAny (model X.prog X.w) X.A (eval e X.env) (EP X pins σ Q) X.xe s
def PT (X : Cx) (e : Expr) (t : TT) : Prop :=
  ∀ (pins : List (Addr × Obj)) (s : Shared) (σ : St) (H : Hp) (Q : Bool → Hp → Prop), Inv X pins σ H s → t σ H Q → wpAny (model X.prog X.w) X.A (isTrue e X.env (eval e X.env)) (TP X pins σ Q) X.xe s
def PW (X : Cx) (e : Expr) (t : TT) : Prop :=
  ∀ (whole : Sem Value) (pins : List (Addr × Obj)) (s : Shared) (σ : St) (H : Hp) (Q : Bool → Hp → Prop), Inv X pins σ H s → t σ H Q → wpAny (model X.prog X.w) X.A (isTrue e X.env whole) (TP X pins σ Q) X.xe s
theorem PW.pt {X : Cx} {e : Expr} {t : TT} (h : PW X e t) : PT X e t := h _
def PA (X : Cx) (es : List Expr) (t : TA) : Prop :=
  ∀ (pos : Pos) (pins : List (Addr × Obj)) (s : Shared) (σ : St) (H : Hp) (Q : List V → Hp → Prop), Inv X pins σ H s → t σ H Q → wpAny (model X.prog X.w) X.A (spliced (backTo pos (starEach es X.env))) (AP X pins σ Q) X.xe s
def PS (X : Cx) (st : Stmt) (t : TS) : Prop :=
  ∀ (pins : List (Addr × Obj)) (s : Shared) (σ : St) (H : Hp) (D : Ends), Inv X pins σ H s → t D σ H → wpAny (model X.prog X.w) X.A (exec st X.env) (SP X pins D) X.xe s
def PSs (X : Cx) (st : List Stmt) (t : TS) : Prop :=
  ∀ (pins : List (Addr × Obj)) (s : Shared) (σ : St) (H : Hp) (D : Ends), Inv X pins σ H s → t D σ H → wpAny (model X.prog X.w) X.A (execs st X.env) (SP X pins D) X.xe s
theorem thn {α : Type} {t : Sem α} {Q Q' : α → Shared → Prop} {M : Model} {A : Around} {E : Value → Shared → Prop} {s : Shared} (h : wpAny M A t Q E s) (hQ : ∀ a s, Q a s → Q' a s) : wpAny M A t Q' E s := wpAny_mono h hQ fun _ _ x => x
end L2
namespace L2
open PySem PySem.Spec PyProof.Rows
section
variable {X : Cx}
def tVar (i : Nat) : TE := fun σ H Q => ∃ v, σ[i]? = some (some v) ∧ Q v H
def tC (v : V) : TE := fun _ H Q => Q v H
theorem pe_var {i : Nat} {x : Str} {pos : Pos} (hN : X.N[i]? = some x) (hv : Vis X.env.scope x) (hd : (x == ("__debug__" : Str)) = false := by decide) (hcd : (x == ("__classdict__" : Str)) = false := by decide) : PE X (.Name x pos) (tVar i) := by
  intro pins s σ H Q I h
  obtain ⟨v, e, h⟩ := h
  obtain ⟨m, hn, hl⟩ := I.loc
  obtain ⟨u, r, l⟩ := hl i x v hN e hv
  have fin : EP X pins σ Q u s := ⟨v, H, I, r, h⟩
  rcases l with ⟨hk, hm⟩ | ⟨hk, c, hc, hcell⟩
  · exact wpAny_Name (wpAny_loadName_local I.ok.kind hk hn hm fin) hd
  · rcases hk with hk | hk
    · exact wpAny_Name (wpAny_loadName_cell I.ok.kind hk hc hcell fin) hd
    · exact wpAny_Name (wpAny_loadName_free I.ok.kind hk hc hcell fin hcd) hd
theorem pe_int {i j pos} : PE X (.Constant (.int i) j pos) (tC (.int i)) := fun _ _ _ H _ I h => wpAny_Constant_int ⟨.int i, H, I.tok _, ⟨_, rfl⟩, h⟩
theorem pe_bl {b j pos} : PE X (.Constant (.bool b) j pos) (tC (.bl b)) := fun _ _ _ H _ I h => Constant_bool ⟨.bl b, H, I, rfl, h⟩
theorem pe_str {x j pos} : PE X (.Constant (.str x) j pos) (tC (.str x)) := fun _ _ _ H _ I h => Calls.Constant_str ⟨.str x, H, I.tok _, ⟨_, rfl⟩, h⟩
def Gl (X : Cx) (x : Str) : Prop := X.env.kindOf x = some .globalImplicit
theorem ld_glob {E : Value → Shared → Prop} {pins : List (Addr × Obj)} {s : Shared} {σ : St} {H : Hp} {x : Str} {u : Value} {pos : Pos} {Q : Value → Shared → Prop} (I : Inv X pins σ H s) (hg : Gl X x) (hm : X.mg x = some u) (h : Q u s)
    (hd : (x == ("__debug__" : Str)) = false := by decide) : wpAny (model X.prog X.w) X.A (eval (.Name x pos) X.env) Q E s :=
  Calls.Name_function_global I.ok.kind hg (Calls.loadGlobal_global (by rw [I.ok.glob]; exact I.mod.glob.keeps I.bk) hm h) hd
theorem ld_blt {E : Value → Shared → Prop} {pins : List (Addr × Obj)} {s : Shared} {σ : St} {H : Hp} {x : Str} {u : Value} {pos : Pos} {Q : Value → Shared → Prop} (I : Inv X pins σ H s) (hg : Gl X x) (hm : X.mg x = none) (hv : bootBuiltins x = some u) (h : Q u s)
    (hn : x ≠ "__name__" := by decide) (hd : (x == ("__debug__" : Str)) = false := by decide) : wpAny (model X.prog X.w) X.A (eval (.Name x pos) X.env) Q E s := by
  obtain ⟨mb, h1, h2⟩ := I.mod.blt
  exact Calls.Name_function_global I.ok.kind hg (Calls.loadGlobal_builtin (by rw [I.ok.glob]; exact I.mod.glob.keeps I.bk) hm (by rw [I.ok.blt]; exact h1.keeps I.bk) ((h2 x hn).trans hv) h) hd
theorem pe_bltn {x : Str} {v : V} {u : Value} {pos : Pos} (hg : Gl X x) (hm : X.mg x = none) (hv : bootBuiltins x = some u) (r : RelV v u) (hn : x ≠ "__name__" := by decide) (hd : (x == ("__debug__" : Str)) = false := by decide) : PE X (.Name x pos) (tC v) :=
  fun _ _ _ H _ I h => ld_blt I hg hm hv ⟨v, H, I, r, h⟩ hn hd
variable {a b : Expr} {ta tb : TE} {pos : Pos}
def tB (t : TE) : TT := fun σ H Q => t σ H fun x H1 => ∃ c, x = .bl c ∧ Q c H1
theorem pt_val {e : Expr} {t : TE} (h : PE X e t) (he : ∀ whole, isTrue e X.env whole = (do let v ← whole; standAt e.pos; holding [v] (truthy v)) := by intro _; rfl) : PT X e (tB t) := by
  intro pins s σ H Q I hw
  refine isTrue_plain (thn (h pins s σ H _ I hw) fun v s1 ⟨x, H1, I1, r1, q1⟩ => ?_) (he _)
  obtain ⟨d, rfl, q⟩ := q1
  cases r1
  exact wpAny_truthy_bool ⟨H1, I1, q⟩
variable {tA tB' : TT} {rest : List Expr}
def tAnd (t u : TT) : TT := fun σ H Q => t σ H fun c H1 => if c = true then u σ H1 Q else Q false H1
def tOr (t u : TT) : TT := fun σ H Q => t σ H fun c H1 => if c = true then Q true H1 else u σ H1 Q
def tNot (t : TT) : TT := fun σ H Q => t σ H fun c H1 => Q (!c) H1
theorem pw_and1 (ha : PT X a tA) : PW X (.BoolOp .And [a] pos) tA := by
  intro wh pins s σ H Q I h
  refine isTrue_and (thn (ha pins s σ H Q I h) fun c s1 e => ?_)
  cases c with
  | true => exact isTrue_and_nil e
  | false => exact e
theorem pw_or1 (ha : PT X a tA) : PW X (.BoolOp .Or [a] pos) tA := by
  intro wh pins s σ H Q I h
  refine isTrue_or (thn (ha pins s σ H Q I h) fun c s1 e => ?_)
  cases c with
  | false => exact isTrue_or_nil e
  | true => exact e
theorem pw_and (ha : PT X a tA) (hb : PW X (.BoolOp .And (b :: rest) pos) tB') : PW X (.BoolOp .And (a :: b :: rest) pos) (tAnd tA tB') := by
  intro wh pins s σ H Q I h
  refine isTrue_and (thn (ha pins s σ H _ I h) fun c s1 ⟨H1, I1, q1⟩ => ?_)
  cases c with
  | true => exact hb wh pins s1 σ H1 Q I1 q1
  | false => exact ⟨H1, I1, q1⟩
theorem pw_or (ha : PT X a tA) (hb : PW X (.BoolOp .Or (b :: rest) pos) tB') : PW X (.BoolOp .Or (a :: b :: rest) pos) (tOr tA tB') := by
  intro wh pins s σ H Q I h
  refine isTrue_or (thn (ha pins s σ H _ I h) fun c s1 ⟨H1, I1, q1⟩ => ?_)
  cases c with
  | true => exact ⟨H1, I1, q1⟩
  | false => exact hb wh pins s1 σ H1 Q I1 q1
theorem pt_not (ha : PT X a tA) : PT X (.UnaryOp .Not a pos) (tNot tA) := by
  intro pins s σ H Q I h
  exact isTrue_not (ha pins s σ H (fun c H1 => Q (!c) H1) I h)
def tAndV (ta tb : TE) : TE := fun σ H Q => ta σ H fun x H1 => ∃ c, x = .bl c ∧ if c = true then tb σ H1 Q else Q (.bl false) H1
def tNotV (ta : TE) : TE := fun σ H Q => ta σ H fun x H1 => ∃ c, x = .bl c ∧ Q (.bl (!c)) H1
theorem pe_one {op} {t : TE} (h : PE X a t) : PE X (.BoolOp op [a] pos) t := fun pins s σ H Q I hw => BoolOp_one (h pins s σ H Q I hw)
theorem pe_and (ha : PE X a ta) (hb : PE X (.BoolOp .And (b :: rest) pos) tb) : PE X (.BoolOp .And (a :: b :: rest) pos) (tAndV ta tb) := by
  intro pins s σ H Q I h
  refine BoolOp_and (thn (ha pins s σ H _ I h) fun v s1 ⟨x, H1, I1, r1, q1⟩ => ?_)
  obtain ⟨c, rfl, q1⟩ := q1
  cases r1
  refine wpAny_truthy_bool ?_
  cases c with
  | true => exact hb pins s1 σ H1 Q I1 q1
  | false => exact ⟨.bl false, H1, I1, rfl, q1⟩
theorem pe_not (ha : PE X a ta) : PE X (.UnaryOp .Not a pos) (tNotV ta) := by
  intro pins s σ H Q I h
  refine UnaryOp_ (thn (ha pins s σ H _ I h) fun v s1 ⟨x, H1, I1, r1, q1⟩ => ?_)
  obtain ⟨c, rfl, q1⟩ := q1
  cases r1
  exact not_of (wpAny_truthy_bool ⟨.bl (!c), H1, I1, rfl, q1⟩)
end
end L2
namespace L2
open PySem PySem.Spec PyProof.Rows
def SqL (K : PySem.W.Frag) (H : Hp) (a : Addr) (xs : List V) : Prop :=
  Rd H a (.lst xs) ∨
    ∃ (o : Obj) (its : Array Value) (n : Nat), K.lookup a = some o ∧ o.cls = .type "list" ∧ o.dict = none ∧ o.data = .seq its n ∧ its.size ≤ sizeLine ∧ Vals xs its.toList
def SqT (K : PySem.W.Frag) (H : Hp) (a : Addr) (xs : List V) : Prop :=
  Rd H a (.tup xs) ∨
    ∃ (o : Obj) (its : Array Value) (n : Nat), K.lookup a = some o ∧ o.cls = .type "tuple" ∧ o.data = .seq its n ∧ its.size ≤ sizeLine ∧ Vals xs its.toList
def absV : Value → Option V
  | .none => some .non
  | .bool b => some (.bl b)
  | .int i _ => some (.int i)
  | .str x _ => some (.str x)
  | .bytes b _ => some (.byt b)
  | .float b _ => some (.flt b)
  | .ref a => some (.ref a)
  | .type n => some (.ty n)
  | _ => none
theorem RelV.abs {x : V} {u : Value} (r : RelV x u) : absV u = some x := by
  cases x with
  | non => cases r; rfl
  | bl _ => cases r; rfl
  | int _ => obtain ⟨t, rfl⟩ := r; rfl
  | str _ => obtain ⟨t, rfl⟩ := r; rfl
  | byt _ => obtain ⟨t, rfl⟩ := r; rfl
  | flt _ => obtain ⟨t, rfl⟩ := r; rfl
  | ref _ => cases r; rfl
  | ty _ => cases r; rfl
theorem RelV.inj {x y : V} {u : Value} (r : RelV x u) (q : RelV y u) : x = y := Option.some.inj (r.abs.symm.trans q.abs)
theorem Vals.inj : ∀ {xs ys : List V} {us : List Value}, Vals xs us → Vals ys us → xs = ys
  | _, _, _, .nil, .nil => rfl
  | _, _, _, .cons r t, .cons r' t' => by rw [r.inj r', Vals.inj t t']
section
variable {X : Cx} {pins : List (Addr × Obj)} {σ : St} {H : Hp} {s : Shared} {a : Addr} {xs ys : List V}
theorem SqL.of {K : PySem.W.Frag} (h : H a = some (.lst xs)) : SqL K H a xs := .inl (.inl h)
theorem SqT.of {K : PySem.W.Frag} (h : H a = some (.tup xs)) : SqT K H a xs := .inl (.inl h)
theorem Inv.list (I : Inv X pins σ H s) (h : SqL X.K H a xs) : ∃ its : List Value, Vals xs its ∧ PlainL s.heap a its.toArray ∧ xs.length ≤ sizeLine := by
  rcases h with h | ⟨o, its, n, hk, hc, hd, hs, hz, r⟩
  · obtain ⟨z, its, n, r, e⟩ := h.ok I.hok
    exact ⟨its, r, ⟨_, n, e, rfl, rfl, rfl⟩, z⟩
  · refine ⟨its.toList, r, ⟨o, n, I.kIn a o hk, hc, hd, by simpa using hs⟩, ?_⟩
    have e := r.length
    simp only [Array.length_toList] at e
    omega
theorem Inv.tuple (I : Inv X pins σ H s) (h : SqT X.K H a xs) : ∃ its : List Value, Vals xs its ∧ IsTup s.heap a its.toArray ∧ xs.length ≤ sizeLine := by
  rcases h with h | ⟨o, its, n, hk, hc, hs, hz, r⟩
  · obtain ⟨z, its, r, p⟩ := h.ok I.hok
    exact ⟨its, r, p, z⟩
  · refine ⟨its.toList, r, ⟨o, I.kIn a o hk, hc, n, by simpa using hs⟩, ?_⟩
    have e := r.length
    simp only [Array.length_toList] at e
    omega
theorem Inv.list_inj (I : Inv X pins σ H s) (h : SqL X.K H a xs) (h' : SqL X.K H a ys) : xs = ys := by
  obtain ⟨its, r, ⟨o, n, e, _, _, d⟩, _⟩ := I.list h
  obtain ⟨its', r', ⟨o', n', e', _, _, d'⟩, _⟩ := I.list h'
  rw [e] at e'; cases e'
  rw [d] at d'
  injection d' with d1 _
  have : its = its' := by simpa using congrArg Array.toList d1
  subst this
  exact r.inj r'
end
abbrev Cx.wish (X : Cx) (E : Value → Shared → Prop) : Cx := { X with xe := E }
abbrev Cx.nox (X : Cx) : Cx := X.wish fun _ _ => False
theorem Cx.Ok.wish {X : Cx} (ok : X.Ok) (E : Value → Shared → Prop) : (X.wish E).Ok :=
  ⟨ok.mod, ok.kind, ok.glob, ok.blt, ok.above, ok.inj, ok.has, ok.cab, ok.hd, ok.frames, ok.stk, ok.exf, ok.bs, ok.bsz, ok.noex, ok.exfs, ok.funs, ok.frf⟩
theorem Cx.Ok.unwish {X : Cx} {E : Value → Shared → Prop} (ok : (X.wish E).Ok) : X.Ok :=
  ⟨ok.mod, ok.kind, ok.glob, ok.blt, ok.above, ok.inj, ok.has, ok.cab, ok.hd, ok.frames, ok.stk, ok.exf, ok.bs, ok.bsz, ok.noex, ok.exfs, ok.funs, ok.frf⟩
section
variable {X : Cx} {pins : List (Addr × Obj)} {σ : St} {H : Hp} {s : Shared} {E : Value → Shared → Prop}
theorem Inv.wish (I : Inv X pins σ H s) (E : Value → Shared → Prop) : Inv (X.wish E) pins σ H s := ⟨I.ok.wish E, I.os, I.bare, I.base, I.loc, I.cell, I.free, I.freeC, I.pin, I.hok, I.len⟩
theorem Inv.unwish (I : Inv (X.wish E) pins σ H s) : Inv X pins σ H s := ⟨I.ok.unwish, I.os, I.bare, I.base, I.loc, I.cell, I.free, I.freeC, I.pin, I.hok, I.len⟩
theorem SP.unwish {D : Ends} {f : Flow} {s' : Shared} (h : SP (X.wish E) pins D f s') : SP X pins D f s' := by
  cases f with
  | next => obtain ⟨σ', H', I, q⟩ := h; exact ⟨σ', H', I.unwish, q⟩
  | brk => obtain ⟨σ', H', I, q⟩ := h; exact ⟨σ', H', I.unwish, q⟩
  | cont => obtain ⟨σ', H', I, q⟩ := h; exact ⟨σ', H', I.unwish, q⟩
  | ret u => obtain ⟨v, σ', H', I, r, q⟩ := h; exact ⟨v, σ', H', I.unwish, r, q⟩
theorem PE.nox {e : Expr} {t : TE} (h : PE X.nox e t) : PE X e t := fun pins s σ H Q I hw =>
  wpAny_mono (h pins s σ H Q (I.wish _) hw) (fun _ _ ⟨v, H', I', r, q⟩ => ⟨v, H', I'.unwish, r, q⟩) fun _ _ z => False.elim z
theorem PT.nox {e : Expr} {t : TT} (h : PT X.nox e t) : PT X e t := fun pins s σ H Q I hw =>
  wpAny_mono (h pins s σ H Q (I.wish _) hw) (fun _ _ ⟨H', I', q⟩ => ⟨H', I'.unwish, q⟩) fun _ _ z => False.elim z
theorem PSs.nox {st : List Stmt} {t : TS} (h : PSs X.nox st t) : PSs X st t := fun pins s σ H D I hw =>
  wpAny_mono (h pins s σ H D (I.wish _) hw) (fun _ _ q => q.unwish) fun _ _ z => False.elim z
end
section
variable {X : Cx} {st : Stmt} {rest : List Stmt} {t u : TS} {e : Expr} {te : TE} {pos : Pos}
def tNext : TS := fun D σ H => D.nx σ H
def tSeq (t u : TS) : TS := fun D σ H => t { D with nx := u D } σ H
theorem pss_nil : PSs X [] tNext := fun _ _ σ H _ I h => wpAny_execs_nil ⟨σ, H, I, h⟩
theorem pss_cons (h1 : PS X st t) (h2 : PSs X rest u) : PSs X (st :: rest) (tSeq t u) := by
  intro pins s σ H D I h
  refine wpAny_execs_cons (thn (h1 pins s σ H { D with nx := u D } I h) fun f s1 q => ?_)
  cases f with
  | next =>
    obtain ⟨σ', H', I', q⟩ := q
    exact h2 pins s1 σ' H' D I' q
  | ret v => exact q
  | brk => exact q
  | cont => exact q
theorem pss_one (h1 : PS X st t) : PSs X [st] t := by
  intro pins s σ H D I h
  refine wpAny_execs_cons (thn (h1 pins s σ H D I h) fun f s1 q => ?_)
  cases f with
  | next => exact wpAny_execs_nil q
  | ret v => exact q
  | brk => exact q
  | cont => exact q
def tRet (te : TE) : TS := fun D σ H => te σ H D.rt
theorem ps_ret (he : PE X e te) : PS X (.Return (some e) pos) (tRet te) := by
  intro pins s σ H D I h
  exact wpAny_Return_some (thn (he pins s σ H _ I h) fun v s1 ⟨x, H1, I1, r1, q1⟩ => ⟨x, σ, H1, I1, r1, q1⟩)
def tIfS (c : TT) (t u : TS) : TS := fun D σ H => c σ H fun b H1 => if b = true then t D σ H1 else u D σ H1
theorem ps_if {c : Expr} {a b : List Stmt} {tc : TT} (hc : PT X c tc) (ha : PSs X a t) (hb : PSs X b u) : PS X (.If c a b pos) (tIfS tc t u) := by
  intro pins s σ H D I h
  refine wpAny_If (thn (hc pins s σ H _ I h) fun d s1 ⟨H1, I1, q1⟩ => ?_)
  cases d with
  | true => exact ha pins s1 σ H1 D I1 q1
  | false => exact hb pins s1 σ H1 D I1 q1
def tNever : TS := fun _ _ _ => False
theorem pss_never {sts : List Stmt} : PSs X sts tNever := fun _ _ _ _ _ _ h => h.elim
end
abbrev TG := V → St → Hp → (St → Hp → Prop) → Prop
def PG (X : Cx) (target : Expr) (t : TG) : Prop :=
  ∀ (pins : List (Addr × Obj)) (s : Shared) (σ : St) (H : Hp) (v : V) (u : Value) (Q : St → Hp → Prop), Inv X pins σ H s → RelV v u → t v σ H Q →
    wpAny (model X.prog X.w) X.A (assign target X.env u) (fun _ s' => ∃ σ' H', Inv X pins σ' H' s' ∧ Q σ' H') X.xe s
section
variable {X : Cx} {pos : Pos}
def gName (i : Nat) : TG := fun v σ H Q => Q (σ.set i (some v)) H
theorem pg_name {i : Nat} {x : Str} (hN : X.N.Nodup) (hi : X.N[i]? = some x) (hx : Loc X.env.scope x) (hf : X.fn x = true ∨ X.env.scope.names.lookup x = some .local := by first | exact .inl rfl | exact .inr rfl | assumption) : PG X (.Name x pos) (gName i) := by
  intro pins s σ H v u Q I r h
  exact wpAny_assign_Name (store_ok I hN hi hx r (fun s' I' => ⟨_, H, I', h⟩) hf)
def tAsg (te : TE) (g : TG) : TS := fun D σ H => te σ H fun x H1 => g x σ H1 D.nx
theorem ps_set {i : Nat} {x : Str} {e : Expr} {te : TE} {pos' : Pos} (hN : X.N.Nodup) (hi : X.N[i]? = some x) (hx : Loc X.env.scope x) (he : PE X e te) (hs : swapsWith e (some (.Name x pos')) pos.line X.env = pure false := by rfl) (hf : X.fn x = true ∨ X.env.scope.names.lookup x = some .local := by first | exact .inl rfl | exact .inr rfl | assumption) :
    PS X (.Assign [.Name x pos'] e pos) (tAsg te (gName i)) := by
  intro pins s σ H D I h
  refine wpAny_Assign_Name (thn (he pins s σ H _ I h) fun v s1 ⟨y, H1, I1, r1, q1⟩ => ?_) hs
  exact store_ok I1 hN hi hx r1 (fun s2 I2 => ⟨_, H1, I2, q1⟩) hf
end
section
variable {X : Cx} {pos : Pos}
end
structure It where
  go : Nat → Hp → Prop
  yld : Nat → Hp → V → Hp → Prop
  stop : Nat → Hp → Prop
def FpOk (X : Cx) (pins : List (Addr × Obj)) (H : Hp) (b : Addr) : Prop :=
  H b = none ∧ b ≠ X.env.locals ∧ b ∉ X.fs ∧ (b ∈ X.ex ∨ X.s₀.heap.objs.size ≤ b) ∧ (∀ x c, X.env.cells.lookup x = some c → c ≠ b) ∧ ∀ p ∈ X.pn ++ pins, p.1 ≠ b
theorem Inv.fpOk {X : Cx} {pins : List (Addr × Obj)} {σ : St} {H H' : Hp} {s : Shared} {b : Addr} (I : Inv X pins σ H s) (hb : s.heap.objs.size ≤ b) (hn : H' b = none) : FpOk X pins H' b := by
  refine ⟨hn, Nat.ne_of_gt (Nat.lt_of_lt_of_le I.lt hb), I.nofs hb, .inr (Nat.le_trans I.sz hb), fun x c e z => ?_, fun p hp z => ?_⟩
  · obtain ⟨v, q⟩ := I.cell x c e
    exact absurd (Nat.lt_of_lt_of_le q.lt (by rw [z]; exact hb)) (Nat.lt_irrefl _)
  · exact absurd (Nat.lt_of_lt_of_le (Heap.lt_size (I.pin p hp).1) (by rw [z]; exact hb)) (Nat.lt_irrefl _)
structure Turn (P : Program) (w : World) (K : PySem.W.Frag) (tg : Expr) (J : It) (fp : List Addr) (it : Addr) (tn : Nat → Heap → Prop) : Prop where
  mem : it ∈ fp
  obj : ∀ i h, tn i h → ∀ b ∈ fp, ∃ o, h.get? b = some o ∧ ∀ v, o.data ≠ .cell v
  keep : ∀ i h h', tn i h → (∀ b ∈ fp, ∀ o, h.get? b = some o → h'.get? b = some o) → tn i h'
  item : ∀ (X : Cx), X.prog = P → X.w = w → X.K = K → X.calm = true → ∀ (i : Nat) (pins : List (Addr × Obj)) (s : Shared) (σ : St) (H : Hp) (E : Value → Shared → Prop), Inv X pins σ H s → (∀ b ∈ fp, FpOk X pins H b) → tn i s.heap → J.go i H →
    wpAny (model P w) X.A (pyNext (.ref it)) (fun r s1 => ∃ u, r = some u ∧
      wpAny (model P w) X.A (letOwnedTupleGo tg (.ref it) u) (fun _ s2 => ∃ x H', Inv X pins σ H' s2 ∧ RelV x u ∧ J.yld i H x H' ∧ tn (i + 1) s2.heap ∧ ∀ b ∈ fp, H' b = none) E s1) E s
  done : ∀ (X : Cx), X.prog = P → X.w = w → X.K = K → X.calm = true → ∀ (i : Nat) (pins : List (Addr × Obj)) (s : Shared) (σ : St) (H : Hp) (E : Value → Shared → Prop), Inv X pins σ H s → (∀ b ∈ fp, FpOk X pins H b) → tn i s.heap → J.stop i H →
    wpAny (model P w) X.A (pyNext (.ref it)) (fun r s1 => r = none ∧ Inv X pins σ H s1) E s
  self : ∀ (A : Around) (i : Nat) (s : Shared) (Q : Value → Shared → Prop) (E : Value → Shared → Prop), tn i s.heap → Q (.ref it) s → wpAny (model P w) A (pyIter (.ref it)) Q E s
abbrev TI := St → Hp → (It → Hp → Prop) → Prop
def PIE (X : Cx) (pins : List (Addr × Obj)) (σ : St) (tg : Expr) (R : It → Hp → Prop) (itv : Value) (s2 : Shared) : Prop :=
  ∃ (it : Addr) (fp : List Addr) (tn : Nat → Heap → Prop) (J : It) (H' : Hp), itv = .ref it ∧ Inv X pins σ H' s2 ∧ Turn X.prog X.w X.K tg J fp it tn ∧ tn 0 s2.heap ∧ (∀ b ∈ fp, FpOk X pins H' b) ∧ R J H'
def PI (X : Cx) (tg iter : Expr) (wi : TI) : Prop :=
  ∀ (pins : List (Addr × Obj)) (s : Shared) (σ : St) (H : Hp) (R : It → Hp → Prop), Inv X pins σ H s → wi σ H R →
    wpAny (model X.prog X.w) X.A (eval iter X.env) (fun v s1 => wpAny (model X.prog X.w) X.A (pyIter v) (PIE X pins σ tg R) X.xe s1) X.xe s
theorem go_of {M : Model} {A : Around} {E : Value → Shared → Prop} {s : Shared} {tg : Expr} {it : Addr} {u : Value} {o : Obj} {n : String} {vs : Array Value} {Q : Unit → Shared → Prop} (ho : s.heap.get? it = some o) (hc : o.cls = .type n) (hd : o.data = .fields vs)
    (hn : ["enumerate", "zip", "dict_itemiterator", "dict_reverseitemiterator", "odict_iterator", "itertools.zip_longest", "itertools.pairwise"].contains n = false) (hQ : Q () s) : wpAny M A (letOwnedTupleGo tg (.ref it) u) Q E s := by
  unfold letOwnedTupleGo
  cases tg <;> first
    | exact wpAny_pure hQ
    | (cases u <;> first
        | exact wpAny_pure hQ
        | (refine wpAny_bind (wpAny_load ho ?_)
           rw [hc, hd]
           show wpAny M A (if (["enumerate", "zip", "dict_itemiterator", "dict_reverseitemiterator", "odict_iterator", "itertools.zip_longest", "itertools.pairwise"].contains n && vs[0]? == some (rawInt _)) = true then _ else _) Q E s
           rw [if_neg (by intro h; rw [hn, Bool.false_and] at h; cases h)]
           exact wpAny_pure hQ))
def Itl (K : PySem.W.Frag) (a : Addr) : It :=
  ⟨fun i H => ∃ xs x, SqL K H a xs ∧ xs[i]? = some x, fun i H x H' => H' = H ∧ ∀ xs, SqL K H a xs → xs[i]? = some x, fun i H => ∃ xs, SqL K H a xs ∧ xs.length ≤ i⟩
def Itr (lo : Int) (n : Nat) : It := ⟨fun i _ => i < n, fun i H x H' => H' = H ∧ x = .int (lo + i), fun i _ => n ≤ i⟩
theorem turn_list {P : Program} {w : World} {K : PySem.W.Frag} {tg : Expr} (a it : Addr) : Turn P w K tg (Itl K a) [it] it (fun i h => h.IsListIter it a i) where
  mem := by simp
  obj := fun i h st b hb => by
    have e : b = it := by simpa using hb
    subst e
    obtain ⟨o, e, c, d⟩ := st
    exact ⟨o, e, fun v z => by rw [d] at z; cases z⟩
  keep := fun i h h' st k => st.at fun o e => k it (by simp) o e
  item := by
    intro X hP hw hK hc i pins s σ H E I hf st hg
    subst hP hw hK
    obtain ⟨xs, x, hq, hx⟩ := hg
    obtain ⟨its, rv, p, hz⟩ := I.list hq
    obtain ⟨u, hu, ru⟩ := rv.get hx
    obtain ⟨f0, f1, f2, f3, f4, f5⟩ := hf it (by simp)
    refine wpAny_pyNext_list_item st p.isList (x := u) (by simpa using hu) fun h' st' sb => ?_
    have I1 : Inv X pins σ H { s with heap := h' } := I.turned (t' := s.toks) (fun b o hb e => (sb.2 b hb).trans e) f0 f1 f3 f4 f5
    obtain ⟨o, e, c, d⟩ := id st'
    exact ⟨u, rfl, go_of (s := { s with heap := h' }) e c d (by decide) ⟨x, H, I1, ru, ⟨rfl, fun ys hy => by rw [I.list_inj hy hq]; exact hx⟩, st', fun b hb => (hf b hb).1⟩⟩
  done := by
    intro X hP hw hK hc i pins s σ H E I hf st hg
    subst hP hw hK
    obtain ⟨xs, hq, hx⟩ := hg
    obtain ⟨its, rv, p, hz⟩ := I.list hq
    obtain ⟨f0, f1, f2, f3, f4, f5⟩ := hf it (by simp)
    have hl := rv.length
    exact wpAny_pyNext_list_end (I.ok.hd hc) st p.isList (by simp; omega) fun h' eb => ⟨rfl, I.turned (t' := s.toks) (fun b o hb e => eb b o hb e) f0 f1 f3 f4 f5⟩
  self := fun _ _ _ _ _ st h => wpAny_pyIter_listiter st h
theorem turn_range {P : Program} {w : World} {K : PySem.W.Frag} {tg : Expr} (it : Addr) (lo : Int) (n : Nat) : Turn P w K tg (Itr lo n) [it] it (fun i h => IsRangeIter h it (lo + (i : Nat) * 1) ((n : Int) - (i : Nat)) 1) where
  mem := by simp
  obj := fun i h st b hb => by
    have e : b = it := by simpa using hb
    subst e
    exact ⟨_, st, fun v z => by
      have z' : Data.fields _ = Data.cell v := z
      cases z'⟩
  keep := fun i h h' st k => k it (by simp) _ st
  item := by
    intro X hP hw hK hc i pins s σ H E I hf st hg
    subst hP hw hK
    obtain ⟨f0, f1, f2, f3, f4, f5⟩ := hf it (by simp)
    have W := Walks.range (prog := X.prog) (w := X.w) (I.ok.hd hc) it lo 1 n
    refine W.item i s _ _ hg st fun v h' tk hv st' kk => ?_
    obtain ⟨t, rfl⟩ := hv
    have I1 : Inv X pins σ H { s with heap := h', toks := tk } := I.turned (fun b o hb e => kk b o (by simpa using hb) e) f0 f1 f3 f4 f5
    refine ⟨_, rfl, go_of (s := { s with heap := h', toks := tk }) (n := "range_iterator") st' rfl rfl (by decide) ⟨.int (lo + i), H, I1, ⟨t, ?_⟩, ⟨rfl, rfl⟩, st', fun b hb => (hf b hb).1⟩⟩
    rw [Int.mul_one]
  done := by
    intro X hP hw hK hc i pins s σ H E I hf st hg
    subst hP hw hK
    obtain ⟨f0, f1, f2, f3, f4, f5⟩ := hf it (by simp)
    exact wpAny_pyNext_range_end (I.ok.hd hc) st (by have : n ≤ i := hg; omega) fun h' eb => ⟨rfl, I.turned (t' := s.toks) (fun b o hb e => eb b o hb e) f0 f1 f3 f4 f5⟩
  self := fun _ _ _ _ _ st h => wpAny_pyIter_rangeiter st h
end L2
namespace L2
open PySem PySem.Spec PyProof.Rows
section
variable {X : Cx} {tg : Expr}
def iList (K : PySem.W.Frag) (tl : TE) : TI := fun σ H R => tl σ H fun x H1 => ∃ a, x = .ref a ∧ (∃ xs, SqL K H1 a xs) ∧ R (Itl K a) H1
theorem pi_list {l : Expr} {tl : TE} (hl : PE X l tl) : PI X tg l (iList X.K tl) := by
  intro pins s σ H R I h
  refine thn (hl pins s σ H _ I h) fun v s1 ⟨x, H1, I1, r1, q1⟩ => ?_
  obtain ⟨a, e, ⟨xs, hq⟩, q⟩ := q1
  subst e
  cases r1
  obtain ⟨its, rv, p, hz⟩ := I1.list hq
  refine wpAny_pyIter_list p.isList ?_
  refine ⟨s1.heap.objs.size, [s1.heap.objs.size], _, _, H1, rfl, I1.kept (t' := s1.toks) fun b o e => Heap.get?_push_of_some _ e, turn_list a _, ⟨_, Heap.get?_push_size _ rfl, rfl, rfl⟩, fun b hb => ?_, q⟩
  have e : b = s1.heap.objs.size := by simpa using hb
  subst e
  exact I1.fpOk (Nat.le_refl _) (I1.hok.fresh (Nat.le_refl _))
theorem range_it {pins : List (Addr × Obj)} {σ : St} {H : Hp} {s : Shared} {R : It → Hp → Prop} {E : Value → Shared → Prop} {lo hi : Int} {t u v : Tok} {tk : Nat} (I : Inv X pins σ H s) (h1 : -(2 ^ 62) ≤ lo) (h2 : lo < 2 ^ 62) (h3 : -(2 ^ 62) ≤ hi) (h4 : hi < 2 ^ 62)
    (q : R (Itr lo (hi - lo).toNat) H) : wpAny (model X.prog X.w) X.A (pyIter (.ref s.heap.objs.size)) (PIE X pins σ tg R) E { s with heap := s.heap.push { cls := .type "range", data := .fields #[.int lo t, .int hi u, .int 1 v] }, toks := tk } := by
  refine wpAny_pyIter_range (IsRange.new ..) (small_one h1 h2 h3 h4) ?_
  have I1 : Inv X pins σ H { s with heap := s.heap.push { cls := .type "range", data := .fields #[.int lo t, .int hi u, .int 1 v] }, toks := tk } := I.kept fun b o e => Heap.get?_push_of_some _ e
  refine ⟨(s.heap.push { cls := .type "range", data := .fields #[.int lo t, .int hi u, .int 1 v] }).objs.size, [(s.heap.push { cls := .type "range", data := .fields #[.int lo t, .int hi u, .int 1 v] }).objs.size], _, _, H, rfl,
    I1.kept (t' := tk) fun b o e => Heap.get?_push_of_some _ e, turn_range _ lo (hi - lo).toNat, ?_, fun b hb => ?_, q⟩
  · have e1 : lo + ((0 : Nat) : Int) * 1 = lo := by simp
    have e2 : (((hi - lo).toNat : Nat) : Int) - ((0 : Nat) : Int) = Builtin.Range.rangeSize lo hi 1 := by rw [rangeSize_one]; split <;> omega
    show IsRangeIter _ _ (lo + ((0 : Nat) : Int) * 1) ((((hi - lo).toNat : Nat) : Int) - ((0 : Nat) : Int)) 1
    rw [e1, e2]
    exact Heap.get?_push_size _ rfl
  · have e : b = (s.heap.push { cls := .type "range", data := .fields #[.int lo t, .int hi u, .int 1 v] }).objs.size := by simpa using hb
    subst e
    exact I1.fpOk (Nat.le_refl _) (I1.hok.fresh (Nat.le_refl _))
def iRng1 (ta : TA) : TI := fun σ H R => ta σ H fun vs H1 => ∃ j : Int, vs = [.int j] ∧ -(2 ^ 62) ≤ j ∧ j < 2 ^ 62 ∧ R (Itr 0 j.toNat) H1
theorem pi_range1 {a : Expr} {ta : TA} {p pos : Pos} (hg : Gl X "range") (hm : X.mg "range" = none) (ha : PA X [a] ta) (hs : starEach [a] X.env = [(false, eval a X.env)] := by rfl) : PI X tg (.Call (.Name "range" p) [a] [] pos) (iRng1 ta) := by
  intro pins s σ H R I h
  refine Call_ (ld_blt I hg hm boot_range (PyProof.Rows.callWith_type1 (thn (ha pos pins s σ H _ I h) fun us s1 ⟨vs, H1, I1, r1, q1⟩ => ?_) hs rfl))
  obtain ⟨j, e, q1, q2, q⟩ := q1
  subst e
  cases r1 with
  | cons r rr =>
    cases rr
    obtain ⟨t, rfl⟩ := r
    exact call_range_1 (range_it I1 (by omega) (by omega) q1 q2 (by simpa using q))
def tFor (wi : TI) (g : TG) (tb : TS) : TS := fun D σ H => wi σ H fun J H1 => ∃ W : Nat → Nat → St → Hp → Prop, (∃ m, W 0 m σ H1) ∧ ∀ i m σ H, W i m σ H →
  (J.stop i H ∧ D.nx σ H) ∨ (J.go i H ∧ ∃ N : St → Hp → Prop, (∀ σ' H', N σ' H' → ∃ m', m' < m ∧ W (i + 1) m' σ' H') ∧ ∀ x H', J.yld i H x H' → g x σ H' fun σ2 H2 => tb { D with nx := N, ct := N, bk := D.nx } σ2 H2)
def pinsAt (fp : List Addr) (h : Heap) : List (Addr × Obj) := fp.filterMap fun b => (h.get? b).map fun o => (b, o)
theorem mem_pinsAt {fp : List Addr} {h : Heap} {b : Addr} {o : Obj} (hb : b ∈ fp) (e : h.get? b = some o) : (b, o) ∈ pinsAt fp h := List.mem_filterMap.mpr ⟨b, hb, by rw [e]; rfl⟩
theorem of_pinsAt {fp : List Addr} {h : Heap} {p : Addr × Obj} (hp : p ∈ pinsAt fp h) : p.1 ∈ fp ∧ h.get? p.1 = some p.2 := by
  obtain ⟨b, hb, e⟩ := List.mem_filterMap.mp hp
  cases q : h.get? b with
  | none => rw [q] at e; cases e
  | some o =>
    rw [q] at e
    have e' : (b, o) = p := Option.some.inj e
    subst e'
    exact ⟨hb, q⟩
theorem Inv.pinned {pins : List (Addr × Obj)} {σ : St} {H : Hp} {s : Shared} {fp : List Addr} (I : Inv X pins σ H s) (hf : ∀ b ∈ fp, FpOk X pins H b) (ho : ∀ b ∈ fp, ∃ o, s.heap.get? b = some o ∧ ∀ v, o.data ≠ .cell v) : Inv X (pins ++ pinsAt fp s.heap) σ H s :=
  I.pins_of fun p hp => (List.mem_append.mp hp).elim (fun z => I.pin p (List.mem_append_right _ z)) fun z => by
    obtain ⟨hb, e⟩ := of_pinsAt z
    obtain ⟨f0, f1, f2, _⟩ := hf p.1 hb
    obtain ⟨o, e', d⟩ := ho p.1 hb
    rw [e] at e'; cases e'
    exact ⟨e, f0, f1, f2, d⟩
theorem Inv.unpinned {pins pl : List (Addr × Obj)} {σ : St} {H : Hp} {s : Shared} (I : Inv X (pins ++ pl) σ H s) : Inv X pins σ H s := I.pins_of fun p hp => I.pin p (List.mem_append_right _ (List.mem_append_left _ hp))
theorem ps_for {iter : Expr} {body : List Stmt} {wi : TI} {g : TG} {tb : TS} {pos : Pos} (hp : PassesOwn (model X.prog X.w) X.A X.env X.xe) (hc : X.calm = true) (hi : PI X tg iter wi) (hg : PG X tg g) (hb : PSs X body tb)
    (hs : ∀ x, foldedSetIterable iter X.env x = pure x := by intro _; rfl) : PS X (.For tg iter body [] pos) (tFor wi g tb) := by
  intro pins s σ H D I h
  refine wpAny_For (thn (hi pins s σ H _ I h) fun v s1 h1 => thn h1 fun itv s2 h2 => ?_) hs
  obtain ⟨it, fp, tn, J, H2, e, I2, T, st2, f2, W, ⟨m0, w0⟩, turn⟩ := h2
  subst e
  -- what stays true of the iterator's objects through the loop
  have stat : ∀ {H' : Hp}, (∀ b ∈ fp, H' b = none) → ∀ b ∈ fp, FpOk X pins H' b := fun hn b hb => ⟨hn b hb, (f2 b hb).2⟩
  refine codeAny_forLoop_any (fun n s' => ∃ i σ' H', Inv X pins σ' H' s' ∧ tn i s'.heap ∧ (∀ b ∈ fp, H' b = none) ∧ W i n σ' H') ?_ m0 ⟨0, σ, H2, I2, st2, fun b hb => (f2 b hb).1, w0⟩
  rintro n s3 ⟨i, σ3, H3, I3, st3, fr3, w3⟩
  rcases turn i n σ3 H3 w3 with ⟨stop, qn⟩ | ⟨go, N, hN, step⟩
  · refine wpAny_passesOwn hp (thn (T.done X rfl rfl rfl hc i pins s3 σ3 H3 X.xe I3 (stat fr3) st3 stop) fun r s4 ⟨hr, I4⟩ => ?_)
    subst hr
    exact wpAny_execs_nil ⟨σ3, H3, I4, qn⟩
  · refine wpAny_passesOwn hp (thn (T.item X rfl rfl rfl hc i pins s3 σ3 H3 X.xe I3 (stat fr3) st3 go) fun r s4 ⟨u, hr, h4⟩ => ?_)
    subst hr
    refine wpAny_passesOwn hp (thn h4 fun _ s5 ⟨x, H5, I5, r5, y5, st5, fr5⟩ => ?_)
    have I5' := I5.pinned (stat fr5) (T.obj _ _ st5)
    refine wpAny_passesOwn hp (thn (hg _ s5 σ3 H5 x u _ I5' r5 (step x H5 y5)) fun _ s6 ⟨σ6, H6, I6, q6⟩ => ?_)
    refine wpAny_passesOwn hp (thn (hb _ s6 σ6 H6 _ I6 q6) fun f s7 q7 => ?_)
    have again : ∀ {σ7 : St} {H7 : Hp}, Inv X (pins ++ pinsAt fp s5.heap) σ7 H7 s7 → N σ7 H7 → ∃ m, m < n ∧ ∃ i σ' H', Inv X pins σ' H' s7 ∧ tn i s7.heap ∧ (∀ b ∈ fp, H' b = none) ∧ W i m σ' H' := fun {σ7 H7} I7 n7 => by
      obtain ⟨m', hm, w7⟩ := hN σ7 H7 n7
      refine ⟨m', hm, i + 1, σ7, H7, I7.unpinned, T.keep _ _ _ st5 fun b hb o e => (I7.pin (b, o) (List.mem_append_right _ (List.mem_append_right _ (mem_pinsAt hb e)))).1, fun b hb => ?_, w7⟩
      obtain ⟨o, e, d⟩ := T.obj _ _ st5 b hb
      exact (I7.pin (b, o) (List.mem_append_right _ (List.mem_append_right _ (mem_pinsAt hb e)))).2.1
    cases f with
    | next => obtain ⟨σ7, H7, I7, n7⟩ := q7; exact again I7 n7
    | cont => obtain ⟨σ7, H7, I7, n7⟩ := q7; exact again I7 n7
    | brk => obtain ⟨σ7, H7, I7, q7⟩ := q7; exact ⟨σ7, H7, I7.unpinned, q7⟩
    | ret v => obtain ⟨x7, σ7, H7, I7, r7, q7⟩ := q7; exact ⟨x7, σ7, H7, I7.unpinned, r7, q7⟩
end
end L2
namespace L2
open PySem PySem.Spec PyProof.Rows
abbrev R2 := V → V → Hp → VK → Prop
def OpR (X : Cx) (f : Value → Value → Sem Value) (r : R2) : Prop :=
  ∀ (pins : List (Addr × Obj)) (s : Shared) (σ : St) (H : Hp) (x y : V) (v u : Value) (Q : VK), Inv X pins σ H s → RelV x v → RelV y u → r x y H Q →
    wpAny (model X.prog X.w) X.A (f v u) (EP X pins σ Q) X.xe s
def CallR (X : Cx) (f : Value) (r : List V → Hp → VK → Prop) : Prop :=
  ∀ (pins : List (Addr × Obj)) (s : Shared) (σ : St) (H : Hp) (xs : List V) (us : List Value) (Q : VK), Inv X pins σ H s → Vals xs us → r xs H Q →
    wpAny (model X.prog X.w) X.A (call f us) (EP X pins σ Q) X.xe s
def tOp (r : R2) (ta tb : TE) : TE := fun σ H Q => ta σ H fun x H1 => tb σ H1 fun y H2 => r x y H2 Q
def rI (C : Int → Int → Prop) (g : Int → Int → V) : R2 := fun x y H Q => ∃ i j, x = .int i ∧ y = .int j ∧ C i j ∧ Q (g i j) H
def rI0 (g : Int → Int → V) : R2 := fun x y H Q => ∃ i j, x = .int i ∧ y = .int j ∧ Q (g i j) H
section
variable {X : Cx} {a b c : Expr} {ta tb tc : TE} {pos : Pos}
theorem binT (ha : PE X a ta) (hb : PE X b tb) {pins : List (Addr × Obj)} {s : Shared} {σ : St} {H : Hp} {R : V → V → Hp → Prop} (I : Inv X pins σ H s)
    (h : ta σ H fun x H1 => tb σ H1 fun y H2 => R x y H2) {Q : Value → Shared → Prop} {f : Value → Value → Sem Value}
    (hf : ∀ v u s2 x y H2, Inv X pins σ H2 s2 → RelV x v → RelV y u → R x y H2 → wpAny (model X.prog X.w) X.A (f v u) Q X.xe s2) :
    wpAny (model X.prog X.w) X.A (eval a X.env) (fun v s₁ => wpAny (model X.prog X.w) X.A (eval b X.env) (fun u s₂ => wpAny (model X.prog X.w) X.A (f v u) Q X.xe s₂) X.xe s₁) X.xe s := by
  refine thn (ha pins s σ H _ I h) fun v s1 ⟨x, H1, I1, r1, q1⟩ => ?_
  refine thn (hb pins s1 σ H1 _ I1 q1) fun u s2 ⟨y, H2, I2, r2, q2⟩ => ?_
  exact hf v u s2 x y H2 I2 r1 r2 q2
theorem pe_op {op : Operator} {r : R2} (ho : OpR X (binaryOp op) r) (ha : PE X a ta) (hb : PE X b tb) : PE X (.BinOp a op b pos) (tOp r ta tb) := by
  intro pins s σ H Q I h
  exact wpAny_BinOp (binT ha hb I h fun v u s2 x y H2 I2 rx ry q => ho pins s2 σ H2 x y v u Q I2 rx ry q)
theorem opI {f : Value → Value → Sem Value} {C : Int → Int → Prop} {g : Int → Int → Int}
    (rule : ∀ (i j : Int) (t u : Tok) (s : Shared) (Q : Value → Shared → Prop) (E : Value → Shared → Prop), C i j → Q (.int (g i j) s.toks) { s with toks := s.toks + 1 } → wpAny (model X.prog X.w) X.A (f (.int i t) (.int j u)) Q E s) :
    OpR X f (rI C fun i j => .int (g i j)) := by
  intro pins s σ H x y v u Q I rx ry h
  obtain ⟨i, j, rfl, rfl, hc, q⟩ := h
  obtain ⟨t, rfl⟩ := rx
  obtain ⟨t', rfl⟩ := ry
  exact rule i j t t' s _ _ hc ⟨.int (g i j), H, I.tok _, ⟨_, rfl⟩, q⟩
theorem opI0 {f : Value → Value → Sem Value} {g : Int → Int → Int}
    (rule : ∀ (i j : Int) (t u : Tok) (s : Shared) (Q : Value → Shared → Prop) (E : Value → Shared → Prop), Q (.int (g i j) s.toks) { s with toks := s.toks + 1 } → wpAny (model X.prog X.w) X.A (f (.int i t) (.int j u)) Q E s) :
    OpR X f (rI0 fun i j => .int (g i j)) := by
  intro pins s σ H x y v u Q I rx ry h
  obtain ⟨i, j, rfl, rfl, q⟩ := h
  obtain ⟨t, rfl⟩ := rx
  obtain ⟨t', rfl⟩ := ry
  exact rule i j t t' s _ _ ⟨.int (g i j), H, I.tok _, ⟨_, rfl⟩, q⟩
theorem opB0 {f : Value → Value → Sem Value} {g : Int → Int → Bool}
    (rule : ∀ (i j : Int) (t u : Tok) (s : Shared) (Q : Value → Shared → Prop) (E : Value → Shared → Prop), Q (.bool (g i j)) s → wpAny (model X.prog X.w) X.A (f (.int i t) (.int j u)) Q E s) :
    OpR X f (rI0 fun i j => .bl (g i j)) := by
  intro pins s σ H x y v u Q I rx ry h
  obtain ⟨i, j, rfl, rfl, q⟩ := h
  obtain ⟨t, rfl⟩ := rx
  obtain ⟨t', rfl⟩ := ry
  exact rule i j t t' s _ _ ⟨.bl (g i j), H, I, rfl, q⟩
def CPow (i j : Int) : Prop := 0 ≤ j ∧ j ≤ 1000000 ∧ i.natAbs < 2 ^ 64
def CMul (i j : Int) : Prop := (-(2 ^ 64) < i ∧ i < 2 ^ 64) ∨ (-(2 ^ 64) < j ∧ j < 2 ^ 64)
theorem CMul.ok {i j : Int} (h : CMul i j) : IntMulOk i j := by
  rcases h with ⟨h1, h2⟩ | ⟨h1, h2⟩
  · exact .of_left (intBits_le_64 h1 h2)
  · exact .of_right (intBits_le_64 h1 h2)
theorem op_add : OpR X (binaryOp .Add) (rI0 fun i j => .int (i + j)) := opI0 fun _ _ _ _ _ _ _ q => add_int q
theorem op_sub : OpR X (binaryOp .Sub) (rI0 fun i j => .int (i - j)) := opI0 fun _ _ _ _ _ _ _ q => sub_int q
theorem op_modN : OpR X (binaryOp .Mod) (rI (fun _ j => j ≠ 0) fun i j => .int (i.fmod j)) := opI fun _ _ _ _ _ _ _ hc q => mod_int' hc q
theorem op_pow : OpR X (binaryOp .Pow) (rI CPow fun i j => .int (i ^ j.toNat)) := opI fun _ _ _ _ _ _ _ hc q => pow_int_small hc.1 hc.2.1 hc.2.2 q
end
def scal : V → V → Bool
  | .non, .non => true | .non, .int _ => true | .int _, .non => true | .non, .bl _ => true | .bl _, .non => true | .non, .str _ => true | .str _, .non => true
  | .int _, .int _ => true | .bl _, .bl _ => true | .str _, .str _ => true | .byt _, .byt _ => true
  | .int _, .str _ => true | .str _, .int _ => true | .bl _, .str _ => true | .str _, .bl _ => true
  | _, _ => false
section
variable {X : Cx} {a b c : Expr} {ta tb tc : TE} {pos : Pos}
theorem op_lt : OpR X (compareOp .Lt) (rI0 fun i j => .bl (decide (i < j))) := opB0 fun _ _ _ _ _ _ _ q => lt_int q
theorem op_gt : OpR X (compareOp .Gt) (rI0 fun i j => .bl (decide (j < i))) := opB0 fun _ _ _ _ _ _ _ q => gt_int q
theorem OpR.or {f : Value → Value → Sem Value} {r r' : R2} (h : OpR X f r) (h' : OpR X f r') : OpR X f (fun x y H Q => r x y H Q ∨ r' x y H Q) := by
  intro pins s σ H x y v u Q I rx ry q
  rcases q with q | q
  · exact h pins s σ H x y v u Q I rx ry q
  · exact h' pins s σ H x y v u Q I rx ry q
theorem nomark (b : Expr) {op : CmpOp} (h : op ≠ .In := by decide) (h2 : op ≠ .NotIn := by decide) : behindInMarks op b = false := by
  have e1 : (op == CmpOp.In) = false := by cases op <;> first | rfl | exact absurd rfl h
  have e2 : (op == CmpOp.NotIn) = false := by cases op <;> first | rfl | exact absurd rfl h2
  cases b <;> simp [behindInMarks, e1, e2]
theorem pe_cmpR {op : CmpOp} {r : R2} (ho : OpR X (compareOp op) r) (ha : PE X a ta) (hb : PE X b tb) (hm : behindInMarks op b = false) : PE X (.Compare a [op] [b] pos) (tOp r ta tb) := by
  intro pins s σ H Q I h
  exact wpAny_Compare1 (binT ha hb I h fun v u s2 x y H2 I2 rx ry q => ho pins s2 σ H2 x y v u Q I2 rx ry q) hm
def tTest (t : TE) : TT := fun σ H Q => t σ H fun x H' => ∃ k, x = .bl k ∧ Q k H'
theorem pt_cmpR {op : CmpOp} {r : R2} (ho : OpR X (compareOp op) r) (ha : PE X a ta) (hb : PE X b tb) (hm : behindInMarks op b = false) : PT X (.Compare a [op] [b] pos) (tTest (tOp r ta tb)) := by
  intro pins s σ H Q I h
  refine wpAny_isTrue_Compare1 (thn (ha pins s σ H _ I h) fun v s1 ⟨x, H1, I1, r1, q1⟩ => thn (hb pins s1 σ H1 _ I1 q1) fun u s2 ⟨y, H2, I2, r2, q2⟩ =>
    thn (ho pins s2 σ H2 x y v u _ I2 r1 r2 q2) fun c s3 ⟨z, H3, I3, r3, k, e, q3⟩ => ?_) hm
  subst e
  cases r3
  exact wpAny_truthy_bool ⟨H3, I3, q3⟩
theorem line63 : (sizeLine : Nat) < 2 ^ 63 := by rw [sizeLine_eq]; decide
theorem op_add_str : OpR X (binaryOp .Add) (fun x y H Q => ∃ i j, x = .str i ∧ y = .str j ∧ i.length + j.length ≤ sizeLine ∧ Q (.str (i ++ j)) H) := by
  intro pins s σ H x y v u Q I rx ry h
  obtain ⟨i, j, rfl, rfl, hz, q⟩ := h
  obtain ⟨t, rfl⟩ := rx
  obtain ⟨t', rfl⟩ := ry
  exact add_str (fun t' tk => ⟨.str (i ++ j), H, I.tok _, ⟨_, rfl⟩, q⟩) hz
theorem vals1 {x : V} {us : List Value} (r : Vals [x] us) : ∃ u, us = [u] ∧ RelV x u := by
  cases r with
  | cons r1 r2 => cases r2; exact ⟨_, rfl, r1⟩
theorem vals2 {x y : V} {us : List Value} (r : Vals [x, y] us) : ∃ u w', us = [u, w'] ∧ RelV x u ∧ RelV y w' := by
  cases r with
  | cons r1 r2 =>
    cases r2 with
    | cons r3 r4 => cases r4; exact ⟨_, _, rfl, r1, r3⟩
end
end L2
namespace L2
open PySem PySem.Spec PyProof.Rows
structure ObjM (h : Heap) (x dx C : Addr) (mA : Str → Option Value) : Prop where
  obj : h.get? x = some (PySem.W.instObj C dx)
  ns : h.Ns1 dx mA
  ne : dx ≠ x
theorem lookIn_ns {h : Heap} {dx : Addr} {mA : Str → Option Value} (n : h.Ns1 dx mA) : ∃ od, h.get? dx = some od ∧ ∀ name, PySem.W.lookIn name od = some (mA name) := by
  obtain ⟨o, es, ep, ho, hd, hk, _, hm⟩ := n
  refine ⟨o, ho, fun name => ?_⟩
  have e := hm name
  unfold nsFind findBy at e
  rw [← Array.find?_toList] at e
  unfold PySem.W.lookIn
  rw [hd]
  dsimp only
  split
  · rename_i y q
    rw [q] at e
    exact congrArg some e
  · rename_i q
    rw [q] at e
    have a : es.toList.any (·.refKey) = false := by
      rw [List.any_eq_false]
      intro y hy
      obtain ⟨z, t, hkey⟩ := hk y (Array.mem_toList_iff.mp hy)
      simp [DictEntry.refKey, hkey]
    have a' : ¬ es.toList.any (·.refKey) = true := by rw [a]; exact Bool.false_ne_true
    rw [if_neg a']
    exact congrArg some e
theorem ObjM.look {h : Heap} {x dx C : Addr} {mA : Str → Option Value} (I : ObjM h x dx C mA) : ∃ od, PySem.W.InstAt h x (PySem.W.instObj C dx) C (some od) ∧ ∀ name, PySem.W.lookIn name od = some (mA name) :=
  let ⟨od, ho, hl⟩ := lookIn_ns I.ns
  ⟨od, ⟨I.obj, rfl, rfl, ho⟩, hl⟩
section
variable {prog : Program} {w : World} {A : Around} {E : Value → Shared → Prop} {s : Shared} {K : PySem.W.Frag} {x dx C f : Addr} {mA : Str → Option Value} {name : Str} {v : Value}
end
theorem RelO.some_of {v : V} {o : Option Value} (r : RelO (some v) o) : ∃ u, o = some u ∧ RelV v u := by
  cases o with
  | none => exact (show False from r).elim
  | some u => exact ⟨u, rfl, r⟩
section
variable {P : Program} {w : World} {H H' : Hp} {h h' : Heap} {a C dx : Addr} {fs fs' : List (Str × V)}
theorem ins_get (hok : HOk P w H h) (e : H a = some (.ins C dx fs)) : ∃ mA, ObjM h a dx C mA ∧ (∀ f, RelO (fs.lookup f) (mA f)) ∧ PySem.Within mA (fs.map (·.1)) ∧ fs.length ≤ 1000 ∧ H dx = some (.own a) := by
  obtain ⟨d, z, ne, ob, mA, n, r, q⟩ := (show ObjOk P w H h a (.ins C dx fs) from hok a _ e)
  exact ⟨mA, ⟨ob, n, ne⟩, r, q, z, d⟩
end
structure Cls (K : PySem.W.Frag) (C : Addr) : Prop where
  pg : PySem.W.plainGet K C Str.empty = true
  hd : PySem.W.hasDictIn K C = true
  po : PySem.W.plainOver K C = true
  sa : PySem.W.findIn K (.ref C) "__setattr__" = some (some (.builtin "object.__setattr__"))
theorem Cls.get {K : PySem.W.Frag} {C : Addr} (c : Cls K C) (f : Str) : PySem.W.plainGet K C f = true := c.pg
section
variable {X : Cx} {pins : List (Addr × Obj)} {σ : St} {H : Hp} {s : Shared} {a C dx : Addr} {fs : List (Str × V)} {f : Str} {v : V} {A : Around} {E : Value → Shared → Prop}
end
section
variable {X : Cx} {o e value : Expr} {f : Str} {pos pos' tpos : Pos} {ta tv : TE}
end
section
variable {X : Cx} {pins : List (Addr × Obj)} {σ : St} {H : Hp} {s : Shared} {A : Around} {E : Value → Shared → Prop} {Q : Value → Shared → Prop} {c : Value} {b : Bool}
end
end L2
namespace L2
open PySem PySem.Spec PyProof.Rows
structure Room (k : Nat) (A : Around) : Prop where
  hd : A.handled = none
  dp : A.depth + 3 * k + 5 < recursionLimit
  un : A.units + 16 * k + 200 < cLine
theorem Room.mono {j k : Nat} {A : Around} (r : Room k A) (h : j ≤ k) : Room j A := ⟨r.hd, by have := r.dp; omega, by have := r.un; omega⟩
theorem Room.deeper {k : Nat} {A : Around} (r : Room (k + 1) A) (env : Env) : Room k (A.deeper env) :=
  ⟨r.hd, by have := r.dp; show A.depth + 1 + 3 * k + 5 < _; omega, by have := r.un; show A.units + 3 + 16 * k + 200 < _; omega⟩
theorem Room.depth {k : Nat} {A : Around} (r : Room k A) : A.depth < recursionLimit := by have := r.dp; omega
theorem Room.units {k : Nat} {A : Around} (r : Room k A) : A.units + 64 < cLine := by have := r.un; omega
def tNil : TA := fun _ H Q => Q [] H
def tCons (ta : TE) (tr : TA) : TA := fun σ H Q => ta σ H fun x H1 => tr σ H1 fun xs H2 => Q (x :: xs) H2
section
variable {X : Cx} {e : Expr} {es : List Expr} {te : TE} {t : TA} {pos : Pos}
theorem pa_nil : PA X [] tNil := fun _ _ _ _ H Q I h => Calls.spliced_nil ⟨[], H, I, .nil, h⟩
theorem pa_cons (ha : PE X e te) (hr : PA X es t) (hs : starEach (e :: es) X.env = (false, eval e X.env) :: starEach es X.env := by rfl) : PA X (e :: es) (tCons te t) := by
  intro pos pins s σ H Q I h
  rw [hs]
  show wpAny _ _ (spliced ((false, eval e X.env) :: backTo pos (starEach es X.env))) _ _ s
  refine Calls.spliced_cons (thn (ha pins s σ H _ I h) fun u s1 ⟨x, H1, I1, r1, q1⟩ => ?_)
  exact thn (hr pos pins s1 σ H1 _ I1 q1) fun us s2 ⟨xs, H2, I2, r2, q2⟩ => ⟨x :: xs, H2, I2, .cons r1 r2, q2⟩
def tTup (t : TA) : TE := fun σ H Q => t σ H fun xs H1 => xs.length ≤ sizeLine ∧ ∀ p, H1 p = none → Q (.ref p) (upd H1 p (.tup xs))
def tLst (t : TA) : TE := fun σ H Q => t σ H fun xs H1 => xs.length ≤ sizeLine ∧ ∀ p, H1 p = none → Q (.ref p) (upd H1 p (.lst xs))
theorem pe_tup {x1} (h : PA X es t) : PE X (.Tuple es x1 pos) (tTup t) := by
  intro pins s σ H Q I hq
  refine wpAny_Tuple_spliced (thn (h pos pins s σ H _ I hq) fun us s1 ⟨xs, H1, I1, r, z, q⟩ => ⟨by rw [← r.length]; exact z, ?_⟩)
  have hf : H1 s1.heap.objs.size = none := I1.hok.fresh (Nat.le_refl _)
  refine ⟨.ref s1.heap.objs.size, upd H1 s1.heap.objs.size (.tup xs), I1.laid (t' := s1.toks) (fun b u e => Heap.get?_push_of_some _ e) (Nat.le_refl _) ?_, rfl, q _ hf⟩
  exact ⟨z, us, r, ⟨_, Heap.get?_push_size _ rfl, rfl, _, rfl⟩⟩
theorem pe_lst (h : PA X es t) : PE X (.List es pos) (tLst t) := by
  intro pins s σ H Q I hq
  refine wpAny_List_spliced (thn (h pos pins s σ H _ I hq) fun us s1 ⟨xs, H1, I1, r, z, q⟩ => ⟨by rw [← r.length]; exact z, ?_⟩)
  have hf : H1 s1.heap.objs.size = none := I1.hok.fresh (Nat.le_refl _)
  refine ⟨.ref s1.heap.objs.size, upd H1 s1.heap.objs.size (.lst xs), I1.laid (t' := s1.toks) (fun b u e => Heap.get?_push_of_some _ e) (Nat.le_refl _) ?_, rfl, q _ hf⟩
  exact ⟨z, us, 0, r, Heap.get?_push_size _ rfl⟩
end
abbrev Sp := List V → Hp → VK → XK → Prop
abbrev CXT := List Env → Hp → Shared → XK → Value → Shared → Prop
structure Env0 (P : Program) (w : World) (K : PySem.W.Frag) (mg : Str → Option Value) (base : Heap) (A : Around) (outer : List Env) (s : Shared) (H : Hp) : Prop where
  frames : A.frames = some outer
  mod : Mod K mg base
  bs : ∀ b o, base.get? b = some o → s.heap.get? b = some o ∧ H b = none
  bsz : base.objs.size ≤ s.heap.objs.size
  funs : s.heap.FunFrames base outer
  frf : ∀ b ∈ frs outer, H b = none
  hok : HOk P w H s.heap
  bare : AllBare s.gens
def CE (outer : List Env) (P : Program) (w : World) (H : Hp) (s : Shared) (Q : VK) (u : Value) (s' : Shared) : Prop :=
  ∃ v H', s'.os = s.os ∧ AllBare s'.gens ∧ Un (frs outer) [] H H' s.heap s'.heap ∧ HOk P w H' s'.heap ∧ RelV v u ∧ Q v H'
def CR (CX : CXT) (outer : List Env) (P : Program) (w : World) (H : Hp) (s : Shared) (Q : VK) (E : XK) (r : Result) (s' : Shared) : Prop :=
  match r with
  | .ok (.ret u) => CE outer P w H s Q u s'
  | .ok _ => False
  | .error e => CX outer H s E e s'
structure FnOk (P : Program) (w : World) (K : PySem.W.Frag) (mg : Str → Option Value) (base : Heap) (CX : CXT) (k : Nat) (f : Addr) (fd : FuncData) (ps : List Str) (sp : Sp) : Prop where
  len : ∀ vs H Q E, sp vs H Q E → vs.length = ps.length
  run : ∀ (A : Around) (outer : List Env) (s : Shared) (H : Hp) (args : Args) (us : List Value) (vs : List V) (Q : VK) (E : XK), Room k A → Env0 P w K mg base A outer s H → BindsTo s fd args (ps.zip us) → Vals vs us → sp vs H Q E →
    codeAny (model P w) A (.call (.ref f) args) (CR CX outer P w H s Q E) s
theorem FnOk.imp {P : Program} {w : World} {K : PySem.W.Frag} {mg : Str → Option Value} {base : Heap} {CX : CXT} {k : Nat} {f : Addr} {fd : FuncData} {ps : List Str} {sp sp' : Sp} (F : FnOk P w K mg base CX k f fd ps sp)
    (h : ∀ vs H Q E, sp' vs H Q E → sp vs H Q E) : FnOk P w K mg base CX k f fd ps sp' :=
  ⟨fun vs H Q E q => F.len vs H Q E (h _ _ _ _ q), fun A outer s H args us vs Q E hr he hb hv hs => F.run A outer s H args us vs Q E hr he hb hv (h _ _ _ _ hs)⟩
section
variable {X : Cx} {pins : List (Addr × Obj)} {σ : St} {H : Hp} {s s' : Shared}
theorem Inv.env0 (I : Inv X pins σ H s) : Env0 X.prog X.w X.K X.mg X.base X.A X.stack s H :=
  ⟨I.ok.frames, I.ok.mod, I.bs, Nat.le_trans I.ok.bsz I.sz, I.stack, I.stkFree, I.hok, I.bare⟩
theorem Inv.after {Q : VK} {u : Value} (I : Inv X pins σ H s) (h : CE X.stack X.prog X.w H s Q u s') : EP X pins σ Q u s' := by
  obtain ⟨v, H', os, bare, un, hok, r, q⟩ := h
  obtain ⟨hh, g, d, t, os'⟩ := s'
  obtain rfl : os' = s.os := os
  exact ⟨v, H', I.call (h' := hh) (g' := g) (d' := d) (t' := t) (ch := []) un hok bare (fun b z => absurd z (by simp)), r, q⟩
end
def tCall (sp : Sp) (dvs : List V) (E : XK) (t : TA) : TE := fun σ H Q => t σ H fun vs H1 => sp (vs ++ dvs) H1 Q E
def Binds (K : PySem.W.Frag) (fd : FuncData) (ps : List Str) (ds : List Value) : Prop :=
  ∀ (s : Shared) (us : List Value), K.In s.heap → (us ++ ds).length = ps.length → BindsTo s fd ⟨us, []⟩ (ps.zip (us ++ ds))
theorem Binds.all {K : PySem.W.Frag} {fd : FuncData} {ps : List Str} (h : ∀ us : List Value, us.length = ps.length → bindArgs fd ⟨us, []⟩ = pure (ps.zip us)) : Binds K fd ps [] := fun s us _ hl => by
  rw [List.append_nil] at hl ⊢
  exact .of_eq (h us hl)
def Passes (CX : CXT) (X : Cx) (E : XK) : Prop := ∀ (pins : List (Addr × Obj)) (σ : St) (H : Hp) (s : Shared) (e : Value) (s' : Shared), Inv X pins σ H s → CX X.stack H s E e s' → X.xe e s'
section
variable {X : Cx} {CX : CXT} {k : Nat} {f C : Addr} {fd : FuncData} {ps : List Str} {sp : Sp} {dvs : List V} {ds : List Value} {E : XK} {x m : Str} {p pos apos : Pos} {e o : Expr} {es : List Expr} {ta : TE} {t : TA}
theorem run_fn {pins : List (Addr × Obj)} {σ : St} {H : Hp} {s : Shared} {Q : VK} {us : List Value} {vs : List V} (F : FnOk X.prog X.w X.K X.mg X.base CX k f fd ps sp) (hr : Room k X.A) (hb : Binds X.K fd ps ds) (hd : Vals dvs ds) (hx : Passes CX X E)
    (I : Inv X pins σ H s) (r : Vals vs us) (h : sp (vs ++ dvs) H Q E) : wpAny (model X.prog X.w) X.A (call (.ref f) us) (EP X pins σ Q) X.xe s := by
  have r2 : Vals (vs ++ dvs) (us ++ ds) := r.append hd
  have hl : (us ++ ds).length = ps.length := by rw [← r2.length]; exact F.len _ _ _ _ h
  refine wpAny_call (codeAny_mono (F.run X.A X.stack s H ⟨us, []⟩ (us ++ ds) (vs ++ dvs) Q E hr I.env0 (hb s us I.kIn hl) r2 h) fun r s' hq => ?_)
  cases r with
  | error e => exact hx pins σ H s e s' I hq
  | ok fl =>
    cases fl with
    | ret u => exact I.after hq
    | next => exact False.elim hq
    | brk => exact False.elim hq
    | cont => exact False.elim hq
theorem pe_call (F : FnOk X.prog X.w X.K X.mg X.base CX k f fd ps sp) (hr : Room k X.A) (hg : Gl X x) (hm : X.mg x = some (.ref f)) (hk : PySem.W.keepIn X.K (.ref f) = true) (hb : Binds X.K fd ps ds) (hd : Vals dvs ds) (hx : Passes CX X E)
    (ha : PA X (e :: es) t) (hdb : (x == ("__debug__" : Str)) = false := by decide) (he : starEach (e :: es) X.env = (false, eval e X.env) :: starEach es X.env := by rfl) (hpl : (backTo pos (starEach es X.env)).any (·.1) = false := by rfl) :
    PE X (.Call (.Name x p) (e :: es) [] pos) (tCall sp dvs E t) := by
  intro pins s σ H Q I h
  refine wpAny_Call_Name_kw (ld_glob I hg hm ?_ hdb)
  refine PySem.W.callWith_K (h₀ := X.base) I.ok.mod.kin hk (thn (ha pos pins s σ H _ I h) fun us s1 ⟨vs, H1, I1, r, q⟩ => ⟨I1.kIn, ?_⟩) he hpl
  exact run_fn F hr hb hd hx I1 r q
end
section
variable {X : Cx} {CX : CXT} {k : Nat} {f C : Addr} {fd : FuncData} {ps ks : List Str} {sp : Sp} {E : XK} {x m : Str} {p pos apos kpos : Pos} {e o : Expr} {es : List Expr} {kws : List Keyword} {te ta : TE} {t tk : TA} {nm : Option Str}
variable {g : List Value → List Value → List Value} {gV : List V → List V → List V}
end
structure FnScope (N P : List Str) (sc : Scope) : Prop where
  kind : sc.kind = .function
  co : sc.isCoroutine = false
  gen : sc.isGenerator = false
  nd : N.Nodup
  pre : N.take P.length = P
  par : ∀ x ∈ P, sc.names.lookup x = some .local ∨ sc.names.lookup x = some .cell
  nofree : ∀ y ∈ sc.names, y.2 ≠ .free
theorem bindL_out {kindOf : Str → Option NameKind} {x : Str} : ∀ {binds : List (Str × Value)} {m : Str → Option Value}, (∀ v, (x, v) ∉ binds) → bindL kindOf binds m x = m x
  | [], _, _ => rfl
  | (n, v) :: r, m, h => by
    unfold bindL
    rw [bindL_out fun w hw => h w (List.mem_cons_of_mem _ hw)]
    split
    · have : x ≠ n := by rintro rfl; exact h v List.mem_cons_self
      simp [this]
    · rfl
theorem bindC_out {kindOf : Str → Option NameKind} {x : Str} : ∀ {binds : List (Str × Value)} {m : Str → Option Value}, (∀ v, (x, v) ∉ binds) → bindC kindOf binds m x = m x
  | [], _, _ => rfl
  | (n, v) :: r, m, h => by
    unfold bindC
    rw [bindC_out fun w hw => h w (List.mem_cons_of_mem _ hw)]
    split
    · rfl
    · have : x ≠ n := by rintro rfl; exact h v List.mem_cons_self
      simp [this]
theorem bindL_get {kindOf : Str → Option NameKind} {x : Str} {v : Value} : ∀ {P : List Str} {vs : List Value} {i : Nat} {m : Str → Option Value}, P.Nodup → P[i]? = some x → vs[i]? = some v → kindOf x = some .local →
    bindL kindOf (P.zip vs) m x = some v
  | [], _, _, _, _, h, _, _ => by simp at h
  | _ :: _, [], _, _, _, _, h, _ => by simp at h
  | p :: P, w :: vs, 0, m, nd, h1, h2, hk => by
    simp at h1 h2; subst h1; subst h2
    show bindL kindOf ((p, w) :: P.zip vs) m p = _
    unfold bindL
    rw [bindL_out fun v hv => (List.nodup_cons.mp nd).1 (List.of_mem_zip hv).1, if_pos hk]
    simp
  | p :: P, w :: vs, i + 1, m, nd, h1, h2, hk => by
    show bindL kindOf ((p, w) :: P.zip vs) m x = _
    unfold bindL
    exact bindL_get (i := i) (List.nodup_cons.mp nd).2 (by simpa using h1) (by simpa using h2) hk
theorem bindC_get {kindOf : Str → Option NameKind} {x : Str} {v : Value} : ∀ {P : List Str} {vs : List Value} {i : Nat} {m : Str → Option Value}, P.Nodup → P[i]? = some x → vs[i]? = some v → kindOf x ≠ some .local →
    bindC kindOf (P.zip vs) m x = some v
  | [], _, _, _, _, h, _, _ => by simp at h
  | _ :: _, [], _, _, _, _, h, _ => by simp at h
  | p :: P, w :: vs, 0, m, nd, h1, h2, hk => by
    simp at h1 h2; subst h1; subst h2
    show bindC kindOf ((p, w) :: P.zip vs) m p = _
    unfold bindC
    rw [bindC_out fun v hv => (List.nodup_cons.mp nd).1 (List.of_mem_zip hv).1, if_neg hk]
    simp
  | p :: P, w :: vs, i + 1, m, nd, h1, h2, hk => by
    show bindC kindOf ((p, w) :: P.zip vs) m x = _
    unfold bindC
    exact bindC_get (i := i) (List.nodup_cons.mp nd).2 (by simpa using h1) (by simpa using h2) hk
def start (N : List Str) (vs : List V) : St := vs.map some ++ List.replicate (N.length - vs.length) none
def cxOf (CX : CXT) (P : Program) (w : World) (K : PySem.W.Frag) (mg : Str → Option Value) (base : Heap) (N : List Str) (qual : Str) (scope : Scope) (f : Addr) (cd : Value) (A : Around) (outer : List Env) (s : Shared) (H : Hp) (E : XK) : Cx where
  prog := P
  w := w
  K := K
  mg := mg
  base := base
  A := A.deeper (envOfC qual scope s.heap.objs.size f cd)
  N := N
  s₀ := s
  H₀ := H
  env := envOfC qual scope s.heap.objs.size f cd
  outer := outer
  stack := envOfC qual scope s.heap.objs.size f cd :: outer
  ex := []
  calm := true
  fn := fun _ => true
  pn := []
  xe := fun e s' => wpAny (model P w) (A.deeper (envOfC qual scope s.heap.objs.size f cd)) (leaving (envOfC qual scope s.heap.objs.size f cd) e) (fun _ s'' => CX outer H s E e s'') (fun e' s'' => CX outer H s E e' s'') s'
theorem cell_has {sc : Scope} {n : Nat} {x : Str} (h : sc.names.lookup x = some .cell) : ∃ c, (cellsFrom n sc.names []).lookup x = some c := by
  have q := PySem.W.cellsFrom_some sc.names n [] (.inl h)
  exact Option.isSome_iff_exists.mp q
theorem inv_start {CX : CXT} {P : Program} {w : World} {K : PySem.W.Frag} {mg : Str → Option Value} {base : Heap} {N ps : List Str} {qual : Str} {scope : Scope} {f : Addr} {cd : Value} {A : Around} {outer : List Env} {s s1 : Shared} {H : Hp} {E : XK} {us : List Value} {vs : List V}
    (S : FnScope N ps scope) (hd : A.handled = none) (e0 : Env0 P w K mg base A outer s H) (hl : vs.length = ps.length) (r : Vals vs us)
    (x : InCallC s s.heap.objs.size (bindL (envOfC qual scope s.heap.objs.size f cd).kindOf (ps.zip us) fun _ => none) (cellsFrom (s.heap.objs.size + 1) scope.names []) (bindC (envOfC qual scope s.heap.objs.size f cd).kindOf (ps.zip us) fun _ => none) s1) :
    Inv (cxOf CX P w K mg base N qual scope f cd A outer s H E) [] (start N vs) H s1 := by
  have hpl : ps.length ≤ N.length := by have := congrArg List.length S.pre; rw [List.length_take] at this; omega
  obtain ⟨h1, tk, rfl, hk⟩ := x.done
  have noA : ∀ b : Addr, b ∉ (cxOf CX P w K mg base N qual scope f cd A outer s H E).ex := fun b z => absurd (show b ∈ ([] : List Addr) from z) (by simp)
  refine ⟨⟨e0.mod, S.kind, rfl, rfl, Nat.le_refl _, fun y z c h1 h2 => ?_, fun y hy => ?_, fun y c _ h => ?_, fun _ => hd, Around.frames_deeper e0.frames, .inr ⟨rfl, rfl⟩, fun b z => absurd z (noA b), e0.bs, e0.bsz, fun b _ _ => noA b, fun b z => absurd z (noA b), e0.funs, e0.frf⟩,
    rfl, e0.bare, Un.kept hk, ⟨_, x.toInCall.ns, fun i y v h1 h2 h3 => ?_⟩, fun y c h => ⟨_, x.cell y c h⟩, e0.hok.fresh (Nat.le_refl _), fun y c h => ?_, fun p hp => absurd (show p ∈ ([] : List (Addr × Obj)) from hp) (by simp), e0.hok.kept hk, ?_⟩
  · exact name_of_addr x.apart (PySem.mem_of_lookup h1) (PySem.mem_of_lookup h2)
  · have hy : scope.names.lookup y = some .cell ∨ scope.names.lookup y = some .free := hy
    rcases hy with hy | hy
    · exact cell_has hy
    · exact absurd rfl (S.nofree _ (PySem.mem_of_lookup hy))
  · exact Nat.le_of_lt (x.above y c (PySem.mem_of_lookup h))
  · have hi : i < vs.length := by
      unfold start at h2
      by_cases hi : i < vs.length
      · exact hi
      · rw [List.getElem?_append_right (by simpa using hi)] at h2
        rw [List.getElem?_replicate] at h2
        split at h2 <;> cases h2
    have ha : vs[i]? = some v := by
      unfold start at h2
      rw [List.getElem?_append_left (by simpa using hi), List.getElem?_map] at h2
      cases e : vs[i]? with
      | none => rw [e] at h2; cases h2
      | some a => rw [e] at h2; cases h2; rfl
    obtain ⟨u, hu, rv⟩ := r.get ha
    have hp : ps[i]? = some y := by
      rw [← S.pre, List.getElem?_take_of_lt (by omega)]; exact h1
    have ndP : ps.Nodup := by rw [← S.pre]; exact S.nd.sublist (List.take_sublist _ _)
    refine ⟨u, rv, ?_⟩
    rcases S.par y (List.mem_of_getElem? hp) with k | k
    · exact .inl ⟨k, bindL_get ndP hp hu k⟩
    · obtain ⟨c, e⟩ := cell_has (n := s.heap.objs.size + 1) k
      refine .inr ⟨.inl k, c, e, ?_⟩
      have q := x.cell y c e
      rw [bindC_get ndP hp hu (by show scope.names.lookup y ≠ _; rw [k]; decide)] at q
      exact q
  · exact e0.hok.fresh (Nat.le_of_lt (x.above y c (PySem.mem_of_lookup h)))
  · unfold start
    show _ = N.length
    rw [List.length_append, List.length_map, List.length_replicate]
    omega
theorem fn_of {CX : CXT} {P : Program} {w : World} {K : PySem.W.Frag} {mg : Str → Option Value} {base : Heap} {k : Nat} {f : Addr} {name qual : Str} {params : Arguments} {body : List Stmt} {scope : Scope} {dV kV doc pm cdv ct oc : Value} {an od : Option Addr}
    {osl : Array (Option Value)} {N ps : List Str} {sp : Sp} (lk : K.lookup f = some ⟨oc, od, .func (PySem.W.fnOf name qual params body scope dV kV doc pm an cdv ct), osl⟩) (hcd : PySem.W.codeIn K cdv qual = true) (S : FnScope N ps scope)
    (len : ∀ vs H Q E, sp vs H Q E → vs.length = ps.length)
    (hbody : ∀ (A : Around) (outer : List Env) (s : Shared) (H : Hp) (vs : List V) (Q : VK) (E : XK), Room k (A.deeper (envOfC qual scope s.heap.objs.size f cdv)) → sp vs H Q E →
      ∃ t, PSs (cxOf CX P w K mg base N qual scope f cdv A outer s H E) body t ∧ t { nx := fun _ H' => Q .non H', rt := Q } (start N vs) H) :
    FnOk P w K mg base CX (k + 1) f (PySem.W.fnOf name qual params body scope dV kV doc pm an cdv ct) ps sp := by
  refine ⟨len, fun A outer s H args us vs Q E hr e0 hb r hsp => ?_⟩
  have hl := len _ _ _ _ hsp
  have KX : K.In s.heap := e0.mod.kin.keeps fun b o e => (e0.bs b o e).1
  have lim : s.heap.NoLimit := e0.mod.nolimit.keeps fun b o e => (e0.bs b o e).1
  have hkind : ∀ y ∈ ps.zip us, scope.names.lookup y.1 = some .local ∨ (scope.names.lookup y.1 = some .cell ∧ ((cellsFrom (s.heap.objs.size + 1) scope.names []).lookup y.1).isSome = true) := fun ⟨n, v⟩ hy => by
    rcases S.par n (List.of_mem_zip hy).1 with q | q
    · exact .inl q
    · exact .inr ⟨q, PySem.W.cellsFrom_some _ _ _ (.inl q)⟩
  refine codeAny_call_function hr.depth (KX _ _ lk) rfl S.co S.gen rfl (PySem.W.codeRec_of KX hcd) (hb _ _ _ _ ?_)
  refine wpAny_newFunctionEnv_cells S.kind hkind fun env he s1 x => ?_
  subst he
  refine ⟨lim.keeps x.toInCall.keep, codeAny_func ?_⟩
  obtain ⟨t, ht, hq⟩ := hbody A outer s H vs Q E (hr.deeper _) hsp
  have I : Inv (cxOf CX P w K mg base N qual scope f cdv A outer s H E) [] (start N vs) H s1 := inv_start S hr.hd e0 hl r x
  refine wpAny_mono (ht [] s1 (start N vs) H _ I hq) (fun fl s' hs => ?_) fun e s' hs => hs
  have fin : ∀ {σ' : St} {H' : Hp} {v : V} {u : Value}, Inv (cxOf CX P w K mg base N qual scope f cdv A outer s H E) [] σ' H' s' → RelV v u → Q v H' → CE outer P w H s Q u s' :=
    fun {σ' H' v u} J rv q => ⟨v, H', J.os, J.bare, J.base, J.hok, rv, q⟩
  cases fl with
  | ret u =>
    obtain ⟨v, σ', H', J, rv, q⟩ := hs
    exact fin J rv q
  | next =>
    obtain ⟨σ', H', J, q⟩ := hs
    exact fin (v := V.non) (u := Value.none) J rfl q
  | brk =>
    obtain ⟨_, _, _, q⟩ := hs
    exact False.elim q
  | cont =>
    obtain ⟨_, _, _, q⟩ := hs
    exact False.elim q
end L2
namespace L2
open PySem PySem.Spec PyProof.Rows
section
variable {X : Cx} {x : Str} {p pos : Pos} {e : Expr} {es : List Expr} {t : TA} {id T : String} {r : List V → Hp → VK → Prop}
def tCB (r : List V → Hp → VK → Prop) (t : TA) : TE := fun σ H Q => t σ H fun vs H1 => r vs H1 Q
theorem pe_callB (hc : CallR X (.builtin id) r) (hg : Gl X x) (hm : X.mg x = none) (hv : bootBuiltins x = some (.builtin id)) (ha : PA X (e :: es) t) (hn : x ≠ "__name__" := by decide) (hdb : (x == ("__debug__" : Str)) = false := by decide)
    (he : starEach (e :: es) X.env = (false, eval e X.env) :: starEach es X.env := by rfl) (hpl : (backTo pos (starEach es X.env)).any (·.1) = false := by rfl) : PE X (.Call (.Name x p) (e :: es) [] pos) (tCB r t) := by
  intro pins s σ H Q I h
  refine wpAny_Call_Name_kw (ld_blt I hg hm hv ?_ hn hdb)
  exact PyProof.Rows.callWith_builtin1 (thn (ha pos pins s σ H _ I h) fun us s1 ⟨vs, H1, I1, r1, q1⟩ => hc pins s1 σ H1 vs us Q I1 r1 q1) he hpl
theorem pe_callTy (hc : CallR X (.type T) r) (hg : Gl X x) (hm : X.mg x = none) (hv : bootBuiltins x = some (.type T)) (ha : PA X (e :: es) t) (hn : x ≠ "__name__" := by decide) (hdb : (x == ("__debug__" : Str)) = false := by decide)
    (he : starEach (e :: es) X.env = (false, eval e X.env) :: starEach es X.env := by rfl) (hpl : (backTo pos (starEach es X.env)).any (·.1) = false := by rfl) : PE X (.Call (.Name x p) (e :: es) [] pos) (tCB r t) := by
  intro pins s σ H Q I h
  refine wpAny_Call_Name_kw (ld_blt I hg hm hv ?_ hn hdb)
  exact PyProof.Rows.callWith_type1 (thn (ha pos pins s σ H _ I h) fun us s1 ⟨vs, H1, I1, r1, q1⟩ => hc pins s1 σ H1 vs us Q I1 r1 q1) he hpl
end
end L2
namespace HT
open PySem PyProof.Rows
section
open PySem.SeqAt
open PySem.AutoSeq1 (wpAny_loadPart')
open PySem.MeetsSeq PySem.MeetsSeq2 PySem.MeetsSeq3
end
section
variable {prog : Program} {w : World} {A : Around} {E : Value → Shared → Prop} {s : Shared}
def sIx (n d : Nat) : Option Int → Nat
  | none => d
  | some v => if v < 0 then (v + (n : Int)).toNat else min v.toNat n
theorem sIx_none (n d : Nat) : sIx n d none = d := rfl
theorem sIx_nat (n d k : Nat) : sIx n d (some (k : Int)) = min k n := by
  show (if (k : Int) < 0 then ((k : Int) + (n : Int)).toNat else min (k : Int).toNat n) = min k n
  rw [if_neg (by omega), Int.toNat_natCast]
end
end HT
namespace L2
open PySem PySem.Spec PyProof.Rows
abbrev TO := St → Hp → (Option Int → Hp → Prop) → Prop
def PO (X : Cx) (e : Option Expr) (t : TO) : Prop :=
  ∀ (pins : List (Addr × Obj)) (s : Shared) (σ : St) (H : Hp) (Q : Option Int → Hp → Prop), Inv X pins σ H s → t σ H Q →
    wpAny (model X.prog X.w) X.A (evalPart e X.env) (fun u s' => ∃ o H', Inv X pins σ H' s' ∧ IsPart u o ∧ Q o H') X.xe s
def tNoPart : TO := fun _ H Q => Q none H
def tPart (t : TE) : TO := fun σ H Q => t σ H fun x H1 => ∃ i, x = .int i ∧ Q (some i) H1
section
variable {X : Cx} {e : Expr} {te : TE} {lo hi : Option Expr} {tl th : TO} {pos p2 : Pos}
theorem po_none : PO X none tNoPart := by
  intro pins s σ H Q I h
  rw [evalPart_none]
  exact wpAny_pure ⟨none, H, I, .none, h⟩
theorem po_some (h : PE X e te) : PO X (some e) (tPart te) := by
  intro pins s σ H Q I hw
  rw [evalPart_some]
  refine thn (h pins s σ H _ I hw) fun u s1 ⟨x, H1, I1, r1, q1⟩ => ?_
  obtain ⟨i, rfl, q⟩ := q1
  obtain ⟨t, rfl⟩ := r1
  exact ⟨some i, H1, I1, .int i t, q⟩
def SlR (X : Cx) (r : V → Option Int → Option Int → Hp → VK → Prop) : Prop :=
  ∀ (pins : List (Addr × Obj)) (s : Shared) (σ : St) (H : Hp) (x : V) (v vl vu : Value) (lo hi : Option Int) (sl : Addr) (Q : VK), Inv X pins σ H s → RelV x v → s.heap.IsSliceOf sl vl vu .none → IsPart vl lo → IsPart vu hi → r x lo hi H Q →
    ∃ T id, typeLookup (.type T) "__getitem__" = pure (some (.builtin id)) ∧ s.TypeIs v T ∧ wpAny (model X.prog X.w) X.A (getItem v (.ref sl)) (EP X pins σ Q) X.xe s
def tSl (r : V → Option Int → Option Int → Hp → VK → Prop) (te : TE) (tl th : TO) : TE := fun σ H Q => te σ H fun x H1 => tl σ H1 fun l H2 => th σ H2 fun u H3 => r x l u H3 Q
theorem pe_slice {r : V → Option Int → Option Int → Hp → VK → Prop} (hr : SlR X r) (he : PE X e te) (hl : PO X lo tl) (hu : PO X hi th) : PE X (.Subscript e (.Slice lo hi none p2) pos) (tSl r te tl th) := by
  intro pins s σ H Q I h
  refine Subscript_ (thn (he pins s σ H _ I h) fun v s1 ⟨x, H1, I1, r1, q1⟩ => ?_)
  refine wpAny_Slice (thn (hl pins s1 σ H1 _ I1 q1) fun vl s2 ⟨l, H2, I2, pl, q2⟩ => thn (hu pins s2 σ H2 _ I2 q2) fun vu s3 ⟨u, H3, I3, pu, q3⟩ => ?_)
  rw [evalPart_none]
  refine wpAny_pure ?_
  have I4 : Inv X pins σ H3 { s3 with heap := s3.heap.push { cls := .type "slice", data := .fields #[vl, vu, .none] } } := I3.kept (t' := s3.toks) fun b ob q => Heap.get?_push_of_some _ q
  obtain ⟨T, id, hT, ht, hg⟩ := hr pins { s3 with heap := s3.heap.push { cls := .type "slice", data := .fields #[vl, vu, .none] } } σ H3 x v vl vu l u s3.heap.objs.size Q I4 r1 (Heap.IsSliceOf.new ..) pl pu q3
  show wpAny (model X.prog X.w) X.A (subscriptTail e (.Slice lo hi none p2) v (.ref s3.heap.objs.size)) (EP X pins σ Q) X.xe { s3 with heap := s3.heap.push { cls := .type "slice", data := .fields #[vl, vu, .none] } }
  exact tail_any (ops := [.ref s3.heap.objs.size, v]) ht hT hg (by with_unfolding_all rfl)
def cutV (xs : List V) (lo hi : Option Int) : List V := (xs.drop (HT.sIx xs.length 0 lo)).take (HT.sIx xs.length xs.length hi - HT.sIx xs.length 0 lo)
theorem cutV_length (xs : List V) (lo hi : Option Int) : (cutV xs lo hi).length ≤ xs.length := by
  unfold cutV
  rw [List.length_take, List.length_drop]
  omega
end
end L2
namespace L2
open PySem PySem.Spec PyProof.Rows
def ixN (n : Nat) (i : Int) : Option Nat := if 0 ≤ i then (if i < n then some i.toNat else none) else if -(n : Int) ≤ i then some (i + n).toNat else none
def atI {α : Type} (xs : List α) (i : Int) : Option α := (ixN xs.length i).bind fun j => xs[j]?
theorem ixN_seq {n : Nat} {i : Int} {j : Nat} (h : ixN n i = some j) : seqIndex? i n = some j ∧ j < n ∧ -(n : Int) ≤ i ∧ i < n := by
  unfold ixN at h
  by_cases h0 : 0 ≤ i
  · rw [if_pos h0] at h
    by_cases h1 : i < n
    · rw [if_pos h1] at h
      have e : i.toNat = j := Option.some.inj h
      exact ⟨by rw [seqIndex_of h0 h1, e], by omega, by omega, h1⟩
    · rw [if_neg h1] at h; cases h
  · rw [if_neg h0] at h
    by_cases h1 : -(n : Int) ≤ i
    · rw [if_pos h1] at h
      have e : (i + n).toNat = j := Option.some.inj h
      exact ⟨by rw [seqIndex_neg (by omega) h1, e], by omega, h1, by omega⟩
    · rw [if_neg h1] at h; cases h
theorem atI_get {α : Type} {xs : List α} {i : Int} {v : α} (h : atI xs i = some v) : ∃ j, seqIndex? i xs.length = some j ∧ xs[j]? = some v ∧ j < xs.length ∧ -(xs.length : Int) ≤ i ∧ i < xs.length := by
  unfold atI at h
  cases e : ixN xs.length i with
  | none => rw [e] at h; cases h
  | some j =>
    rw [e] at h
    obtain ⟨h1, h2, h3, h4⟩ := ixN_seq e
    exact ⟨j, h1, h, h2, h3, h4⟩
theorem atI_nat {α : Type} {xs : List α} {j : Nat} {v : α} (h : xs[j]? = some v) : atI xs (j : Int) = some v := by
  have hj : j < xs.length := (List.getElem?_eq_some_iff.mp h).1
  have e : ixN xs.length (j : Int) = some j := by
    unfold ixN
    rw [if_pos (by omega), if_pos (by omega)]; simp
  unfold atI; rw [e]; exact h
def PlainIx (b : Expr) : Prop := ∀ o i, subscripted b false o i = operate [o, i] (getItem o i)
def IxR (X : Cx) (r : R2) : Prop :=
  ∀ (value slice : Expr) (pins : List (Addr × Obj)) (s : Shared) (σ : St) (H : Hp) (x y : V) (v u : Value) (Q : VK), Inv X pins σ H s → RelV x v → RelV y u → r x y H Q →
    subscripted slice false v u = operate [v, u] (getItem v u) → wpAny (model X.prog X.w) X.A (subscriptTail value slice v u) (EP X pins σ Q) X.xe s
section
variable {X : Cx} {a b : Expr} {ta tb : TE} {pos : Pos}
theorem IxR.or {r r' : R2} (h : IxR X r) (h' : IxR X r') : IxR X (fun x y H Q => r x y H Q ∨ r' x y H Q) := by
  intro value slice pins s σ H x y v u Q I rx ry q hs
  rcases q with q | q
  · exact h value slice pins s σ H x y v u Q I rx ry q hs
  · exact h' value slice pins s σ H x y v u Q I rx ry q hs
theorem pe_ix {r : R2} (hr : IxR X r) (ha : PE X a ta) (hb : PE X b tb) (hs : PlainIx b) : PE X (.Subscript a b pos) (tOp r ta tb) := by
  intro pins s σ H Q I h
  exact Subscript_ (binT ha hb I h fun v u s2 x y H2 I2 rx ry q => hr a b pins s2 σ H2 x y v u Q I2 rx ry q (hs _ _))
def rIxL (K : PySem.W.Frag) : R2 := fun x y H Q => ∃ p xs i v, x = .ref p ∧ y = .int i ∧ SqL K H p xs ∧ atI xs i = some v ∧ Q v H
def rIxT (K : PySem.W.Frag) : R2 := fun x y H Q => ∃ p xs i v, x = .ref p ∧ y = .int i ∧ SqT K H p xs ∧ atI xs i = some v ∧ Q v H
def rIxS : R2 := fun x y H Q => ∃ z i c, x = .str z ∧ y = .int i ∧ z.length ≤ sizeLine ∧ atI z.cps.toList i = some c ∧ Q (.str ⟨#[c]⟩) H
theorem ix_list : IxR X (rIxL X.K) := by
  intro value slice pins s σ H x y v u Q I rx ry h hs
  obtain ⟨p, xs, i, z, rfl, rfl, hq, he, q⟩ := h
  cases rx
  obtain ⟨t, rfl⟩ := ry
  obtain ⟨its, r, pl, hz⟩ := I.list hq
  obtain ⟨j, h1, h2, h3, h4, h5⟩ := atI_get he
  obtain ⟨w, ew, rw'⟩ := r.get h2
  have hl := r.length
  have hn := line63
  have fin : EP X pins σ Q w s := ⟨z, H, I, rw', q⟩
  by_cases h0 : 0 ≤ i
  · have hj : i.toNat = j := by
      rw [seqIndex_of h0 h5] at h1
      exact Option.some.inj h1
    exact item_listR pl.isList h0 (by omega) (by rw [hj]; simpa using ew) fin hs
  · have hj : (i + (its.toArray.size : Int)).toNat = j := by
      rw [seqIndex_neg (by omega) h4] at h1
      rw [List.size_toArray, ← hl]
      exact Option.some.inj h1
    exact subscriptTail_builtinR (x := w) pl.isList.typeIs slot_list_getitem.lookup
      (wpAny_getItem_list_neg (Q := fun r s' => r = w ∧ EP X pins σ Q r s') pl.isList (by omega) (by rw [List.size_toArray] <;> omega) (by omega) (by rw [hj]; simpa using ew) ⟨rfl, fin⟩) hs
theorem ix_tup : IxR X (rIxT X.K) := by
  intro value slice pins s σ H x y v u Q I rx ry h hs
  obtain ⟨p, xs, i, z, rfl, rfl, hq, he, q⟩ := h
  cases rx
  obtain ⟨t, rfl⟩ := ry
  obtain ⟨its, r, pl, hz⟩ := I.tuple hq
  obtain ⟨j, h1, h2, h3, h4, h5⟩ := atI_get he
  obtain ⟨w, ew, rw'⟩ := r.get h2
  have hl := r.length
  have hn := line63
  have fin : EP X pins σ Q w s := ⟨z, H, I, rw', q⟩
  exact subscriptTail_builtinR (x := w) pl.typeIs slot_tuple_getitem.lookup
    (getItem_tuple (j := j) (Q := fun r s' => r = w ∧ EP X pins σ Q r s') pl (by omega) (by omega) (by rw [List.size_toArray, ← hl]; exact h1) (by simpa using ew) ⟨rfl, fin⟩) hs
theorem ix_str : IxR X rIxS := by
  intro value slice pins s σ H x y v u Q I rx ry h hs
  obtain ⟨z, i, c, rfl, rfl, hz, he, q⟩ := h
  obtain ⟨t, rfl⟩ := rx
  obtain ⟨t', rfl⟩ := ry
  obtain ⟨j, h1, h2, h3, h4, h5⟩ := atI_get he
  have hl : z.cps.toList.length = z.length := by simp [Str.length]
  rw [hl] at h1 h4 h5
  have hn := line63
  exact tail_any (typeIs_str s z t) slot_str_getitem.lookup (getItem_str (c := c) (by
    have e1 : decide (i < -(2 ^ 63 : Int)) = false := decide_eq_false (by omega)
    have e2 : decide (i ≥ 2 ^ 63) = false := decide_eq_false (by omega)
    rw [e1, e2, Bool.or_false]) (by rw [h1]; simpa using h2) ⟨.str ⟨#[c]⟩, H, I.tok _, ⟨_, rfl⟩, q⟩) hs
def rIx (K : PySem.W.Frag) : R2 := fun x y H Q => rIxL K x y H Q ∨ rIxT K x y H Q ∨ rIxS x y H Q
theorem ix_seq : IxR X (rIx X.K) := ix_list.or (ix_tup.or ix_str)
theorem slice_bounds (lo hi : Option Int) (n : Nat) : (sliceBounds lo hi none n).1 = ((HT.sIx n 0 lo : Nat) : Int) ∧ (sliceBounds lo hi none n).2.1 = ((HT.sIx n n hi : Nat) : Int) ∧ (sliceBounds lo hi none n).2.2 = 1 := by
  refine ⟨?_, ?_, rfl⟩
  · cases lo with
    | none => simp [sliceBounds, HT.sIx]
    | some i =>
      simp only [sliceBounds, HT.sIx, Option.getD_none, show (1 : Int) > 0 by decide, if_true]
      by_cases h : i < 0
      · simp only [h, if_true] <;> omega
      · simp only [h, if_false] <;> omega
  · cases hi with
    | none => simp [sliceBounds, HT.sIx]
    | some i =>
      simp only [sliceBounds, HT.sIx, Option.getD_none, show (1 : Int) > 0 by decide, if_true]
      by_cases h : i < 0
      · simp only [h, if_true] <;> omega
      · simp only [h, if_false] <;> omega
theorem slicePick_cut (its : List Value) (lo hi : Option Int) : slicePick its.toArray lo hi none = ((its.drop (HT.sIx its.length 0 lo)).take (HT.sIx its.length its.length hi - HT.sIx its.length 0 lo)).toArray := by
  obtain ⟨h1, h2, h3⟩ := slice_bounds lo hi its.toArray.size
  unfold slicePick
  rw [h1, h2, h3]
  simp only [sliceRange_one, pick_run, List.size_toArray] <;> rfl
def rSlL (K : PySem.W.Frag) : V → Option Int → Option Int → Hp → VK → Prop := fun x lo hi H Q => ∃ a xs, x = .ref a ∧ SqL K H a xs ∧ ∀ p, H p = none → Q (.ref p) (upd H p (.lst (cutV xs lo hi)))
theorem sl_list : SlR X (rSlL X.K) := by
  intro pins s σ H x v vl vu lo hi sl Q I rx hs pl pu h
  obtain ⟨a, xs, rfl, hx, q⟩ := h
  cases rx
  obtain ⟨its, r, ht, hz⟩ := I.list hx
  have hlen := r.length
  refine ⟨"list", _, slot_list_getitem.lookup, ht.isList.typeIs, ?_⟩
  refine wpAny_getItem_list_slice ht.isList hs pl pu .none (by simp) ?_ (by rw [List.size_toArray] <;> omega)
  rw [slicePick_cut, ← hlen]
  refine ⟨.ref s.heap.objs.size, _, I.laid (t' := s.toks) (o := .lst (cutV xs lo hi)) (fun b ob q => Heap.get?_push_of_some _ q) (Nat.le_refl _) ?_, rfl, q _ (I.hok.fresh (Nat.le_refl _))⟩
  exact ⟨Nat.le_trans (cutV_length xs lo hi) hz, _, 0, (r.drop (HT.sIx xs.length 0 lo)).take (HT.sIx xs.length xs.length hi - HT.sIx xs.length 0 lo), Heap.get?_push_size _ rfl⟩
theorem call_len_seq : CallR X (.builtin "len") (fun xs H Q => ∃ p ys, xs = [.ref p] ∧ (SqL X.K H p ys ∨ SqT X.K H p ys) ∧ Q (.int ys.length) H) := by
  intro pins s σ H xs us Q I r h
  obtain ⟨p, ys, rfl, hq, q⟩ := h
  obtain ⟨u, rfl, rx⟩ := vals1 r
  cases rx
  have hn := line63
  rcases hq with hq | hq
  · obtain ⟨its, r', pl, hz⟩ := I.list hq
    have hlen := r'.length
    exact Calls.call_len_list pl.isList (by simp only [List.size_toArray] <;> omega) ⟨.int ys.length, H, I.tok _, ⟨s.toks + 1, by rw [List.size_toArray, hlen]⟩, q⟩
  · obtain ⟨its, r', pl, hz⟩ := I.tuple hq
    have hlen := r'.length
    exact len_tuple pl (by simp only [List.size_toArray] <;> omega) ⟨.int ys.length, H, I.tok _, ⟨s.toks + 1, by rw [List.size_toArray, hlen]⟩, q⟩
theorem call_len_str : CallR X (.builtin "len") (fun xs H Q => ∃ z, xs = [.str z] ∧ z.length ≤ sizeLine ∧ Q (.int z.length) H) := by
  intro pins s σ H xs us Q I r h
  obtain ⟨z, rfl, hz, q⟩ := h
  obtain ⟨u, rfl, t, rfl⟩ := vals1 r
  have hn := line63
  exact len_str (by omega) ⟨.int z.length, H, I.tok _, ⟨_, rfl⟩, q⟩
theorem CallR.or {f : Value} {r r' : List V → Hp → VK → Prop} (h : CallR X f r) (h' : CallR X f r') : CallR X f (fun xs H Q => r xs H Q ∨ r' xs H Q) := by
  intro pins s σ H xs us Q I rs q
  rcases q with q | q
  · exact h pins s σ H xs us Q I rs q
  · exact h' pins s σ H xs us Q I rs q
variable {o e : Expr} {es : List Expr} {to : TE} {t : TA} {name : Str} {apos cpos : Pos} {T id : String} {r : V → List V → Hp → VK → Prop}
end
end L2
namespace L2
open PySem PySem.Spec PyProof.Rows
theorem Vals.rep {xs : List V} {us : List Value} (h : Vals xs us) : ∀ k : Nat, Vals (List.replicate k xs).flatten (List.replicate k us).flatten
  | 0 => .nil
  | k + 1 => by
    rw [List.replicate_succ, List.replicate_succ, List.flatten_cons, List.flatten_cons]
    exact Vals.append h (Vals.rep h k)
theorem foldl_rep (its : List Value) : ∀ (k : Nat) (acc : List Value),
    List.foldl (fun x1 x2 => x1 ++ x2) acc.toArray (List.replicate k its.toArray) = (acc ++ (List.replicate k its).flatten).toArray
  | 0, acc => by simp
  | k + 1, acc => by
    have e : acc.toArray ++ its.toArray = (acc ++ its).toArray := by simp
    have e2 : (acc ++ its) ++ (List.replicate k its).flatten = acc ++ (List.replicate (k + 1) its).flatten := by
      rw [List.replicate_succ, List.flatten_cons, List.append_assoc]
    rw [← e2, ← foldl_rep its k (acc ++ its), ← e, List.replicate_succ, List.foldl_cons]
section
variable {X : Cx} {pins : List (Addr × Obj)} {σ : St} {H : Hp} {s : Shared} {l b : Addr} {xs ys zs : List V}
theorem Inv.lnew {its : List Value} {t' : Nat} (I : Inv X pins σ H s) (hv : Vals ys its) (hz : ys.length ≤ sizeLine) :
    Inv X pins σ (upd H s.heap.objs.size (.lst ys)) { s with heap := s.heap.push { cls := .type "list", data := .seq its.toArray }, toks := t' } :=
  I.laid (fun _ _ q => Heap.get?_push_of_some _ q) (Nat.le_refl _) ⟨hz, its, 0, hv, Heap.get?_push_size _ rfl⟩
theorem Inv.fresh (I : Inv X pins σ H s) : H s.heap.objs.size = none := I.hok.fresh (Nat.le_refl _)
theorem Inv.lstM (I : Inv X pins σ H s) (hH : H l = some (.lst xs)) : xs.length ≤ sizeLine ∧ ∃ (its : List Value) (n : Nat), Vals xs its ∧ xs.length = its.length ∧ s.heap.get? l = some { cls := .type "list", data := .seq its.toArray n } := by
  obtain ⟨z, its, n, r, e⟩ := I.hok l _ hH
  exact ⟨z, its, n, r, r.length, e⟩
theorem notLongL {n : Nat} (h : n ≤ sizeLine) : Builtin.List.listTooLong n = false := by
  unfold Builtin.List.listTooLong
  exact decide_eq_false (by omega)
end
section
variable {X : Cx}
def rRep : R2 := fun x y H Q => ∃ l k xs, x = .ref l ∧ y = .int k ∧ H l = some (.lst xs) ∧ -(2 ^ 63) ≤ k ∧ k < 2 ^ 63 ∧ xs.length * k.toNat ≤ sizeLine ∧
  ∀ p, H p = none → Q (.ref p) (upd H p (.lst (List.replicate k.toNat xs).flatten))
theorem len_rep {α : Type} (xs : List α) (k : Nat) : (List.replicate k xs).flatten.length = k * xs.length := by
  induction k with
  | zero => simp
  | succ k ih => rw [List.replicate_succ, List.flatten_cons, List.length_append, ih, Nat.succ_mul, Nat.add_comm]
theorem op_rep : OpR X (binaryOp .Mult) rRep := by
  intro pins s σ H x y v u Q I rx ry h
  obtain ⟨l, k, xs, rfl, rfl, hH, h1, h2, hz, q⟩ := h
  cases rx
  obtain ⟨t, rfl⟩ := ry
  obtain ⟨z, its, n, r, hl, e⟩ := I.lstM hH
  have hlen : its.toArray.size * k.toNat ≤ sizeLine := by rw [List.size_toArray, ← hl]; exact hz
  have hcap : ¬ its.toArray.size * k.toNat > (2 ^ 63 - 1) / 8 := by
    have : (sizeLine : Nat) ≤ (2 ^ 63 - 1) / 8 := by decide
    omega
  have hfit : ¬ (!Builtin.List.listFitsIndex k) = true := by
    rw [fitsIndex_both h1 h2]
    exact Bool.false_ne_true
  have hlong : ¬ Builtin.List.listTooLong (its.toArray.size * k.toNat) = true := by
    rw [notLongL hlen]
    exact Bool.false_ne_true
  have hnew : List.foldl (fun x1 x2 => x1 ++ x2) #[] (List.replicate (if its.toArray.isEmpty = true then 0 else k.toNat) its.toArray) = (List.replicate k.toNat its).flatten.toArray := by
    have f0 : ∀ m : Nat, List.foldl (fun x1 x2 => x1 ++ x2) #[] (List.replicate m its.toArray) = (List.replicate m its).flatten.toArray := fun m => by
      have := foldl_rep its m []
      rw [List.nil_append] at this
      exact this
    rw [f0]
    cases its with
    | nil => simp
    | cons a r' => rw [if_neg (by simp)]
  refine wpAny_binaryOp_repeat_ref (T := "list") (U := "int") (by decide) ⟨_, e, rfl⟩ (fun s' => typeIs_int s' k t) noFill_list_mul F.fills_int_mul F.slot_int_rmul repeat_list F.slot_int_index.lookup
    (call_meets F.slot_int_rmul (typeIs_int s k t) F.entry_int_rmul (F.args_int_rmul_2 _ _) (int___rmul___int_list k t l its.toArray n)
      ⟨e, rfl, ⟨_, e, rfl⟩, call_meets F.slot_list_mul ⟨_, e, rfl⟩ F.entry_list_mul (F.args_list_mul_2 _ _) (AutoListH.list___mul___list_int_3 l its.toArray n k t hfit hcap hlong) ⟨e, ?_⟩⟩)
  rw [hnew]
  exact ⟨.ref _, _, I.lnew (t' := s.toks) (r.rep k.toNat) (by rw [len_rep, Nat.mul_comm]; exact hz), rfl, q _ I.fresh⟩
end
section
variable {prog : Program} {w : World} {A : Around} {E : Value → Shared → Prop} {s : Shared}
end
section
variable {X : Cx}
end
end L2
namespace Att
open PySem PySem.W PySem.Calls PyProof.Rows
theorem ints_of_wellAll {P : Params} {h : Heap} : ∀ (ns : List Int) (vs : List Value), WellAll P h vs (ns.map WData.int) → IntsAre vs ns := by
  intro ns
  induction ns with
  | nil =>
    intro vs w
    rw [List.map_nil] at w
    cases w
    exact .nil
  | cons n ns ih =>
    intro vs w
    rw [List.map_cons] at w
    cases w with
    | cons a b =>
      cases a
      exact .cons _ _ (ih _ b)
theorem script_of {l : OpenLaw} {n : Nat} (hn : l.most = some n) {P : Params} {h : Heap} {args : List WData} {vals : List Value}
    (hpre : l.row.toRowW.claim.pre args = true) (hwl : WellAll P h vals args) :
    ∃ a vs ns, vals = [Value.ref a] ∧ args = [WData.list (ns.map WData.int)] ∧ h.get? a = some { cls := .type "list", data := .seq vs.toArray } ∧ IntsAre vs ns ∧ ns.length ≤ n := by
  have hsh : WShape.hasAll [] args [.list .int] = true := (pre_splitW hpre).1
  have hc : l.pre.holds [] { args := args } = true := (pre_splitW hpre).2
  obtain ⟨d, r, rfl, h1, h2⟩ := hasAllW_cons hsh
  obtain rfl := hasAllW_nil h2
  obtain ⟨xs, rfl, h3⟩ := hasW_list h1
  obtain ⟨ns, rfl⟩ := items_int h3
  have hlen : ns.length ≤ n := by
    unfold OpenLaw.pre at hc
    have h4 : (WTm.not (.lt (.lit (.int (n : Int))) (.len (.arg 0)))).holds [] { args := [.list (ns.map .int)] } = true := by
      have h4 := (holds_andW hc).1
      rw [hn] at h4
      exact h4
    have h5 := condW_of h4 (w_not (w_lt w_lit (w_len_list (w_arg rfl))))
    rw [List.length_map] at h5
    refine Nat.le_of_not_lt fun q => ?_
    have q' : (n : Int) < ((ns.length : Nat) : Int) := by omega
    first
      | (rw [decide_eq_true q'] at h5; exact absurd h5 (by decide))
      | (simp at h5; omega)
  cases hwl with
  | cons w1 w2 =>
    cases w2
    cases w1 with
    | list ho hall => exact ⟨_, _, ns, rfl, rfl, ho, ints_of_wellAll ns _ hall, hlen⟩
theorem post_true (l : OpenLaw) (args : List WData) : l.row.toRowW.claim.post args (.bool true) args = true :=
  postW_of (r := l.row.toRowW) (X := (true == true))
    (show WShape.has [] (.bool true) .bool = true by first | rfl | decide | simp [WShape.has, WShape.arms, WShape.armsAll])
    (show (WTm.eq .res (.lit (.bool true))).value [] { args := args, res := some (.bool true), after := args } = some (.bool (true == true)) from w_eq_bool (w_res rfl) w_lit) rfl
section
variable {prog : Program} {w : World} {A : Around} {E : Value → Shared → Prop} {s : Shared} {K : Frag}
end
end Att
namespace L2
open PySem PySem.Spec PyProof.Rows
theorem vals_ints : ∀ {vs : List Value} {ns : List Int}, IntsAre vs ns → Vals (ns.map V.int) vs
  | _, _, .nil => .nil
  | _, _, .cons n t h => .cons ⟨t, rfl⟩ (vals_ints h)
def Only (H : Hp) : Prop := ∀ b, H b = none ∨ ∃ o xs, H b = some (.frz o (.lst xs))
theorem law_call {P : Program} {w : World} {K : PySem.W.Frag} {mg mb : Str → Option Value} {CX : CXT} {k : Nat} {fa a : Addr} {fd : FuncData} {x : Str} {sp : Sp} {s₁ : Shared} {vs : List Value} {ns : List Int}
    (KX : K.In s₁.heap) (hns : s₁.heap.Ns mainGlobals mg) (hb : s₁.heap.Ns builtinsNs mb) (hbb : ∀ x : Str, x ≠ "__name__" → mb x = bootBuiltins x) (hlim : s₁.heap.NoLimit) (hg : s₁.gens = #[])
    (ha : s₁.heap.get? a = some { cls := .type "list", data := .seq vs.toArray }) (hi : IntsAre vs ns) (hl : ns.length ≤ sizeLine) (hr : Room k callerA)
    (F : ∀ base : Heap, K.In base → base.Ns mainGlobals mg → FnOk P w K mg base CX k fa fd [x] sp) (hbind : ∀ (s : Shared) (u : Value), BindsTo s fd ⟨[u], []⟩ [(x, u)])
    (hsp : ∀ H : Hp, Only H → SqL K H a (ns.map V.int) → sp [.ref a] H (fun v _ => v = .bl true) fun _ _ _ => False)
    (hCX : ∀ H e s', CX [] H s₁ (fun _ _ _ => False) e s' → False) :
    codeAny (model P w) callerA (.call (.ref fa) ⟨[.ref a], []⟩) (fun r s' => r = .ok (.ret (.bool true)) ∧ OldK s₁.heap s'.heap ∧ s'.os = s₁.os ∧ AllBare s'.gens) s₁ := by
  have rv := vals_ints hi
  have lenV := hi.length
  -- from an abstract heap in which nothing but the script may be tracked
  have core : ∀ H : Hp, Only H → SqL K H a (ns.map V.int) → HOk P w H s₁.heap → (∀ b, H b ≠ none → b = a) → (H a ≠ none → K.lookup a = none) →
      codeAny (model P w) callerA (.call (.ref fa) ⟨[.ref a], []⟩) (fun r s' => r = .ok (.ret (.bool true)) ∧ OldK s₁.heap s'.heap ∧ s'.os = s₁.os ∧ AllBare s'.gens) s₁ := by
    intro H hO hS hok hA hK
    have base_of : ∀ {b : Addr} {o : Obj}, s₁.heap.get? b = some o → H b = none → (hidT s₁.heap H).get? b = some o := fun e n => hidT_get e n
    have noA : ∀ {b : Addr} {o : Obj} {es : Array DictEntry} {ep : Nat}, s₁.heap.get? b = some o → o.data = .dict es ep → H b = none := fun {b o es ep} e d => by
      cases q : H b with
      | none => rfl
      | some u =>
        have e' : b = a := hA b (by rw [q]; simp)
        subst e'
        rw [ha] at e; cases e
        have d' : Data.seq vs.toArray _ = Data.dict es ep := d
        cases d'
    have nsK : ∀ {b : Addr} {m : Str → Option Value}, s₁.heap.Ns b m → (hidT s₁.heap H).Ns b m := fun {b m} ⟨o, es, ep, e, d, r⟩ => ⟨o, es, ep, base_of e (noA e d), d, r⟩
    have hKb : K.In (hidT s₁.heap H) := fun b o e => base_of (KX b o e) (by
      cases q : H b with
      | none => rfl
      | some u =>
        have e' : b = a := hA b (by rw [q]; simp)
        subst e'
        rw [hK (by rw [q]; simp)] at e; cases e)
    have hM : Mod K mg (hidT s₁.heap H) := ⟨hKb, nsK hns, ⟨mb, nsK hb, hbb⟩, let ⟨mc, h1, h2⟩ := hlim; ⟨mc, nsK h1, h2⟩⟩
    have e0 : Env0 P w K mg (hidT s₁.heap H) callerA [] s₁ H := ⟨rfl, hM, fun b o e => of_hidT e, Nat.le_of_eq (hidT_size _ _), trivial, fun b hb => absurd (show b ∈ ([] : List Addr) from hb) (by simp), hok, .of_eq hg⟩
    refine codeAny_mono ((F _ hKb (nsK hns)).run callerA [] s₁ H ⟨[.ref a], []⟩ [.ref a] [.ref a] _ _ hr e0 (hbind s₁ (.ref a)) (.cons rfl .nil) (hsp H hO hS)) fun r s' h => ?_
    cases r with
    | error e => exact (hCX H e s' h).elim
    | ok fl =>
      cases fl with
      | next => exact False.elim h
      | brk => exact False.elim h
      | cont => exact False.elim h
      | ret u =>
        obtain ⟨v, H', os, bare, un, hok', r', q⟩ := h
        have q' : v = .bl true := q
        subst q'
        obtain rfl : u = Value.bool true := r'
        refine ⟨rfl, OldK.of_keep fun b o e => ?_, os, bare⟩
        cases q : H b with
        | none => exact un.keep b o e q (by intro z; exact absurd (show b ∈ ([] : List Addr) from z) (by simp)) (by simp)
        | some u =>
          rcases hO b with z | ⟨ob, xs, z⟩
          · rw [q] at z; cases z
          · have z2 := un.frzs b ob _ z
            obtain ⟨e1, _⟩ := hok b _ z
            obtain ⟨e2, _⟩ := hok' b _ z2
            rw [e] at e1; cases e1
            exact e2
  cases hk : K.lookup a with
  | some o =>
    -- the script is one of the module's own objects
    have e := KX a o hk
    rw [ha] at e
    cases e
    refine core (fun _ => none) (fun _ => .inl rfl) (.inr ⟨_, vs.toArray, _, hk, rfl, rfl, rfl, by rw [List.size_toArray, lenV]; exact hl, by simpa using rv⟩) (fun b u z => by have z' : (none : Option HO) = some u := z; cases z') (fun b z => absurd rfl z) fun z => absurd rfl z
  | none =>
    refine core (fun b => if b = a then some (.frz { cls := .type "list", data := .seq vs.toArray } (.lst (ns.map V.int))) else none) (fun b => ?_) (.inl (.inr ⟨{ cls := .type "list", data := .seq vs.toArray }, if_pos rfl⟩)) (fun b u z => ?_) (fun b z => ?_) fun _ => hk
    · by_cases hb : b = a
      · exact .inr ⟨_, _, if_pos hb⟩
      · exact .inl (if_neg hb)
    · by_cases hb : b = a
      · have z' := (if_pos hb).symm.trans z
        cases z'
        subst hb
        exact ⟨ha, by rw [List.length_map]; exact hl, vs, _, rv, ha⟩
      · have z' := (if_neg hb).symm.trans z
        cases z'
    · by_cases hb : b = a
      · exact hb
      · exact absurd (if_neg hb) z
end L2
namespace L2
open PySem PySem.Spec PyProof.Rows
end L2
namespace L2
open PySem PySem.Spec PyProof.Rows
def defArgs (s : Stmt) : Arguments := match s with
  | .FunctionDef _ a _ _ _ _ _ _ _ _ => a
  | _ => { posonlyargs := [], args := [], vararg := none, kwonlyargs := [], kw_defaults := [], kwarg := none, defaults := [] }
def defBody (s : Stmt) : List Stmt := match s with
  | .FunctionDef _ _ b _ _ _ _ _ _ _ => b
  | _ => []
def defScope (s : Stmt) : Scope := match s with
  | .FunctionDef _ _ _ _ _ _ sc _ _ _ => sc
  | _ => { kind := .function, names := [], isGenerator := false, isCoroutine := false }
abbrev CX0 : CXT := fun _ _ _ _ _ _ => False
abbrev E0 : XK := fun _ _ _ => False
theorem pass0 {X : Cx} : Passes CX0 X E0 := fun _ _ _ _ _ _ _ h => h.elim
structure Fun (K : PySem.W.Frag) (x qual : Str) (st : Stmt) (f : Addr) (fd : FuncData) : Prop where
  ex : ∃ (oc : Value) (od : Option Addr) (kV doc pm : Value) (an : Option Addr) (cdv ct : Value) (osl : Array (Option Value)),
    fd = PySem.W.fnOf x qual (defArgs st) (defBody st) (defScope st) .none kV doc pm an cdv ct ∧ K.lookup f = some ⟨oc, od, .func fd, osl⟩ ∧ PySem.W.codeIn K cdv qual = true
  kp : PySem.W.keepIn K (.ref f) = true
section
variable {P : Program} {w : World} {K : PySem.W.Frag} {mg : Str → Option Value} {base : Heap}
theorem Fun.ok {x qual : Str} {st : Stmt} {f : Addr} {fd : FuncData} {N ps : List Str} {k : Nat} {sp : Sp} (F : Fun K x qual st f fd) (S : FnScope N ps (defScope st)) (len : ∀ vs H Q E, sp vs H Q E → vs.length = ps.length)
    (hbody : ∀ (cdv : Value) (A : Around) (outer : List Env) (s : Shared) (H : Hp) (vs : List V) (Q : VK) (E : XK), Room k (A.deeper (envOfC qual (defScope st) s.heap.objs.size f cdv)) → sp vs H Q E →
      ∃ t, PSs (cxOf CX0 P w K mg base N qual (defScope st) f cdv A outer s H E).nox (defBody st) t ∧ t { nx := fun _ H' => Q .non H', rt := Q } (start N vs) H) : FnOk P w K mg base CX0 (k + 1) f fd ps sp := by
  obtain ⟨oc, od, kV, doc, pm, an, cdv, ct, osl, rfl, lk, hcd⟩ := F.ex
  refine fn_of lk hcd S len fun A outer s H vs Q E hr hsp => ?_
  obtain ⟨t, h, q⟩ := hbody cdv A outer s H vs Q E hr hsp
  exact ⟨t, h.nox, q⟩
end
section
variable {X : Cx}
end
theorem iteF {A B : Prop} (h : B) : if false = true then A else B := by
  rw [if_neg Bool.false_ne_true]
  exact h
theorem iteT {A B : Prop} (h : A) : if true = true then A else B := by
  rw [if_pos rfl]
  exact h
def Same (H H' : Hp) : Prop := ∀ b o, H b = some o → H' b = some o
theorem Same.refl (H : Hp) : Same H H := fun _ _ h => h
theorem Same.trans {H H1 H2 : Hp} (a : Same H H1) (b : Same H1 H2) : Same H H2 := fun c o h => b c o (a c o h)
theorem Same.free {H H' : Hp} (e : Same H H') {l : Addr} (h : H' l = Option.none) : H l = Option.none := by
  cases q : H l with
  | none => rfl
  | some o =>
    rw [e l o q] at h
    cases h
theorem Same.seq {K : PySem.W.Frag} {H H' : Hp} {a : Addr} {xs : List V} (e : Same H H') (h : SqL K H a xs) : SqL K H' a xs := by
  rcases h with (h | ⟨o, h⟩) | h
  · exact .inl (.inl (e _ _ h))
  · exact .inl (.inr ⟨o, e _ _ h⟩)
  · exact .inr h
end L2
set_option Elab.async false
set_option linter.all false
set_option maxRecDepth 100000
namespace L2
open PySem PySem.Spec PyProof.Rows
section
variable {κ : Type} [DecidableEq κ]
def valV (kvs : List (κ × V)) (k : κ) : Option V := (kvs.find? fun kv => decide (kv.1 = k)).map (·.2)
def putK (kvs : List (κ × V)) (k : κ) (v : V) : List (κ × V) :=
  if (kvs.any fun kv => decide (kv.1 = k)) = true then kvs.map (fun kv => if kv.1 = k then (kv.1, v) else kv) else kvs ++ [(k, v)]
theorem valV_pos {p : κ × V} {r : List (κ × V)} {k : κ} (e : p.1 = k) : valV (p :: r) k = some p.2 := by simp [valV, List.find?_cons, e]
theorem valV_neg {p : κ × V} {r : List (κ × V)} {k : κ} (e : ¬ p.1 = k) : valV (p :: r) k = valV r k := by simp [valV, List.find?_cons, e]
theorem valV_any (k : κ) : ∀ kvs : List (κ × V), (kvs.any fun kv => decide (kv.1 = k)) = (valV kvs k).isSome
  | [] => rfl
  | p :: r => by
    rw [List.any_cons]
    by_cases e : p.1 = k
    · simp only [valV_pos e, decide_eq_true e, Bool.true_or, Option.isSome_some]
    · rw [valV_neg e, decide_eq_false e, Bool.false_or]; exact valV_any k r
theorem length_putK (kvs : List (κ × V)) (k : κ) (v : V) : (putK kvs k v).length ≤ kvs.length + 1 := by
  unfold putK
  split
  · rw [List.length_map]; omega
  · rw [List.length_append, List.length_cons, List.length_nil]; omega
theorem RelO.isSome_eq {o : Option V} {u : Option Value} (r : RelO o u) : o.isSome = u.isSome := by
  cases o with
  | none => cases u with
    | none => rfl
    | some _ => exact (show False from r).elim
  | some _ => cases u with
    | none => exact (show False from r).elim
    | some _ => rfl
theorem KV.val {kvs : List (κ × V)} {vs : List (κ × Value)} (r : KV kvs vs) (k : κ) : RelO (valV kvs k) (valueAt vs k) := by
  unfold KV at r
  induction r with
  | nil => exact True.intro
  | @cons p q ps qs h t ih =>
    obtain ⟨h1, h2⟩ := h
    by_cases e : p.1 = k
    · have e' : q.1 = k := h1.symm.trans e
      have b : valueAt (q :: qs) k = some q.2 := by simp [valueAt, List.find?_cons, e']
      rw [valV_pos e, b]; exact h2
    · have e' : ¬ q.1 = k := fun z => e (h1.trans z)
      have b : valueAt (q :: qs) k = valueAt qs k := by simp [valueAt, List.find?_cons, e']
      rw [valV_neg e, b]; exact ih
theorem KV.any {kvs : List (κ × V)} {vs : List (κ × Value)} (r : KV kvs vs) (k : κ) : (kvs.any fun kv => decide (kv.1 = k)) = vs.any fun kv => decide (kv.1 = k) := by
  unfold KV at r
  induction r with
  | nil => rfl
  | cons h t ih => rw [List.any_cons, List.any_cons, ih, h.1]
theorem KV.repl {kvs : List (κ × V)} {vs : List (κ × Value)} (r : KV kvs vs) (k : κ) {y : V} {u : Value} (ry : RelV y u) :
    KV (kvs.map fun kv => if kv.1 = k then (kv.1, y) else kv) (vs.map fun kv => if kv.1 = k then (kv.1, u) else kv) := by
  unfold KV at r ⊢
  induction r with
  | nil => exact .nil
  | @cons p q ps qs h t ih =>
    rw [List.map_cons, List.map_cons]
    refine .cons ?_ ih
    obtain ⟨h1, h2⟩ := h
    by_cases e : p.1 = k
    · rw [if_pos e, if_pos (h1.symm.trans e)]; exact ⟨h1, ry⟩
    · rw [if_neg e, if_neg (fun z => e (h1.trans z))]; exact ⟨h1, h2⟩
theorem KV.put {kvs : List (κ × V)} {vs : List (κ × Value)} (r : KV kvs vs) (k : κ) {y : V} {u : Value} (ry : RelV y u) : KV (putK kvs k y) (stored vs k u) := by
  unfold putK stored
  rw [r.any k]
  by_cases e : (vs.any fun kv => decide (kv.1 = k)) = true
  · rw [if_pos e, if_pos e]; exact r.repl k ry
  · rw [if_neg e, if_neg e]; exact Paired.snoc r ⟨rfl, ry⟩
theorem KV.keys {kvs : List (κ × V)} {vs : List (κ × Value)} (r : KV kvs vs) : kvs.map (·.1) = vs.map (·.1) := by
  unfold KV at r
  induction r with
  | nil => rfl
  | cons h t ih => rw [List.map_cons, List.map_cons, ih, h.1]
theorem KV.length {kvs : List (κ × V)} {vs : List (κ × Value)} (r : KV kvs vs) : kvs.length = vs.length := Paired.length r
end
theorem kV_is {P : Program} {w : World} {k : Key} {u : Value} (r : RelV (kV k) u) : (mixKind P w).is k u = true := by
  cases k with
  | inl i => obtain ⟨t, e⟩ := (show ∃ t, u = Value.int i t from r); subst e; exact mixKind_int P w i t
  | inr x => obtain ⟨t, e⟩ := (show ∃ t, u = Value.str x t from r); subst e; exact mixKind_str P w x t
theorem items_are {P : Program} {w : World} : ∀ {ks : List Key} {us : List Value}, Vals (ks.map kV) us → ItemsAre (mixKind P w) ks us
  | [], _, r => by rw [List.map_nil] at r; cases r; exact .nil
  | k :: ks, _, r => by
    rw [List.map_cons] at r
    cases r with
    | cons h t => exact .cons (kV_is h) (items_are t)
abbrev KT (H : Hp) : List (List Key × V) → List (List Key × Addr × Value) → Prop := Paired fun p q => p.1 = q.1 ∧ H q.2.1 = some (.tup (p.1.map kV)) ∧ RelV p.2 q.2.2
theorem KT.val {H : Hp} {kvs : List (List Key × V)} {xs : List (List Key × Addr × Value)} (r : KT H kvs xs) (k : List Key) : RelO (valV kvs k) ((atKey xs k).map (·.2)) := by
  induction r with
  | nil => exact True.intro
  | @cons p q ps qs h t ih =>
    obtain ⟨h1, _, h2⟩ := h
    by_cases e : p.1 = k
    · have e' : q.1 = k := h1.symm.trans e
      have b : atKey (q :: qs) k = some q.2 := by simp [atKey, List.find?_cons, e']
      rw [valV_pos e, b]; exact h2
    · have e' : ¬ q.1 = k := fun z => e (h1.trans z)
      have b : atKey (q :: qs) k = atKey qs k := by simp [atKey, List.find?_cons, e']
      rw [valV_neg e, b]; exact ih
theorem KT.repl {H : Hp} {kvs : List (List Key × V)} {xs : List (List Key × Addr × Value)} (r : KT H kvs xs) (k : List Key) {y : V} {u : Value} (ry : RelV y u) :
    KT H (kvs.map fun kv => if kv.1 = k then (kv.1, y) else kv) (xs.map (putAt k u)) := by
  induction r with
  | nil => exact .nil
  | @cons p q ps qs h t ih =>
    rw [List.map_cons, List.map_cons]
    refine .cons ?_ ih
    obtain ⟨h1, h2, h3⟩ := h
    unfold putAt
    by_cases e : p.1 = k
    · rw [if_pos e, if_pos (h1.symm.trans e)]; exact ⟨h1, h2, ry⟩
    · rw [if_neg e, if_neg (fun z => e (h1.trans z))]; exact ⟨h1, h2, h3⟩
theorem KT.put {H : Hp} {kvs : List (List Key × V)} {xs : List (List Key × Addr × Value)} (r : KT H kvs xs) (k : List Key) {b : Addr} {y : V} {u : Value} (hb : H b = some (.tup (k.map kV))) (ry : RelV y u) :
    KT H (putK kvs k y) (storedH xs k b u) := by
  have e : (kvs.any fun kv => decide (kv.1 = k)) = (atKey xs k).isSome := by
    rw [valV_any, (r.val k).isSome_eq, Option.isSome_map]
  unfold putK storedH
  rw [e]
  by_cases q : (atKey xs k).isSome = true
  · rw [if_pos q, if_pos q]; exact r.repl k ry
  · rw [if_neg q, if_neg q]; exact Paired.snoc r ⟨rfl, hb, ry⟩
theorem KT.keeps {H H' : Hp} {kvs : List (List Key × V)} {xs : List (List Key × Addr × Value)} (r : KT H kvs xs) (ht : ∀ b ys, H b = some (.tup ys) → H' b = some (.tup ys)) : KT H' kvs xs :=
  Paired.mapP r fun _ _ z => ⟨z.1, ht _ _ z.2.1, z.2.2⟩
section
variable {P : Program} {w : World} {H : Hp} {h : Heap} {a : Addr}
theorem rd_of {u : HO} (ok : HOk P w H h) (e : Rd H a u) : ObjOk P w H h a u := e.ok ok
theorem dk_rd {kvs : List (Key × V)} (ok : HOk P w H h) (e : Rd H a (.dK kvs)) : kvs.length ≤ sizeLine ∧ (a == sysModules) = false ∧ ∃ vs, KV kvs vs ∧ h.DictOf (mixKind P w) a vs :=
  show ObjOk P w H h a (.dK kvs) from rd_of ok e
theorem dk_of {kvs : List (Key × V)} (ok : HOk P w H h) (e : H a = some (.dK kvs)) : kvs.length ≤ sizeLine ∧ (a == sysModules) = false ∧ ∃ vs, KV kvs vs ∧ h.DictOf (mixKind P w) a vs := dk_rd ok (.inl e)
theorem key_of {ks : List Key} (ok : HOk P w H h) (e : H a = some (.tup (ks.map kV))) : (tupleKind (mixKind P w)).is h ks a := by
  obtain ⟨_, its, r, o, h1, h2, n, h3⟩ := (show ObjOk P w H h a (.tup (ks.map kV)) from ok a _ e)
  exact ⟨o, its.toArray, n, h1, h2, h3, by simpa using items_are r⟩
theorem dt_rd {kvs : List (List Key × V)} (ok : HOk P w H h) (e : Rd H a (.dT kvs)) : kvs.length ≤ sizeLine ∧ (a == sysModules) = false ∧
    ∃ xs, KT H kvs xs ∧ h.DictOfH (tupleKind (mixKind P w)) a xs := by
  obtain ⟨z, y, xs, r, o, es, ep, h1, h2, h3, h4, h5⟩ := (show ObjOk P w H h a (.dT kvs) from rd_of ok e)
  refine ⟨z, y, xs, r, o, es, ep, h1, h2, h3, h4, fun x hx => ?_, h5⟩
  have all : ∀ {l : List (List Key × V)} {m : List (List Key × Addr × Value)}, KT H l m → ∀ x ∈ m, (tupleKind (mixKind P w)).is h x.1 x.2.1 := by
    intro l m q
    induction q with
    | nil => intro x hx; exact nomatch hx
    | @cons p q ps qs hq t ih =>
      intro x hx
      rcases List.mem_cons.mp hx with e | hx
      · subst e
        exact key_of ok (by rw [← hq.1]; exact hq.2.1)
      · exact ih x hx
  exact all r x hx
theorem dt_of {kvs : List (List Key × V)} (ok : HOk P w H h) (e : H a = some (.dT kvs)) : kvs.length ≤ sizeLine ∧ (a == sysModules) = false ∧
    ∃ xs, KT H kvs xs ∧ h.DictOfH (tupleKind (mixKind P w)) a xs := dt_rd ok (.inl e)
end
def DGet (H : Hp) (a : Addr) (y : V) (r : Option V) : Prop :=
  (∃ kvs k, Rd H a (.dK kvs) ∧ y = kV k ∧ r = valV kvs k) ∨ ∃ kvs k b, Rd H a (.dT kvs) ∧ y = .ref b ∧ H b = some (.tup (k.map kV)) ∧ r = valV kvs k
def DPut (H : Hp) (a : Addr) (y v : V) (H' : Hp) : Prop :=
  (∃ kvs k, H a = some (.dK kvs) ∧ y = kV k ∧ kvs.length < sizeLine ∧ H' = upd H a (.dK (putK kvs k v))) ∨
  ∃ kvs k b, H a = some (.dT kvs) ∧ y = .ref b ∧ H b = some (.tup (k.map kV)) ∧ kvs.length < sizeLine ∧ H' = upd H a (.dT (putK kvs k v))
theorem DGet.k {H : Hp} {a : Addr} {kvs : List (Key × V)} {k : Key} (e : H a = some (.dK kvs)) : DGet H a (kV k) (valV kvs k) := .inl ⟨kvs, k, .inl e, rfl, rfl⟩
theorem DGet.t {H : Hp} {a b : Addr} {kvs : List (List Key × V)} {k : List Key} (e : H a = some (.dT kvs)) (eb : H b = some (.tup (k.map kV))) : DGet H a (.ref b) (valV kvs k) := .inr ⟨kvs, k, b, .inl e, rfl, eb, rfl⟩
theorem DPut.k {H : Hp} {a : Addr} {kvs : List (Key × V)} {k : Key} {v : V} (e : H a = some (.dK kvs)) (hl : kvs.length < sizeLine) : DPut H a (kV k) v (upd H a (.dK (putK kvs k v))) := .inl ⟨kvs, k, e, rfl, hl, rfl⟩
theorem DPut.t {H : Hp} {a b : Addr} {kvs : List (List Key × V)} {k : List Key} {v : V} (e : H a = some (.dT kvs)) (eb : H b = some (.tup (k.map kV))) (hl : kvs.length < sizeLine) :
    DPut H a (.ref b) v (upd H a (.dT (putK kvs k v))) := .inr ⟨kvs, k, b, e, rfl, eb, hl, rfl⟩
section
variable {X : Cx} {pins : List (Addr × Obj)} {σ : St} {H : Hp} {s : Shared} {a : Addr} {y v : V} {u r : Value} {o : Option V} {A : Around} {E : Value → Shared → Prop}
theorem Inv.big (I : Inv X pins σ H s) : sysModules < s.heap.objs.size := by
  have h : mainGlobals < s.heap.objs.size := (I.mod.glob.keeps I.bk).lt
  exact Nat.lt_trans (by decide) h
theorem d_getItem {Q : Value → Shared → Prop} (hu : A.units + 1 < cLine) (I : Inv X pins σ H s) (g : DGet H a y (some v)) (ry : RelV y u) (h : ∀ w' s', Inv X pins σ H s' → RelV v w' → Q w' s') :
    wpAny (model X.prog X.w) A (getItem (.ref a) u) Q E s := by
  rcases g with ⟨kvs, k, e, ey, l⟩ | ⟨kvs, k, b, e, ey, eb, l⟩
  · subst ey
    obtain ⟨z, hd, vs, rel, dd⟩ := dk_rd I.hok e
    obtain ⟨w', hw, rw'⟩ := RelO.some_of (v := v) (o := valueAt vs k) (by rw [l]; exact rel.val k)
    exact wpAny_getItem_of (kV_is ry) dd.mapOf hw (h w' _ (I.tok _) rw')
  · subst ey
    cases (show u = Value.ref b from ry)
    obtain ⟨z, hd, xs, rel, dd⟩ := dt_rd I.hok e
    obtain ⟨w', hw, rw'⟩ := RelO.some_of (v := v) (o := (atKey xs k).map (·.2)) (by rw [l]; exact rel.val k)
    obtain ⟨p, hp, hp2⟩ := Option.map_eq_some_iff.mp hw
    refine wpAny_getItem_heap (tupleKind_room_in1 hu) (key_of I.hok eb) dd hp ?_
    rw [hp2]
    exact h w' _ (I.tok _) rw'
theorem d_write {h' : Heap} {t' : Nat} {ob : HO} (I : Inv X pins σ H s) (mu : Mut (H a)) (hs : Heap.SameBut a s.heap h') (he : ∃ q, h'.get? a = some q) (new : ObjOk X.prog X.w (upd H a ob) h' a ob) :
    Inv X pins σ (upd H a ob) { s with heap := h', toks := t' } :=
  I.write (x := a) (e := a) mu (.inl rfl) (fun b q hb z => (hs.2 b hb).trans z) he new
theorem dk_new {P : Program} {w : World} {H' : Hp} {h' : Heap} {kvs : List (Key × V)} {vs : List (Key × Value)} (z : kvs.length ≤ sizeLine) (hd : (a == sysModules) = false) (rel : KV kvs vs) (dd : h'.DictOf (mixKind P w) a vs) :
    ObjOk P w H' h' a (.dK kvs) := ⟨z, hd, vs, rel, dd⟩
theorem d_setItem {H' : Hp} {Q : Unit → Shared → Prop} (hu : A.units + 1 < cLine) (I : Inv X pins σ H s) (g : DPut H a y v H') (ry : RelV y u) (rv : RelV v r) (h : ∀ s', Inv X pins σ H' s' → Q () s') :
    wpAny (model X.prog X.w) A (setItem (.ref a) u r) Q E s := by
  rcases g with ⟨kvs, k, e, ey, l, eH⟩ | ⟨kvs, k, b, e, ey, eb, l, eH⟩
  · subst ey eH
    obtain ⟨z, hd, vs, rel, dd⟩ := dk_of I.hok e
    have hz : vs.length ≤ sizeLine := by rw [← rel.length]; exact z
    have hl : (putK kvs k v).length ≤ sizeLine := by have := length_putK kvs k v; omega
    refine wpAny_setItem_pairs (hsz := hz) (kV_is ry) dd fun h' dd' hs => h _ ?_
    have he : ∃ q, h'.get? a = some q := let ⟨q, _, _, hq, _⟩ := dd'; ⟨q, hq⟩
    exact d_write I (by rw [e]; exact True.intro) hs he (dk_new hl hd (rel.put k rv) dd')
  · subst ey eH
    cases (show u = Value.ref b from ry)
    obtain ⟨z, hd, xs, rel, dd⟩ := dt_of I.hok e
    have hz : xs.length ≤ sizeLine := by rw [← Paired.length rel]; exact z
    have hl : (putK kvs k v).length ≤ sizeLine := by have := length_putK kvs k v; omega
    refine wpAny_setItem_heap (hsz := hz) (tupleKind_room_in1 hu) (key_of I.hok eb) dd fun h' dd' hs => h _ ?_
    obtain ⟨q, es, ep, hq, h2, h3, h4, _, h5⟩ := dd'
    refine d_write I (by rw [e]; exact True.intro) hs ⟨q, hq⟩ ⟨hl, hd, _, (rel.put k eb rv).keeps fun c ys ec => ?_, q, es, ep, hq, h2, h3, h4, h5⟩
    rw [upd_ne (ne_of ec e (fun z => nomatch z))]
    exact ec
end
section
variable {X : Cx} {pins : List (Addr × Obj)} {σ : St} {H : Hp} {s : Shared} {a : Addr} {kvs : List (Key × V)} {k : Key} {u : Value} {A : Around} {E : Value → Shared → Prop}
end
def NoSl (i : Expr) : Prop := ∀ ov iv, subscripted i false ov iv = operate [ov, iv] (getItem ov iv)
theorem subD_of {prog : Program} {w : World} {A : Around} {E : Value → Shared → Prop} {s : Shared} {env : Env} {value slice : Expr} {pos : Pos} {T id : String} {Q : Value → Shared → Prop}
    (hl : typeLookup (.type T) "__getitem__" = pure (some (.builtin id))) (hs : NoSl slice)
    (h : wpAny (model prog w) A (eval value env) (fun o s₁ => wpAny (model prog w) A (eval slice env) (fun i s₂ => s₂.TypeIs o T ∧ wpAny (model prog w) A (getItem o i) Q E s₂) E s₁) E s) :
    wpAny (model prog w) A (eval (.Subscript value slice pos) env) Q E s := by
  refine Subscript_ (wpAny_mono h (fun o s₁ h₁ => wpAny_mono h₁ (fun i s₂ h₂ => ?_) fun _ _ x => x) fun _ _ x => x)
  obtain ⟨hT, h₂⟩ := h₂
  unfold subscriptTail
  refine wpAny_bind ?_
  rw [getitemInPython_of_ne hT.not_modules]
  refine wpAny_bind (wpAny_specialOf hT hl ?_)
  have fin : wpAny (model prog w) A (subscripted slice false o i) (fun r s₃ => wpAny (model prog w) A (letTemporaryGo value o r >>= fun _ => pure r) Q E s₃) E s₂ := by
    rw [hs o i]
    exact wpAny_operating (wpAny_mono h₂ (fun r s₃ h₃ => wpAny_bind (wpAny_letTemporaryGo (wpAny_pure h₃))) fun _ _ x => x)
  first
    | exact wpAny_pure (wpAny_bind fin)
    | exact wpAny_bind (wpAny_pure (wpAny_bind fin))
    | exact wpAny_bind fin
theorem dict_typeIs {X : Cx} {pins : List (Addr × Obj)} {σ : St} {H : Hp} {s : Shared} {a : Addr} {y : V} {o : Option V} (I : Inv X pins σ H s) (g : DGet H a y o) : s.TypeIs (.ref a) "dict" := by
  rcases g with ⟨kvs, k, e, _, _⟩ | ⟨kvs, k, b, e, _, _, _⟩
  · obtain ⟨_, _, vs, _, dd⟩ := dk_rd I.hok e
    exact dd.typeIs
  · obtain ⟨_, _, xs, _, dd⟩ := dt_rd I.hok e
    exact dd.typeIs
def tDGet (td ty : TE) : TE := fun σ H Q => td σ H fun x H1 => ty σ H1 fun y H2 => ∃ a v, x = .ref a ∧ DGet H2 a y (some v) ∧ Q v H2
def sDPut (td ty tv : TE) : TS := fun D σ H => tv σ H fun v H1 => td σ H1 fun x H2 => ty σ H2 fun y H3 => ∃ a H4, x = .ref a ∧ DPut H3 a y v H4 ∧ D.nx σ H4
section
variable {X : Cx} {o i e value : Expr} {pos pos' tpos : Pos} {td ty tv : TE}
theorem pe_dget (hu : X.A.units + 1 < cLine) (ho : PE X o td) (hi : PE X i ty) (hs : NoSl i) : PE X (.Subscript o i pos) (tDGet td ty) := by
  intro pins s σ H Q I h
  refine subD_of PySem.F.slot_dict_getitem.lookup hs (thn (ho pins s σ H _ I h) fun u s1 ⟨x, H1, I1, rx, q1⟩ => thn (hi pins s1 σ H1 _ I1 q1) fun iv s2 ⟨y, H2, I2, ry, a, v, ex, g, q2⟩ => ?_)
  subst ex
  obtain rfl : u = Value.ref a := rx
  exact ⟨dict_typeIs I2 g, d_getItem hu I2 g ry fun w' s3 I3 rw' => ⟨v, H2, I3, rw', q2⟩⟩
theorem ps_dput (hu : X.A.units + 1 < cLine) (ho : PE X o td) (hi : PE X i ty) (hv : PE X value tv) (hs : swapsWith value (some (.Subscript o i pos')) pos.line X.env = pure false) :
    PS X (.Assign [.Subscript o i pos'] value pos) (sDPut td ty tv) := by
  intro pins s σ H D I h
  refine wpAny_Assign_Subscript (thn (hv pins s σ H _ I h) fun r s1 ⟨v, H1, I1, rv, q1⟩ => thn (ho pins s1 σ H1 _ I1 q1) fun u s2 ⟨x, H2, I2, rx, q2⟩ => thn (hi pins s2 σ H2 _ I2 q2) fun iv s3 ⟨y, H3, I3, ry, a, H4, ex, g, q3⟩ => ?_) hs
  subst ex
  obtain rfl : u = Value.ref a := rx
  exact d_setItem hu I3 g ry rv fun s4 I4 => ⟨σ, H4, I4, q3⟩
end
section
variable {X : Cx} {pos : Pos}
end
section
variable {X : Cx} {pins : List (Addr × Obj)} {σ : St} {H : Hp} {s : Shared} {a : Addr} {y d : V} {u r : Value} {o : Option V} {A : Around} {E : Value → Shared → Prop}
end
section
variable {X : Cx} {o e f : Expr} {apos cpos : Pos} {td ty tx : TE}
end
section
variable {X : Cx} {pins : List (Addr × Obj)} {σ : St} {H : Hp} {s : Shared} {a : Addr} {kvs : List (Key × V)} {A : Around} {E : Value → Shared → Prop}
theorem d_copyOf {Q : Value → Shared → Prop} (I : Inv X pins σ H s) (e : Rd H a (.dK kvs)) (h : ∀ p s', H p = none → Inv X pins σ (upd H p (.dK kvs)) s' → Q (.ref p) s') : wpAny (model X.prog X.w) A (call (.type "dict") [.ref a]) Q E s := by
  obtain ⟨z, hd, vs, rel, dd⟩ := dk_rd I.hok e
  refine kt_call_dict hd dd (by rw [← rel.length]; exact z) fun h' dd' hs => ?_
  refine h _ _ (I.hok.fresh (Nat.le_refl _)) (I.laid (a := s.heap.objs.size) (o := .dK kvs) (t' := s.toks) (fun b q hq => ?_) (Nat.le_refl _) (dk_new z (beq_eq_false_iff_ne.mpr (Ne.symm (Nat.ne_of_lt I.big))) rel dd'))
  exact (hs.2 b (Nat.ne_of_lt (Heap.lt_size hq))).trans (Heap.get?_push_of_some _ hq)
end
section
variable {X : Cx} {pins : List (Addr × Obj)} {σ : St} {H : Hp} {s : Shared} {a : Addr} {y : V} {u : Value} {A : Around} {E : Value → Shared → Prop}
end
end L2
set_option Elab.async false
set_option linter.all false
set_option maxRecDepth 100000
namespace L2
open PySem PySem.Spec PyProof.Rows
section
variable {P : Program} {w : World} {l : List Env} {H H' : Hp} {s s' : Shared} {ea C t : Addr} {B h' : Heap}
end
section
variable {X : Cx} {pins : List (Addr × Obj)} {σ : St} {H1 : Hp} {s1 : Shared} {E : XK} {ea C : Addr} {vs : List Value} {h' : Heap} {Ex : Value → Shared → Prop} {M : Model}
end
section
variable {P : Program} {w : World} {K : PySem.W.Frag} {mg : Str → Option Value} {base : Heap} {N : List Str} {qual : Str} {scope : Scope} {f : Addr} {cd : Value} {A : Around} {outer : List Env} {s : Shared} {H : Hp} {E : XK}
end
end L2
set_option Elab.async false
set_option linter.all false
set_option maxRecDepth 100000
namespace L2
open PySem PySem.Spec PyProof.Rows
section
variable {X : Cx} {C : Addr} {E : XK} {x : Str} {e₀ : Expr} {rest : List Expr} {ta : TA} {np cpos pos : Pos}
end
end L2
set_option Elab.async false
set_option linter.all false
set_option maxRecDepth 100000
namespace L2
open PySem PySem.Spec PyProof.Rows
def exO (ea C : Addr) : HO := .ext fun h => ∃ o vs, h.get? ea = some o ∧ o.cls = .ref C ∧ o.data = .fields vs
section
variable {X : Cx} {pins : List (Addr × Obj)} {σ : St} {H H' : Hp} {s s' : Shared} {ea C t : Addr} {B : Heap}
end
section
variable {X : Cx} {pins : List (Addr × Obj)} {σ : St} {H H' : Hp} {s s' : Shared} {ea C DD t : Addr} {B : Heap} {x n : Str} {np hpos : Pos} {b₀ : Stmt} {suite : List Stmt} {rest : List ExceptHandler} {D : Ends} {Ex : Value → Shared → Prop} {i : Nat} {ts : TS}
end
end L2
set_option Elab.async false
set_option linter.all false
set_option maxRecDepth 100000
namespace L2
open PySem PySem.Spec PyProof.Rows
abbrev TXS := Ends → St → Hp → (St → XK) → Prop
section
variable {X : Cx} {k : Nat} {f : Addr} {fd : FuncData} {ps : List Str} {sp : Sp} {dvs : List V} {ds : List Value} {x : Str} {p pos : Pos} {e : Expr} {es : List Expr} {ta : TA}
theorem PA.nox {es : List Expr} {t : TA} (h : PA X.nox es t) {pos : Pos} {pins : List (Addr × Obj)} {s : Shared} {σ : St} {H : Hp} {Q : List V → Hp → Prop} {E : Value → Shared → Prop} (I : Inv X pins σ H s) (q : t σ H Q) :
    wpAny (model X.prog X.w) X.A (spliced (backTo pos (starEach es X.env))) (AP X pins σ Q) E s :=
  wpAny_mono (h pos pins s σ H Q (I.wish _) q) (fun _ _ ⟨v, H', I', r, q⟩ => ⟨v, H', I'.unwish, r, q⟩) fun _ _ z => False.elim z
variable {t u : TXS} {te : TX} {st : Stmt} {rest : List Stmt} {i : Nat} {px : Pos}
end
end L2
set_option Elab.async false
set_option linter.all false
set_option maxRecDepth 100000
namespace L2
open PySem PySem.Spec PyProof.Rows
def ExAt (x D : Addr) (h : Heap) : Prop := ∃ o vs, h.get? x = some o ∧ o.cls = .ref D ∧ o.data = .fields vs
section
open PySem.W PySem.Calls Builtin Builtin.ObjectAttr Builtin.Getset_descriptor
variable {K : PySem.W.Frag} {x D : Addr}
theorem ex_type {M : Model} {h : Heap} (I : ExAt x D h) : Looks M h (typeOf (.ref x)) (.ref D) := by
  obtain ⟨o, vs, h1, h2, _⟩ := I
  exact h2 ▸ (Looks.ld h1).andThen .now
theorem looks_find_data {M : Model} {h : Heap} (X : K.In h) {name : Str} {a g : Value} (ha : findIn K (.ref D) name = some (some a)) (hg : specialIn K a "__get__" = some (some g)) (ht : takesIn K a = some true) :
    Looks M h (find (.ref x) (.ref D) name) (.bind g a) := by
  have L1 := looks_findIn (M := M) X ha
  have L2 : Looks M h (getOf (some a)) (some g) := looks_specialIn X hg
  have L3 := looks_takesIn (M := M) X ht
  exact L1.andThen (L2.andThen ((show Looks M h (dataDescriptor? (some a) (some g)) (some (g, a)) from L3.andThen .now).andThen (Looks.tag .now)))
variable {prog : Program} {w : World} {A : Around} {E : Value → Shared → Prop} {s : Shared} {name : Str}
theorem ex_check {M : Model} {nameV : Value} {Q : Unit → Shared → Prop} (X : K.In s.heap) (I : ExAt x D s.heap) (hb : mroIn K D (.type "BaseException") = some true) (hq : Q () s) : wpAny M A (checkBuiltinCall "BaseException.__getattribute__" ⟨[.ref x, nameV], []⟩) Q E s := by
  obtain ⟨hh, g, dr, t, os⟩ := s
  have hk : builtinKind "BaseException.__getattribute__" = some .slot := by decide +kernel
  have hsplit : splitId "BaseException.__getattribute__" = some ("BaseException", "__getattribute__") := by decide +kernel
  have L0 := ex_type (M := M) I
  have L1 := looks_mroIn (M := M) X hb
  have ha := F.args_bexc_ga (.ref x) nameV
  simp only [checkBuiltinCall, hk, hsplit]
  refine wpAny_bind ?_
  unfold isInstance
  repeat (first | lk | wp_step)
  exact hq
theorem ex_get {R : Result → Shared → Prop} {tp : Value} (X : K.In s.heap) (I : ExAt x D s.heap) (hm : mroIn K D (.type "object") = some true)
    (h : R (.ok (.ret (.ref D))) s) : codeAny (model prog w) A (.call (.builtin "getset_descriptor.__get__") ⟨[.builtin "object.__class__", .ref x, tp], []⟩) R s := by
  obtain ⟨hh, g, dr, t, os⟩ := s
  have L0 := ex_type (M := model prog w) I
  have L1 := looks_mroIn (M := model prog w) X hm
  refine codeAny_call_builtin KF.slot_gs.plain KF.entry_gs (KF.slot_gs.check _ _ _ _ _ _ _ _ KF.type_class (KF.args_gs _ _ _) ?_)
  unfold Builtin.«getset_descriptor.__get__» descrGet
  rw [dga_obj]
  refine wpAny_bind (wpAny_pure ?_)
  unfold descrGetter descrCheckInstance descrNameAndClass isInstance
  simp only [KF.owner_class]
  repeat lk
  refine ⟨Code.quiet_builtin _ (by decide +kernel), codeAny_builtin KF.entry_class ?_⟩
  unfold Builtin.«object.__class__» shownTypeOf
  repeat lk
  exact h
theorem ex_entry {g a : Value} {tk : Tok} {Q : Fin → Shared → Prop} (X : K.In s.heap) (I : ExAt x D s.heap) (ha : findIn K (.ref D) "__class__" = some (some (.builtin "object.__class__")))
    (hn : specialIn K (.builtin "object.__class__") "__get__" = some (some (.builtin "getset_descriptor.__get__"))) (ht : takesIn K (.builtin "object.__class__") = some true) (hm : mroIn K D (.type "object") = some true)
    (hq : Q (.done (.ret (.ref D))) s) : wpAny (model prog w) A (Builtin.«object.__getattribute__» ⟨[.ref x, .str "__class__" tk], []⟩) Q E s := by
  have L3 := looks_find_data (x := x) (M := model prog w) X ha hn ht
  have L0 := ex_type (M := model prog w) I
  obtain ⟨hh, gg, d, t, os⟩ := s
  refine wpAny_bind (wpAny_pure ?_)
  refine wpAny_bind (wpAny_pure (wpAny_bind (L0.at (wpAny_bind (L3.at ?_)))))
  show wpAny _ _ (holding [_] (call (.builtin "getset_descriptor.__get__") [.builtin "object.__class__", .ref x, .ref D]) >>= ret) _ _ _
  exact wpAny_bind (wpAny_holding (wpAny_call (ex_get (s := ⟨hh, gg, d, t, os⟩) X I hm (wpAny_pure hq))))
theorem ex_attr {Q : Option Value → Shared → Prop} (X : K.In s.heap) (I : ExAt x D s.heap) (g1 : findIn K (.ref D) "__getattribute__" = some (some (.builtin "BaseException.__getattribute__"))) (hb : mroIn K D (.type "BaseException") = some true)
    (g2 : findIn K (.ref D) "__getattr__" = some none) (ha : findIn K (.ref D) "__class__" = some (some (.builtin "object.__class__")))
    (hn : specialIn K (.builtin "object.__class__") "__get__" = some (some (.builtin "getset_descriptor.__get__"))) (ht : takesIn K (.builtin "object.__class__") = some true) (hm : mroIn K D (.type "object") = some true)
    (h : Q (some (.ref D)) { s with toks := s.toks + 1 }) : wpAny (model prog w) A (getAttr? (.ref x) "__class__") Q E s := by
  obtain ⟨hh, g, d, t, os⟩ := s
  have L0 := ex_type (M := model prog w) I
  have L1 := looks_findIn (M := model prog w) X g1
  have L2 := looks_findIn (M := model prog w) X g2
  have f3 := PySem.F.attr_ValueError.ga.bind (.ref x)
  have hx2 : (Value.builtin "BaseException.__getattribute__" == Value.builtin "object.__getattribute__") = false := by decide +kernel
  have hx1 : (onTheHeap (Value.ref D) && Value.builtin "BaseException.__getattribute__" == Value.builtin "object.__getattribute__") = false := by rw [hx2]; rfl
  unfold getAttr? getAttrBy? getAttrBy
  refine wpAny_bind (wpAny_mkText (wpAny_bind (wpAny_attempt (wpAny_holding (wpAny_bind (L0.at (wpAny_bind (L1.at ?_))))))))
  show wpAny _ _ (if (onTheHeap (Value.ref D) && Value.builtin "BaseException.__getattribute__" == Value.builtin "object.__getattribute__") = true then _ else getAttrByItsOwn _ _ _ _ _ _) _ _ _
  rw [hx1, if_neg (by decide)]
  unfold getAttrByItsOwn
  refine wpAny_bind ?_
  show wpAny _ _ (typeLookup (.ref D) "__getattr__") _ _ _
  refine L2.at ?_
  refine wpAny_bind (wpAny_attempt ?_)
  refine wpAny_holding ?_
  show wpAny _ _ (boundAndCalled (.builtin "BaseException.__getattribute__") (.ref x) _) _ _ _
  unfold boundAndCalled
  refine wpAny_bind (wpAny_of_eq f3 ?_)
  refine wpAny_call (codeAny_call_builtin PySem.F.attr_ValueError.ga.plain F.entry_bexc_ga (ex_check (s := ⟨hh, g, d, t + 1, os⟩) X I hb (ex_entry (g := .none) (a := .none) (s := ⟨hh, g, d, t + 1, os⟩) X I ha hn ht hm ?_)))
  show wpAny _ _ (handedOut (.ref D)) _ _ _
  exact handed_on rfl (wpAny_pure h)
structure ExCls (K : PySem.W.Frag) (D : Addr) : Prop where
  cl : (clsIn K D).isSome = true
  g1 : findIn K (.ref D) "__getattribute__" = some (some (.builtin "BaseException.__getattribute__"))
  hb : mroIn K D (.type "BaseException") = some true
  g2 : findIn K (.ref D) "__getattr__" = some none
  ha : findIn K (.ref D) "__class__" = some (some (.builtin "object.__class__"))
  hn : specialIn K (.builtin "object.__class__") "__get__" = some (some (.builtin "getset_descriptor.__get__"))
  htk : takesIn K (.builtin "object.__class__") = some true
  hm : mroIn K D (.type "object") = some true
theorem kitx_exc (e : ExCls K D) : KitX K (.ref x) (.ref D) (ExAt x D) where
  ty := fun _ _ _ I => ex_type I
  it := fun _ _ X _ => by
    obtain ⟨cdD, hcD⟩ := Option.isSome_iff_exists.mp e.cl
    unfold clsIn at hcD
    split at hcD
    · rename_i c' d' cd' sl' ho
      intro A' Q' E' s' k q
      unfold isType loadHead
      exact wpAny_bind (wpAny_loadPart (k _ _ (X _ _ ho)) (wpAny_pure q))
    · cases hcD
  ne := fun h tp dd its n sl X htp => by
    obtain ⟨cdD, hcD⟩ := Option.isSome_iff_exists.mp e.cl
    refine Bool.eq_false_iff.mpr fun q => ?_
    have e : D = tp := Value.ref.inj (beq_iff_eq.mp q)
    subst e
    unfold clsIn at hcD
    split at hcD
    · rename_i c' d' cd' sl' ho
      have z := (X _ _ ho).symm.trans htp
      cases z
    · cases hcD
  ca := fun X I k => ex_attr X I e.g1 e.hb e.g2 e.ha e.hn e.htk e.hm k
end
end L2
set_option Elab.async false
set_option linter.all false
set_option maxRecDepth 100000
set_option maxHeartbeats 1000000
namespace L2
open PySem PySem.Spec PyProof.Rows
section
variable {prog : Program} {w : World} {A : Around} {R : Result → Shared → Prop} {s : Shared}
end
section
variable {X : Cx} {N' : List Str} {js : List (Option Nat)} {scope : Scope} {tg iter elt : Expr} {ifs : List Expr} {wi : TI} {pos : Pos}
end
end L2
set_option Elab.async false
set_option linter.all false
set_option maxRecDepth 100000
namespace DL
open PySem PySem.Spec PyProof.Rows L2
inductive D where
  | non | bl (b : Bool) | int (i : Int) | str (x : Str)
  | lst (xs : List D) | tup (xs : List D) | dic (kvs : List (Key × D)) | ins (c : Str) (fs : List (Str × D)) | err (c : Str)
instance : Inhabited D := ⟨.non⟩
abbrev CTab := Str → Option Addr
section
variable (K : PySem.W.Frag) (CT : CTab) (H : Hp)
mutual
def Rep : D → V → Prop
  | .non, v => v = .non
  | .bl b, v => v = .bl b
  | .int i, v => v = .int i
  | .str x, v => v = .str x
  | .lst ds, v => ∃ a vs, v = .ref a ∧ SqL K H a vs ∧ RepL ds vs
  | .tup ds, v => ∃ a vs, v = .ref a ∧ SqT K H a vs ∧ RepL ds vs
  | .dic kds, v => ∃ a kvs, v = .ref a ∧ Rd H a (.dK kvs) ∧ RepK kds kvs
  | .ins c fds, v => ∃ a C dx fs, v = .ref a ∧ CT c = some C ∧ H a = some (.ins C dx fs) ∧ RepF fds fs
  | .err c, v => ∃ a C, v = .ref a ∧ CT c = some C ∧ H a = some (exO a C)
def RepL : List D → List V → Prop
  | [], vs => vs = []
  | d :: ds, vs => ∃ v r, vs = v :: r ∧ Rep d v ∧ RepL ds r
def RepK : List (Key × D) → List (Key × V) → Prop
  | [], kvs => kvs = []
  | (k, d) :: ds, kvs => ∃ v r, kvs = (k, v) :: r ∧ Rep d v ∧ RepK ds r
def RepF : List (Str × D) → List (Str × V) → Prop
  | [], kvs => kvs = []
  | (k, d) :: ds, kvs => ∃ v r, kvs = (k, v) :: r ∧ Rep d v ∧ RepF ds r
end
end
section
variable {K : PySem.W.Frag} {CT : CTab} {H H' : Hp}
theorem Same.sqT {a : Addr} {xs : List V} (e : Same H H') (h : SqT K H a xs) : SqT K H' a xs := by
  rcases h with (h | ⟨o, h⟩) | h
  · exact .inl (.inl (e _ _ h))
  · exact .inl (.inr ⟨o, e _ _ h⟩)
  · exact .inr h
theorem Same.rd {a : Addr} {u : HO} (e : Same H H') (h : Rd H a u) : Rd H' a u := by
  rcases h with h | ⟨o, h⟩
  · exact .inl (e _ _ h)
  · exact .inr ⟨o, e _ _ h⟩
mutual
theorem Rep.mono (e : Same H H') : ∀ (d : D) (v : V), Rep K CT H d v → Rep K CT H' d v
  | .non, _, h => h
  | .bl _, _, h => h
  | .int _, _, h => h
  | .str _, _, h => h
  | .lst ds, _, ⟨a, vs, h1, h2, h3⟩ => ⟨a, vs, h1, e.seq h2, RepL.mono e ds vs h3⟩
  | .tup ds, _, ⟨a, vs, h1, h2, h3⟩ => ⟨a, vs, h1, Same.sqT e h2, RepL.mono e ds vs h3⟩
  | .dic ds, _, ⟨a, vs, h1, h2, h3⟩ => ⟨a, vs, h1, Same.rd e h2, RepK.mono e ds vs h3⟩
  | .ins c ds, _, ⟨a, C, dx, fs, h1, h2, h3, h4⟩ => ⟨a, C, dx, fs, h1, h2, e _ _ h3, RepF.mono e ds fs h4⟩
  | .err c, _, ⟨a, C, h1, h2, h3⟩ => ⟨a, C, h1, h2, e _ _ h3⟩
theorem RepL.mono (e : Same H H') : ∀ (ds : List D) (vs : List V), RepL K CT H ds vs → RepL K CT H' ds vs
  | [], _, h => h
  | d :: ds, _, ⟨v, r, h1, h2, h3⟩ => ⟨v, r, h1, Rep.mono e d v h2, RepL.mono e ds r h3⟩
theorem RepK.mono (e : Same H H') : ∀ (ds : List (Key × D)) (vs : List (Key × V)), RepK K CT H ds vs → RepK K CT H' ds vs
  | [], _, h => h
  | (k, d) :: ds, _, ⟨v, r, h1, h2, h3⟩ => ⟨v, r, h1, Rep.mono e d v h2, RepK.mono e ds r h3⟩
theorem RepF.mono (e : Same H H') : ∀ (ds : List (Str × D)) (vs : List (Str × V)), RepF K CT H ds vs → RepF K CT H' ds vs
  | [], _, h => h
  | (k, d) :: ds, _, ⟨v, r, h1, h2, h3⟩ => ⟨v, r, h1, Rep.mono e d v h2, RepF.mono e ds r h3⟩
end
theorem RepL.length : ∀ {ds : List D} {vs : List V}, RepL K CT H ds vs → ds.length = vs.length
  | [], _, h => by cases h; rfl
  | d :: ds, _, ⟨v, r, h1, h2, h3⟩ => by subst h1; simp [RepL.length h3]
theorem RepL.get : ∀ {ds : List D} {vs : List V} {i : Nat} {d : D}, RepL K CT H ds vs → ds[i]? = some d → ∃ v, vs[i]? = some v ∧ Rep K CT H d v
  | [], _, _, _, _, e => by simp at e
  | d :: ds, _, 0, _, ⟨v, r, h1, h2, h3⟩, e => by subst h1; simp at e; subst e; exact ⟨v, rfl, h2⟩
  | d :: ds, _, i + 1, x, ⟨v, r, h1, h2, h3⟩, e => by
    subst h1
    obtain ⟨u, a, b⟩ := RepL.get (i := i) (d := x) h3 (by simpa using e)
    exact ⟨u, by simpa using a, b⟩
theorem RepL.append : ∀ {ds es : List D} {vs us : List V}, RepL K CT H ds vs → RepL K CT H es us → RepL K CT H (ds ++ es) (vs ++ us)
  | [], _, _, _, h, k => by cases h; exact k
  | d :: ds, _, _, _, ⟨v, r, h1, h2, h3⟩, k => by subst h1; exact ⟨v, _, rfl, h2, RepL.append h3 k⟩
theorem RepL.take : ∀ (n : Nat) {ds : List D} {vs : List V}, RepL K CT H ds vs → RepL K CT H (ds.take n) (vs.take n)
  | 0, _, _, _ => by simp [RepL]
  | n + 1, [], _, h => by cases h; simp [RepL]
  | n + 1, d :: ds, _, ⟨v, r, h1, h2, h3⟩ => by subst h1; exact ⟨v, _, rfl, h2, RepL.take n h3⟩
theorem RepL.drop : ∀ (n : Nat) {ds : List D} {vs : List V}, RepL K CT H ds vs → RepL K CT H (ds.drop n) (vs.drop n)
  | 0, _, _, h => h
  | n + 1, [], _, h => by cases h; simp [RepL]
  | n + 1, d :: ds, _, ⟨v, r, h1, h2, h3⟩ => by subst h1; exact RepL.drop n h3
theorem RepL.set {d : D} {v : V} (q : Rep K CT H d v) : ∀ (i : Nat) {ds : List D} {vs : List V}, RepL K CT H ds vs → RepL K CT H (ds.set i d) (vs.set i v)
  | _, [], _, h => by cases h; simp [RepL]
  | 0, _ :: ds, _, ⟨w, r, h1, h2, h3⟩ => by subst h1; exact ⟨v, r, rfl, q, h3⟩
  | i + 1, e :: ds, _, ⟨w, r, h1, h2, h3⟩ => by subst h1; exact ⟨w, _, rfl, h2, RepL.set q i h3⟩
theorem RepL.rep {ds : List D} {vs : List V} (h : RepL K CT H ds vs) : ∀ k : Nat, RepL K CT H (List.replicate k ds).flatten (List.replicate k vs).flatten
  | 0 => rfl
  | k + 1 => by
    rw [List.replicate_succ, List.replicate_succ, List.flatten_cons, List.flatten_cons]
    exact h.append (h.rep k)
theorem RepL.map_int : ∀ (ns : List Int), RepL K CT H (ns.map D.int) (ns.map V.int)
  | [] => rfl
  | n :: ns => ⟨_, _, rfl, rfl, RepL.map_int ns⟩
end
inductive Out (α : Type) where
  | ok (a : α) | exc (x : D) | stuck
namespace Out
def bind {α β : Type} : Out α → (α → Out β) → Out β
  | .ok a, f => f a
  | .exc x, _ => .exc x
  | .stuck, _ => .stuck
instance : Monad Out where
  pure := .ok
  bind := bind
def post {α : Type} (o : Out α) (k : α → Prop) (x : D → Prop) : Prop := match o with
  | .ok a => k a
  | .exc e => x e
  | .stuck => False
@[simp] theorem bind_ok {α β : Type} (a : α) (f : α → Out β) : (Out.ok a >>= f) = f a := rfl
@[simp] theorem bind_exc {α β : Type} (x : D) (f : α → Out β) : ((Out.exc x : Out α) >>= f) = .exc x := rfl
@[simp] theorem bind_stuck {α β : Type} (f : α → Out β) : ((Out.stuck : Out α) >>= f) = .stuck := rfl
@[simp] theorem bind_ok' {α β : Type} (a : α) (f : α → Out β) : (Out.ok a).bind f = f a := rfl
@[simp] theorem bind_exc' {α β : Type} (x : D) (f : α → Out β) : (Out.exc x : Out α).bind f = .exc x := rfl
@[simp] theorem bind_stuck' {α β : Type} (f : α → Out β) : (Out.stuck : Out α).bind f = .stuck := rfl
@[simp] theorem pure_eq {α : Type} (a : α) : (pure a : Out α) = .ok a := rfl
theorem post_bind {α β : Type} (o : Out α) (f : α → Out β) (k : β → Prop) (x : D → Prop) : (o >>= f).post k x ↔ o.post (fun a => (f a).post k x) x := by
  cases o <;> exact Iff.rfl
theorem post_mono {α : Type} {o : Out α} {k k' : α → Prop} {x : D → Prop} (h : o.post k x) (hk : ∀ a, k a → k' a) : o.post k' x := by
  cases o with
  | ok a => exact hk a h
  | exc e => exact h
  | stuck => exact h
end Out
end DL
set_option Elab.async false
set_option linter.all false
set_option maxRecDepth 100000
namespace DL
open PySem PySem.Spec PyProof.Rows L2
abbrev St := L2.St
inductive SM where
  | k | o | l | s
abbrev SD := List (Option (SM × D))
structure Dc where
  X : Cx
  CT : CTab
  G0 : Hp
  XD : D → Prop
  /-- what is lent -/
  B : Hp
  /-- what of the entry's objects may be written -/
  M : Addr → Prop
abbrev Dc.K (C : Dc) : PySem.W.Frag := C.X.K
abbrev Dc.R (C : Dc) (G : Hp) (d : D) (v : V) : Prop := Rep C.X.K C.CT G d v
def Own (K : PySem.W.Frag) (CT : CTab) (G H : Hp) (p : Addr) : D → Prop
  | .lst ds => ∃ vs, H p = some (.lst vs) ∧ RepL K CT G ds vs
  | .dic ds => ∃ kvs, H p = some (.dK kvs) ∧ RepK K CT G ds kvs
  | .ins c ds => ∃ A dx fs, CT c = some A ∧ H p = some (.ins A dx fs) ∧ RepF K CT G ds fs
  | _ => False
theorem Own.there {K : PySem.W.Frag} {CT : CTab} {G H : Hp} {p : Addr} : ∀ {d : D}, Own K CT G H p d → ∃ o, H p = some o
  | .lst _, ⟨_, h, _⟩ => ⟨_, h⟩
  | .dic _, ⟨_, h, _⟩ => ⟨_, h⟩
  | .ins _ _, ⟨_, _, _, _, h, _⟩ => ⟨_, h⟩
  | .non, h => h.elim
  | .bl _, h => h.elim
  | .int _, h => h.elim
  | .str _, h => h.elim
  | .tup _, h => h.elim
theorem Own.mono {K : PySem.W.Frag} {CT : CTab} {G G' H H' : Hp} {p : Addr} (g : Same G G') (h : ∀ o, H p = some o → H' p = some o) : ∀ {d : D}, Own K CT G H p d → Own K CT G' H' p d
  | .lst ds, ⟨vs, a, b⟩ => ⟨vs, h _ a, RepL.mono g ds vs b⟩
  | .dic ds, ⟨vs, a, b⟩ => ⟨vs, h _ a, RepK.mono g ds vs b⟩
  | .ins _ ds, ⟨A, dx, fs, e, a, b⟩ => ⟨A, dx, fs, e, h _ a, RepF.mono g ds fs b⟩
  | .non, h => h.elim
  | .bl _, h => h.elim
  | .int _, h => h.elim
  | .str _, h => h.elim
  | .tup _, h => h.elim
theorem Own.rep {K : PySem.W.Frag} {CT : CTab} {G H : Hp} {p : Addr} (g : Same G H) : ∀ {d : D}, Own K CT G H p d → Rep K CT H d (.ref p)
  | .lst ds, ⟨vs, a, b⟩ => ⟨p, vs, rfl, SqL.of a, RepL.mono g ds vs b⟩
  | .dic ds, ⟨vs, a, b⟩ => ⟨p, vs, rfl, Rd.of a, RepK.mono g ds vs b⟩
  | .ins _ ds, ⟨A, dx, fs, e, a, b⟩ => ⟨p, A, dx, fs, rfl, e, a, RepF.mono g ds fs b⟩
  | .non, h => h.elim
  | .bl _, h => h.elim
  | .int _, h => h.elim
  | .str _, h => h.elim
  | .tup _, h => h.elim
structure GH (C : Dc) (G H : Hp) : Prop where
  sub : Same G H
  g0 : Same C.G0 G
  new : ∀ b, C.G0 b = none → G b ≠ none → C.X.H₀ b = none
  fr : ∀ b o, C.X.H₀ b = some o → ¬ C.M b → H b = some o
  dom : ∀ b, H b = none → C.X.H₀ b = none
  bs : Same C.B H
  bh : ∀ b, C.X.H₀ b = none → C.B b = none
structure StR (C : Dc) (G H : Hp) (σ : St) (ς : SD) : Prop extends GH C G H where
  len : σ.length = ς.length
  fz : ∀ (i : Nat) d, ς[i]? = some (some (.k, d)) → ∃ v, σ[i]? = some (some v) ∧ Rep C.X.K C.CT G d v
  ow : ∀ (i : Nat) d, ς[i]? = some (some (.o, d)) → ∃ p, σ[i]? = some (some (.ref p)) ∧ G p = none ∧ C.X.H₀ p = none ∧ Own C.X.K C.CT G H p d
  ln : ∀ (i : Nat) d, ς[i]? = some (some (.l, d)) → ∃ v, σ[i]? = some (some v) ∧ Rep C.X.K C.CT C.B d v
  inj : ∀ (i j : Nat) d e p, i ≠ j → ς[i]? = some (some (.o, d)) → ς[j]? = some (some (.o, e)) → σ[i]? = some (some (.ref p)) → σ[j]? ≠ some (some (.ref p))
  sf : ∀ (i : Nat) d, ς[i]? = some (some (.s, d)) → ∃ p, σ[i]? = some (some (.ref p)) ∧ G p = none ∧ C.X.H₀ p ≠ none ∧ C.M p ∧ C.B p = none ∧ Own C.X.K C.CT G H p d
  su : ∀ (i j : Nat) d e, ς[i]? = some (some (.s, d)) → ς[j]? = some (some (.s, e)) → i = j
section
variable {C : Dc} {G G' H H' : Hp} {σ : St} {ς : SD}
theorem GH.gnone (S : GH C G H) {p : Addr} (h : H p = none) : G p = none := S.sub.free h
theorem GH.h0none (S : GH C G H) {p : Addr} (h : H p = none) : C.X.H₀ p = none := S.dom p h
theorem same_upd {H : Hp} {p : Addr} {o : HO} (h : H p = none) : Same H (upd H p o) := fun b u e => by
  rw [upd_ne (ne_of_none e h)]; exact e
theorem same_upd2 {G H : Hp} {p : Addr} {o : HO} (s : Same G H) : Same (upd G p o) (upd H p o) := fun b u e => by
  by_cases hb : b = p
  · subst hb; rw [upd_same] at e ⊢; exact e
  · rw [upd_ne hb] at e ⊢; exact s b u e
theorem GH.grow (S : GH C G H) (hH : Same H H') (hG : Same G G') (hs : Same G' H') (hn : ∀ b, G b = none → G' b ≠ none → H b = none) : GH C G' H' where
  sub := hs
  g0 := S.g0.trans hG
  new := fun b h0 h1 => by
    cases q : G b with
    | none => exact S.h0none (hn b q h1)
    | some o => exact S.new b h0 (by rw [q]; simp)
  fr := fun b o e m => hH b o (S.fr b o e m)
  dom := fun b e => S.dom b (hH.free e)
  bs := S.bs.trans hH
  bh := S.bh
theorem StR.own_ne (S : StR C G H σ ς) {i : Nat} {d : D} {p : Addr} (h : ς[i]? = some (some (.o, d))) (hp : σ[i]? = some (some (.ref p))) : ∃ o, H p = some o := by
  obtain ⟨q, e, _, _, o⟩ := S.ow i d h
  rw [hp] at e; cases e
  exact o.there
theorem StR.grow (S : StR C G H σ ς) (hH : Same H H') (hG : Same G G') (hs : Same G' H') (hn : ∀ b, G b = none → G' b ≠ none → H b = none) : StR C G' H' σ ς where
  toGH := S.toGH.grow hH hG hs hn
  len := S.len
  fz := fun i d e => let ⟨v, a, b⟩ := S.fz i d e; ⟨v, a, Rep.mono hG d v b⟩
  ow := fun i d e => by
    obtain ⟨p, a, b, c, o⟩ := S.ow i d e
    refine ⟨p, a, ?_, c, o.mono hG fun u q => hH _ _ q⟩
    cases q : G' p with
    | none => rfl
    | some u =>
      obtain ⟨w, hw⟩ := o.there
      have := hn p b (by rw [q]; simp)
      rw [hw] at this; cases this
  ln := S.ln
  inj := S.inj
  sf := fun i d e => by
    obtain ⟨p, a, b, c, m, z, o⟩ := S.sf i d e
    refine ⟨p, a, ?_, c, m, z, o.mono hG fun u q => hH _ _ q⟩
    cases q : G' p with
    | none => rfl
    | some u =>
      obtain ⟨w, hw⟩ := o.there
      have := hn p b (by rw [q]; simp)
      rw [hw] at this; cases this
  su := S.su
theorem StR.alloc (S : StR C G H σ ς) {p : Addr} {o : HO} (h : H p = none) : StR C (upd G p o) (upd H p o) σ ς :=
  S.grow (same_upd h) (same_upd (S.sub.free h)) (same_upd2 S.sub) fun b g n => by
    by_cases hb : b = p
    · subst hb; exact h
    · rw [upd_ne hb, g] at n; exact absurd rfl n
theorem StR.allocO (S : StR C G H σ ς) {p : Addr} {o : HO} (h : H p = none) : StR C G (upd H p o) σ ς :=
  S.grow (same_upd h) (Same.refl G) (S.sub.trans (same_upd h)) fun b g n => absurd g n
end
def KD (C : Dc) (G H : Hp) (σ : St) (ς : SD) (Q : VK) (d : D) : Prop := ∀ v H' G', StR C G' H' σ ς → Same H H' → Same G G' → Rep C.X.K C.CT G' d v → Q v H'
def KB (C : Dc) (G H : Hp) (σ : St) (ς : SD) (Q : VK) (d : D) : Prop := ∀ v H' G', StR C G' H' σ ς → Same H H' → Same G G' → Rep C.X.K C.CT H' d v → Q v H'
def KF (C : Dc) (G H : Hp) (σ : St) (ς : SD) (Q : VK) (d : D) : Prop := ∀ p H' G', StR C G' H' σ ς → Same H H' → Same G G' → H p = none → G' p = none → Own C.X.K C.CT G' H' p d → Q (.ref p) H'
def DE (C : Dc) (e : Expr) (E : SD → Out D) : Prop := ∃ t, PE C.X e t ∧ ∀ G H σ ς Q, StR C G H σ ς → (E ς).post (KD C G H σ ς Q) C.XD → t σ H Q
def DB (C : Dc) (e : Expr) (E : SD → Out D) : Prop := ∃ t, PE C.X e t ∧ ∀ G H σ ς Q, StR C G H σ ς → (E ς).post (KB C G H σ ς Q) C.XD → t σ H Q
def DF (C : Dc) (e : Expr) (E : SD → Out D) : Prop := ∃ t, PE C.X e t ∧ ∀ G H σ ς Q, StR C G H σ ς → (E ς).post (KF C G H σ ς Q) C.XD → t σ H Q
def KT (C : Dc) (G H : Hp) (σ : St) (ς : SD) (Q : Bool → Hp → Prop) (b : Bool) : Prop := ∀ H' G', StR C G' H' σ ς → Same H H' → Same G G' → Q b H'
def DT (C : Dc) (e : Expr) (T : SD → Out Bool) : Prop := ∃ t, PT C.X e t ∧ ∀ G H σ ς Q, StR C G H σ ς → (T ς).post (KT C G H σ ς Q) C.XD → t σ H Q
def DW (C : Dc) (e : Expr) (T : SD → Out Bool) : Prop := ∃ t, PW C.X e t ∧ ∀ G H σ ς Q, StR C G H σ ς → (T ς).post (KT C G H σ ς Q) C.XD → t σ H Q
def DA (C : Dc) (es : List Expr) (A : SD → Out (List D)) : Prop := ∃ t, PA C.X es t ∧ ∀ G H σ ς Q, StR C G H σ ς →
  (A ς).post (fun ds => ∀ vs H' G', StR C G' H' σ ς → Same H H' → Same G G' → RepL C.X.K C.CT G' ds vs → Q vs H') C.XD → t σ H Q
def DAB (C : Dc) (es : List Expr) (A : SD → Out (List D)) : Prop := ∃ t, PA C.X es t ∧ ∀ G H σ ς Q, StR C G H σ ς →
  (A ς).post (fun ds => ∀ vs H' G', StR C G' H' σ ς → Same H H' → Same G G' → RepL C.X.K C.CT H' ds vs → Q vs H') C.XD → t σ H Q
inductive Fl where
  | nx (ς : SD) | rt (fr : Bool) (d : D) | bk (ς : SD) | ct (ς : SD)
def RetR (K : PySem.W.Frag) (CT : CTab) (fr : Bool) (H0 G' H' : Hp) (d : D) (v : V) : Prop :=
  if fr = true then ∃ p, v = .ref p ∧ H0 p = none ∧ G' p = none ∧ Own K CT G' H' p d else Rep K CT G' d v
def FlK (C : Dc) (G : Hp) (W : Ends) : Fl → Prop
  | .nx ς' => ∀ σ' H' G', StR C G' H' σ' ς' → Same G G' → W.nx σ' H'
  | .bk ς' => ∀ σ' H' G', StR C G' H' σ' ς' → Same G G' → W.bk σ' H'
  | .ct ς' => ∀ σ' H' G', StR C G' H' σ' ς' → Same G G' → W.ct σ' H'
  | .rt fr d => ∀ v H' G', GH C G' H' → Same G G' → RetR C.X.K C.CT fr C.X.H₀ G' H' d v → W.rt v H'
def DS (C : Dc) (st : Stmt) (T : SD → Out Fl) : Prop := ∃ t, PS C.X st t ∧ ∀ G H σ ς W, StR C G H σ ς → (T ς).post (FlK C G W) C.XD → t W σ H
def DSs (C : Dc) (st : List Stmt) (T : SD → Out Fl) : Prop := ∃ t, PSs C.X st t ∧ ∀ G H σ ς W, StR C G H σ ς → (T ς).post (FlK C G W) C.XD → t W σ H
section
variable {C : Dc} {e : Expr} {E : SD → Out D}
theorem StR.freeze {G H : Hp} {σ : St} {ς : SD} (S : StR C G H σ ς) {p : Addr} {o : HO} (hp : H p = some o) (hg : G p = none) (h0 : C.X.H₀ p = none) (hn : ∀ (i : Nat) d, ς[i]? = some (some (.o, d)) → σ[i]? ≠ some (some (.ref p))) : StR C (upd G p o) H σ ς where
  sub := fun b u q => by
    by_cases hb : b = p
    · subst hb; rw [upd_same] at q; cases q; exact hp
    · rw [upd_ne hb] at q; exact S.sub b u q
  g0 := S.g0.trans (same_upd hg)
  new := fun b h1 h2 => by
    by_cases hb : b = p
    · subst hb; exact h0
    · rw [upd_ne hb] at h2; exact S.new b h1 h2
  fr := S.fr
  dom := S.dom
  bs := S.bs
  bh := S.bh
  len := S.len
  fz := fun i d q => let ⟨v, a, b⟩ := S.fz i d q; ⟨v, a, Rep.mono (same_upd hg) d v b⟩
  ow := fun i d q => by
    obtain ⟨r, a, b, c, w⟩ := S.ow i d q
    refine ⟨r, a, ?_, c, w.mono (same_upd hg) fun _ z => z⟩
    rw [upd_ne (by rintro rfl; exact hn i d q a)]; exact b
  ln := S.ln
  inj := S.inj
  sf := fun i d q => by
    obtain ⟨r, a, b, c, m, z, w⟩ := S.sf i d q
    refine ⟨r, a, ?_, c, m, z, w.mono (same_upd hg) fun _ z => z⟩
    rw [upd_ne (by rintro rfl; exact c h0)]; exact b
  su := S.su
theorem Own.known {K : PySem.W.Frag} {CT : CTab} {G H : Hp} {p : Addr} {o : HO} (hg : G p = none) (hp : H p = some o) : ∀ {d : D}, Own K CT G H p d → Rep K CT (upd G p o) d (.ref p)
  | .lst ds, ⟨vs, a, b⟩ => by rw [hp] at a; cases a; exact ⟨p, vs, rfl, SqL.of upd_same, RepL.mono (same_upd hg) ds vs b⟩
  | .dic ds, ⟨vs, a, b⟩ => by rw [hp] at a; cases a; exact ⟨p, vs, rfl, Rd.of upd_same, RepK.mono (same_upd hg) ds vs b⟩
  | .ins _ ds, ⟨A, dx, fs, e, a, b⟩ => by rw [hp] at a; cases a; exact ⟨p, A, dx, fs, rfl, e, upd_same, RepF.mono (same_upd hg) ds fs b⟩
  | .non, h => h.elim
  | .bl _, h => h.elim
  | .int _, h => h.elim
  | .str _, h => h.elim
  | .tup _, h => h.elim
theorem StR.new_ne {G H : Hp} {σ : St} {ς : SD} (S : StR C G H σ ς) {p : Addr} (h : H p = none) : ∀ (i : Nat) d, ς[i]? = some (some (.o, d)) → σ[i]? ≠ some (some (.ref p)) := fun i d q z => by
  obtain ⟨o, w⟩ := S.own_ne q z
  rw [h] at w; cases w
theorem KD.ofF {G H : Hp} {σ : St} {ς : SD} {Q : VK} {d : D} (S : StR C G H σ ς) (k : KD C G H σ ς Q d) : KF C G H σ ς Q d := fun p H' G' S' hH hG hp hg ow => by
  obtain ⟨o, ho⟩ := ow.there
  exact k _ _ _ (S'.freeze ho hg (S.h0none hp) (S.new_ne hp)) hH (hG.trans (same_upd hg)) (ow.known hg ho)
theorem DF.de (h : DF C e E) : DE C e E := by
  obtain ⟨t, h1, h2⟩ := h
  refine ⟨t, h1, fun G H σ ς Q S q => h2 G H σ ς Q S (Out.post_mono q fun d k => KD.ofF S k)⟩
theorem DE.db (h : DE C e E) : DB C e E := by
  obtain ⟨t, h1, h2⟩ := h
  refine ⟨t, h1, fun G H σ ς Q S q => h2 G H σ ς Q S (Out.post_mono q fun d k v H' G' S' a b r => k v H' G' S' a b (Rep.mono S'.sub d v r))⟩
def D.scal : D → Bool
  | .non => true
  | .bl _ => true
  | .int _ => true
  | .str _ => true
  | _ => false
theorem Rep.scal {K : PySem.W.Frag} {CT : CTab} {G H : Hp} : ∀ {d : D} {v : V}, d.scal = true → Rep K CT H d v → Rep K CT G d v
  | .non, _, _, h => h
  | .bl _, _, _, h => h
  | .int _, _, _, h => h
  | .str _, _, _, h => h
theorem KD.now {G H : Hp} {σ : St} {ς : SD} {Q : VK} {d : D} {v : V} (k : KD C G H σ ς Q d) (S : StR C G H σ ς) (r : Rep C.X.K C.CT G d v) : Q v H := k v H G S (Same.refl H) (Same.refl G) r
theorem KB.now {G H : Hp} {σ : St} {ς : SD} {Q : VK} {d : D} {v : V} (k : KB C G H σ ς Q d) (S : StR C G H σ ς) (r : Rep C.X.K C.CT H d v) : Q v H := k v H G S (Same.refl H) (Same.refl G) r
theorem KT.now {G H : Hp} {σ : St} {ς : SD} {Q : Bool → Hp → Prop} {b : Bool} (k : KT C G H σ ς Q b) (S : StR C G H σ ς) : Q b H := k H G S (Same.refl H) (Same.refl G)
theorem KD.later {G H G1 H1 : Hp} {σ : St} {ς : SD} {Q : VK} {d : D} (k : KD C G H σ ς Q d) (hH : Same H H1) (hG : Same G G1) : KD C G1 H1 σ ς Q d := fun v H' G' S a b r => k v H' G' S (hH.trans a) (hG.trans b) r
theorem KB.later {G H G1 H1 : Hp} {σ : St} {ς : SD} {Q : VK} {d : D} (k : KB C G H σ ς Q d) (hH : Same H H1) (hG : Same G G1) : KB C G1 H1 σ ς Q d := fun v H' G' S a b r => k v H' G' S (hH.trans a) (hG.trans b) r
theorem KT.later {G H G1 H1 : Hp} {σ : St} {ς : SD} {Q : Bool → Hp → Prop} {d : Bool} (k : KT C G H σ ς Q d) (hH : Same H H1) (hG : Same G G1) : KT C G1 H1 σ ς Q d := fun H' G' S a b => k H' G' S (hH.trans a) (hG.trans b)
theorem KF.later {G H G1 H1 : Hp} {σ : St} {ς : SD} {Q : VK} {d : D} (k : KF C G H σ ς Q d) (hH : Same H H1) (hG : Same G G1) : KF C G1 H1 σ ς Q d := fun p H' G' S a b hp hg ow => k p H' G' S (hH.trans a) (hG.trans b) (hH.free hp) hg ow
theorem KF.lst {G H : Hp} {σ : St} {ς : SD} {Q : VK} {ds : List D} {vs : List V} (k : KF C G H σ ς Q (.lst ds)) (S : StR C G H σ ς) (r : RepL C.X.K C.CT G ds vs) : ∀ p, H p = none → Q (.ref p) (upd H p (.lst vs)) := fun p hp =>
  k p _ G (S.allocO hp) (same_upd hp) (Same.refl G) hp (S.gnone hp) ⟨vs, upd_same, r⟩
theorem KD.tup {G H : Hp} {σ : St} {ς : SD} {Q : VK} {ds : List D} {vs : List V} (k : KD C G H σ ς Q (.tup ds)) (S : StR C G H σ ς) (r : RepL C.X.K C.CT G ds vs) : ∀ p, H p = none → Q (.ref p) (upd H p (.tup vs)) := fun p hp =>
  k _ _ _ (S.alloc hp) (same_upd hp) (same_upd (S.gnone hp)) ⟨p, vs, rfl, SqT.of upd_same, RepL.mono (same_upd (S.gnone hp)) ds vs r⟩
end
end DL
set_option Elab.async false
set_option linter.all false
set_option maxRecDepth 100000
namespace DL
open PySem PySem.Spec PyProof.Rows L2
def eVar (i : Nat) : SD → Out D := fun ς => match ς[i]? with | some (some (.k, d)) => .ok d | _ => .stuck
def eVarB (i : Nat) : SD → Out D := fun ς => match ς[i]? with | some (some (_, d)) => .ok d | _ => .stuck
def eC (d : D) : SD → Out D := fun _ => .ok d
section
variable {C : Dc} {pos : Pos}
theorem post_var {i : Nat} {ς : SD} {k : D → Prop} {x : D → Prop} (h : (eVar i ς).post k x) : ∃ d, ς[i]? = some (some (.k, d)) ∧ k d := by
  unfold eVar at h
  split at h
  · rename_i d e; exact ⟨d, e, h⟩
  · exact h.elim
theorem post_varB {i : Nat} {ς : SD} {k : D → Prop} {x : D → Prop} (h : (eVarB i ς).post k x) : ∃ b d, ς[i]? = some (some (b, d)) ∧ k d := by
  unfold eVarB at h
  split at h
  · rename_i b d e; exact ⟨b, d, e, h⟩
  · exact h.elim
theorem de_var (i : Nat) {x : Str} (hN : C.X.N[i]? = some x := by rfl) (hv : Vis C.X.env.scope x := by first | exact Or.inl rfl | exact Or.inr (Or.inl rfl) | exact Or.inr (Or.inr rfl))
    (hd : (x == ("__debug__" : Str)) = false := by decide) (hcd : (x == ("__classdict__" : Str)) = false := by decide) : DE C (.Name x pos) (eVar i) := by
  refine ⟨_, pe_var (i := i) hN hv hd hcd, fun G H σ ς Q S q => ?_⟩
  obtain ⟨d, e, k⟩ := post_var q
  obtain ⟨v, a, b⟩ := S.fz i d e
  exact ⟨v, a, k.now S b⟩
theorem db_var (i : Nat) {x : Str} (hN : C.X.N[i]? = some x := by rfl) (hv : Vis C.X.env.scope x := by first | exact Or.inl rfl | exact Or.inr (Or.inl rfl) | exact Or.inr (Or.inr rfl))
    (hd : (x == ("__debug__" : Str)) = false := by decide) (hcd : (x == ("__classdict__" : Str)) = false := by decide) : DB C (.Name x pos) (eVarB i) := by
  refine ⟨_, pe_var (i := i) hN hv hd hcd, fun G H σ ς Q S q => ?_⟩
  obtain ⟨b, d, e, k⟩ := post_varB q
  cases b with
  | k =>
    obtain ⟨v, a, b⟩ := S.fz i d e
    exact ⟨v, a, k.now S (Rep.mono S.sub d v b)⟩
  | o =>
    obtain ⟨p, a, b, c, w⟩ := S.ow i d e
    exact ⟨_, a, k.now S (w.rep S.sub)⟩
  | l =>
    obtain ⟨v, a, b⟩ := S.ln i d e
    exact ⟨v, a, k.now S (Rep.mono S.bs d v b)⟩
  | s =>
    obtain ⟨p, a, b, c, m, z, w⟩ := S.sf i d e
    exact ⟨_, a, k.now S (w.rep S.sub)⟩
theorem de_int {i : Int} {j} : DE C (.Constant (.int i) j pos) (eC (.int i)) := ⟨_, pe_int, fun G H σ ς Q S q => KD.now q S rfl⟩
theorem de_bl {b : Bool} {j} : DE C (.Constant (.bool b) j pos) (eC (.bl b)) := ⟨_, pe_bl, fun G H σ ς Q S q => KD.now q S rfl⟩
theorem de_str {x : Str} {j} : DE C (.Constant (.str x) j pos) (eC (.str x)) := ⟨_, pe_str, fun G H σ ς Q S q => KD.now q S rfl⟩
def toV : D → V
  | .bl b => .bl b
  | .int i => .int i
  | .str x => .str x
  | _ => .non
theorem toV_rep {K : PySem.W.Frag} {CT : CTab} {H : Hp} : ∀ {d : D}, d.scal = true → Rep K CT H d (toV d)
  | .non, _ => rfl
  | .bl _, _ => rfl
  | .int _, _ => rfl
  | .str _, _ => rfl
end
def e1 (f : D → Out D) (a : SD → Out D) : SD → Out D := fun ς => a ς >>= f
def e2 (f : D → D → Out D) (a b : SD → Out D) : SD → Out D := fun ς => a ς >>= fun x => b ς >>= fun y => f x y
def DRS (C : Dc) (r : R2) (f : D → D → Out D) : Prop := ∀ G H σ ς (Q : VK) x y vx vy, StR C G H σ ς → Rep C.X.K C.CT H x vx → Rep C.X.K C.CT H y vy →
  (f x y).post (fun d => d.scal = true ∧ Q (toV d) H) (fun _ => False) → r vx vy H Q
def scal2 (f : D → D → Out D) : Prop := ∀ x y, match f x y with | .ok d => d.scal = true | .exc _ => False | .stuck => True
section
variable {C : Dc} {a b c : Expr} {A B A' : SD → Out D} {pos : Pos}
theorem post_of_scal {o : Out D} {G H : Hp} {σ : St} {ς : SD} {Q : VK} (S : StR C G H σ ς) (hs : match o with | .ok d => d.scal = true | .exc _ => False | .stuck => True) (q : o.post (KD C G H σ ς Q) C.XD) :
    o.post (fun d => d.scal = true ∧ Q (toV d) H) (fun _ => False) := by
  cases o with
  | ok d => exact ⟨hs, KD.now q S (toV_rep hs)⟩
  | exc _ => exact hs
  | stuck => exact q
theorem dop {t : TE} {r : R2} {f : D → D → Out D} {ta tb : TE} (hr : DRS C r f) (hs : scal2 f)
    (h1 : ∀ G H σ ς Q, StR C G H σ ς → (A ς).post (KB C G H σ ς Q) C.XD → ta σ H Q) (h2 : ∀ G H σ ς Q, StR C G H σ ς → (B ς).post (KB C G H σ ς Q) C.XD → tb σ H Q) :
    ∀ G H σ ς Q, StR C G H σ ς → (e2 f A B ς).post (KD C G H σ ς Q) C.XD → tOp r ta tb σ H Q := by
  intro G H σ ς Q S q
  unfold e2 at q
  rw [Out.post_bind] at q
  refine h1 G H σ ς _ S (Out.post_mono q fun x k v1 H1 G1 S1 a1 b1 r1 => ?_)
  rw [Out.post_bind] at k
  refine h2 G1 H1 σ ς _ S1 (Out.post_mono k fun y k2 v2 H2 G2 S2 a2 b2 r2 => ?_)
  refine hr G2 H2 σ ς _ x y v1 v2 S2 (Rep.mono a2 x v1 r1) r2 (post_of_scal S2 (hs x y) ?_)
  exact Out.post_mono k2 fun d kd => KD.later kd (a1.trans a2) (b1.trans b2)
theorem de_op {op : Operator} {r : R2} {f : D → D → Out D} (ho : OpR C.X (binaryOp op) r) (hr : DRS C r f) (hs : scal2 f) (ha : DB C a A) (hb : DB C b B) : DE C (.BinOp a op b pos) (e2 f A B) := by
  obtain ⟨ta, p1, q1⟩ := ha
  obtain ⟨tb, p2, q2⟩ := hb
  exact ⟨_, pe_op ho p1 p2, dop (t := ta) hr hs q1 q2⟩
theorem de_cmp {op : CmpOp} {r : R2} {f : D → D → Out D} (ho : OpR C.X (compareOp op) r) (hr : DRS C r f) (hs : scal2 f) (ha : DB C a A) (hb : DB C b B) (hm : behindInMarks op b = false) : DE C (.Compare a [op] [b] pos) (e2 f A B) := by
  obtain ⟨ta, p1, q1⟩ := ha
  obtain ⟨tb, p2, q2⟩ := hb
  exact ⟨_, pe_cmpR ho p1 p2 hm, dop (t := ta) hr hs q1 q2⟩
def tVal (a : SD → Out D) : SD → Out Bool := fun ς => a ς >>= fun d => match d with | .bl b => .ok b | _ => .stuck
theorem post_tVal {o : Out D} {G H : Hp} {σ : St} {ς : SD} {Q : Bool → Hp → Prop} (q : (o >>= fun d => match d with | .bl b => Out.ok b | _ => .stuck).post (KT C G H σ ς Q) C.XD) :
    o.post (KD C G H σ ς fun x H' => ∃ k, x = .bl k ∧ Q k H') C.XD := by
  rw [Out.post_bind] at q
  refine Out.post_mono q fun d k v H' G' S' a b r => ?_
  cases d with
  | bl c => exact ⟨c, r, k H' G' S' a b⟩
  | _ => exact k.elim
theorem dt_cmp {op : CmpOp} {r : R2} {f : D → D → Out D} (ho : OpR C.X (compareOp op) r) (hr : DRS C r f) (hs : scal2 f) (ha : DB C a A) (hb : DB C b B) (hm : behindInMarks op b = false) : DT C (.Compare a [op] [b] pos) (tVal (e2 f A B)) := by
  obtain ⟨ta, p1, q1⟩ := ha
  obtain ⟨tb, p2, q2⟩ := hb
  exact ⟨_, pt_cmpR ho p1 p2 hm, fun G H σ ς Q S q => dop (t := ta) hr hs q1 q2 G H σ ς _ S (post_tVal q)⟩
theorem dt_val (h : DE C a A) (he : ∀ whole, isTrue a C.X.env whole = (do let v ← whole; standAt a.pos; holding [v] (truthy v)) := by intro _; rfl) : DT C a (tVal A) := by
  obtain ⟨ta, p1, q1⟩ := h
  exact ⟨_, pt_val p1 he, fun G H σ ς Q S q => q1 G H σ ς _ S (post_tVal q)⟩
end
section
variable {C : Dc}
def dI (cnd : Int → Int → Bool) (g : Int → Int → D) : D → D → Out D
  | .int i, .int j => if cnd i j = true then .ok (g i j) else .stuck
  | _, _ => .stuck
def dI0 (g : Int → Int → D) : D → D → Out D
  | .int i, .int j => .ok (g i j)
  | _, _ => .stuck
theorem post_ite {α : Type} {c : Prop} [Decidable c] {a b : Out α} {k : α → Prop} {x : D → Prop} (h : (if c then a else b).post k x) : (c ∧ a.post k x) ∨ (¬ c ∧ b.post k x) := by
  by_cases e : c
  · rw [if_pos e] at h; exact .inl ⟨e, h⟩
  · rw [if_neg e] at h; exact .inr ⟨e, h⟩
theorem scal_ite {c : Prop} [Decidable c] {d : D} (h : d.scal = true) : match (if c then Out.ok d else Out.stuck : Out D) with | .ok d => d.scal = true | .exc _ => False | .stuck => True := by
  by_cases e : c
  · rw [if_pos e]; exact h
  · rw [if_neg e]; exact True.intro
theorem scal_dI {cnd : Int → Int → Bool} {g : Int → Int → D} (h : ∀ i j, (g i j).scal = true) : scal2 (dI cnd g) := by
  intro x y
  cases x with
  | int i =>
    cases y with
    | int j => exact scal_ite (h i j)
    | _ => exact True.intro
  | _ => exact True.intro
theorem scal_dI0 {g : Int → Int → D} (h : ∀ i j, (g i j).scal = true) : scal2 (dI0 g) := by
  intro x y
  cases x <;> cases y <;> simp [dI0, h]
theorem drs_dI {cnd : Int → Int → Bool} {P : Int → Int → Prop} {g : Int → Int → D} (hP : ∀ i j, cnd i j = true → P i j) : DRS C (rI P fun i j => toV (g i j)) (dI cnd g) := by
  intro G H σ ς Q x y vx vy S hx hy q
  cases x with
  | int i =>
    cases y with
    | int j =>
      cases hx; cases hy
      refine ⟨i, j, rfl, rfl, ?_⟩
      rcases post_ite (show (if cnd i j = true then Out.ok (g i j) else Out.stuck).post _ _ from q) with ⟨hc, q⟩ | ⟨hc, q⟩
      · exact ⟨hP i j hc, q.2⟩
      · exact q.elim
    | _ => exact q.elim
  | _ => exact q.elim
theorem drs_dI0 {g : Int → Int → D} : DRS C (rI0 fun i j => toV (g i j)) (dI0 g) := by
  intro G H σ ς Q x y vx vy S hx hy q
  cases x with
  | int i =>
    cases y with
    | int j =>
      cases hx; cases hy
      exact ⟨i, j, rfl, rfl, q.2⟩
    | _ => exact q.elim
  | _ => exact q.elim
variable {a b c : Expr} {A B : SD → Out D} {pos : Pos}
def dSub : D → D → Out D := dI0 fun i j => .int (i - j)
def big (i : Int) : Bool := decide (i.natAbs < 2 ^ 9000)
def dMul : D → D → Out D := dI (fun i j => decide (Builtin.Int.intBits i + Builtin.Int.intBits j ≤ 134217728)) fun i j => .int (i * j)
def dFdiv : D → D → Out D := dI (fun i j => decide (j ≠ 0) && big j) fun i j => .int (i.fdiv j)
def dMod : D → D → Out D := dI (fun i j => decide (j ≠ 0)) fun i j => .int (i.fmod j)
def dPow : D → D → Out D := dI (fun i j => decide (0 ≤ j) && decide (j ≤ 1000000) && decide (i.natAbs < 2 ^ 64)) fun i j => .int (i ^ j.toNat)
theorem big_bits {i : Int} (h : big i = true) : i.natAbs.log2 < 9000 := by
  have h' : i.natAbs < 2 ^ 9000 := of_decide_eq_true h
  by_cases z : i.natAbs = 0
  · rw [z]; decide
  · exact (Nat.log2_lt z).mpr h'
theorem op_mulB {X : Cx} : OpR X (binaryOp .Mult) (rI IntMulOk fun i j => .int (i * j)) := opI fun _ _ _ _ _ _ _ hc q => mul_int q hc
def CDivB (i j : Int) : Prop := j ≠ 0 ∧ j.natAbs.log2 < 9000
theorem op_fdivB {X : Cx} : OpR X (binaryOp .FloorDiv) (rI CDivB fun i j => .int (i.fdiv j)) := opI fun _ _ _ _ _ _ _ hc q => floordiv_int hc.1 q (.inl (PyProof.noPylong_of_log2 hc.2))
theorem de_sub (ha : DB C a A) (hb : DB C b B) : DE C (.BinOp a .Sub b pos) (e2 dSub A B) := de_op op_sub drs_dI0 (scal_dI0 fun _ _ => rfl) ha hb
theorem de_mul (ha : DB C a A) (hb : DB C b B) : DE C (.BinOp a .Mult b pos) (e2 dMul A B) := de_op op_mulB (drs_dI fun i j h => IntMulOk.of_le (Nat.le_refl _) (Nat.le_refl _) (of_decide_eq_true h)) (scal_dI fun _ _ => rfl) ha hb
theorem de_fdiv (ha : DB C a A) (hb : DB C b B) : DE C (.BinOp a .FloorDiv b pos) (e2 dFdiv A B) := de_op op_fdivB (drs_dI fun i j h => by
  rw [Bool.and_eq_true] at h
  exact ⟨of_decide_eq_true h.1, big_bits h.2⟩) (scal_dI fun _ _ => rfl) ha hb
theorem de_mod (ha : DB C a A) (hb : DB C b B) : DE C (.BinOp a .Mod b pos) (e2 dMod A B) := de_op op_modN (drs_dI fun i j h => of_decide_eq_true h) (scal_dI fun _ _ => rfl) ha hb
theorem de_pow (ha : DB C a A) (hb : DB C b B) : DE C (.BinOp a .Pow b pos) (e2 dPow A B) := de_op op_pow (drs_dI fun i j h => by
  rw [Bool.and_eq_true, Bool.and_eq_true] at h
  exact ⟨of_decide_eq_true h.1.1, of_decide_eq_true h.1.2, of_decide_eq_true h.2⟩) (scal_dI fun _ _ => rfl) ha hb
def dAdd : D → D → Out D
  | .int i, .int j => .ok (.int (i + j))
  | .str x, .str y => if x.length + y.length ≤ sizeLine then .ok (.str (x ++ y)) else .stuck
  | _, _ => .stuck
theorem de_add (ha : DB C a A) (hb : DB C b B) : DE C (.BinOp a .Add b pos) (e2 dAdd A B) := by
  refine de_op (op_add.or op_add_str) ?_ ?_ ha hb
  · intro G H σ ς Q x y vx vy S hx hy q
    cases x with
    | int i =>
      cases y with
      | int j =>
        cases hx; cases hy
        exact .inl ⟨i, j, rfl, rfl, q.2⟩
      | _ => exact q.elim
    | str i =>
      cases y with
      | str j =>
        cases hx; cases hy
        rcases post_ite (show (if i.length + j.length ≤ sizeLine then Out.ok (D.str (i ++ j)) else Out.stuck).post _ _ from q) with ⟨hc, q⟩ | ⟨hc, q⟩
        · exact .inr ⟨i, j, rfl, rfl, hc, q.2⟩
        · exact q.elim
      | _ => exact q.elim
    | _ => exact q.elim
  · intro x y
    cases x with
    | int i =>
      cases y with
      | int j => exact rfl
      | _ => exact True.intro
    | str i =>
      cases y with
      | str j => exact scal_ite rfl
      | _ => exact True.intro
    | _ => exact True.intro
def dLt : D → D → Out D := dI0 fun i j => .bl (decide (i < j))
def dLe : D → D → Out D := dI0 fun i j => .bl (decide (i ≤ j))
def dGt : D → D → Out D := dI0 fun i j => .bl (decide (j < i))
def dGe : D → D → Out D := dI0 fun i j => .bl (decide (j ≤ i))
end
section
variable {C : Dc} {a b c : Expr} {A B : SD → Out D} {pos : Pos}
def dNeg : D → Out D
  | .int i => .ok (.int (-i))
  | _ => .stuck
variable {TA TB : SD → Out Bool} {rest : List Expr}
def tAnd' (a b : SD → Out Bool) : SD → Out Bool := fun ς => a ς >>= fun c => if c = true then b ς else .ok false
def tOr' (a b : SD → Out Bool) : SD → Out Bool := fun ς => a ς >>= fun c => if c = true then .ok true else b ς
def tNot' (a : SD → Out Bool) : SD → Out Bool := fun ς => a ς >>= fun c => .ok (!c)
theorem DW.dt {e : Expr} {T : SD → Out Bool} (h : DW C e T) : DT C e T := let ⟨t, p, q⟩ := h; ⟨t, p.pt, q⟩
theorem dw_and1 (ha : DT C a TA) : DW C (.BoolOp .And [a] pos) TA := let ⟨t, p, q⟩ := ha; ⟨t, pw_and1 p, q⟩
theorem dw_or1 (ha : DT C a TA) : DW C (.BoolOp .Or [a] pos) TA := let ⟨t, p, q⟩ := ha; ⟨t, pw_or1 p, q⟩
theorem dw_and (ha : DT C a TA) (hb : DW C (.BoolOp .And (b :: rest) pos) TB) : DW C (.BoolOp .And (a :: b :: rest) pos) (tAnd' TA TB) := by
  obtain ⟨t1, p1, q1⟩ := ha
  obtain ⟨t2, p2, q2⟩ := hb
  refine ⟨_, pw_and p1 p2, fun G H σ ς Q S q => ?_⟩
  unfold tAnd' at q
  rw [Out.post_bind] at q
  refine q1 G H σ ς _ S (Out.post_mono q fun x k H1 G1 S1 a1 b1 => ?_)
  cases x with
  | true => exact iteT (q2 G1 H1 σ ς _ S1 (Out.post_mono (show (TB ς).post _ _ from k) fun x k => KT.later k a1 b1))
  | false => exact iteF (KT.now (KT.later (show KT C G H σ ς Q false from k) a1 b1) S1)
theorem dw_or (ha : DT C a TA) (hb : DW C (.BoolOp .Or (b :: rest) pos) TB) : DW C (.BoolOp .Or (a :: b :: rest) pos) (tOr' TA TB) := by
  obtain ⟨t1, p1, q1⟩ := ha
  obtain ⟨t2, p2, q2⟩ := hb
  refine ⟨_, pw_or p1 p2, fun G H σ ς Q S q => ?_⟩
  unfold tOr' at q
  rw [Out.post_bind] at q
  refine q1 G H σ ς _ S (Out.post_mono q fun x k H1 G1 S1 a1 b1 => ?_)
  cases x with
  | true => exact iteT (KT.now (KT.later (show KT C G H σ ς Q true from k) a1 b1) S1)
  | false => exact iteF (q2 G1 H1 σ ς _ S1 (Out.post_mono (show (TB ς).post _ _ from k) fun x k => KT.later k a1 b1))
theorem dt_not (ha : DT C a TA) : DT C (.UnaryOp .Not a pos) (tNot' TA) := by
  obtain ⟨t1, p1, q1⟩ := ha
  refine ⟨_, pt_not p1, fun G H σ ς Q S q => ?_⟩
  unfold tNot' at q
  rw [Out.post_bind] at q
  exact q1 G H σ ς _ S (Out.post_mono q fun x k H1 G1 S1 a1 b1 => k H1 G1 S1 a1 b1)
def eAnd (a b : SD → Out D) : SD → Out D := fun ς => a ς >>= fun d => match d with | .bl true => b ς | .bl false => .ok (.bl false) | _ => .stuck
def eOr (a b : SD → Out D) : SD → Out D := fun ς => a ς >>= fun d => match d with | .bl true => .ok (.bl true) | .bl false => b ς | _ => .stuck
def eNot (a : SD → Out D) : SD → Out D := fun ς => a ς >>= fun d => match d with | .bl c => .ok (.bl (!c)) | _ => .stuck
theorem de_one {op} (h : DE C a A) : DE C (.BoolOp op [a] pos) A := let ⟨t, p, q⟩ := h; ⟨t, pe_one p, q⟩
theorem de_and (ha : DE C a A) (hb : DE C (.BoolOp .And (b :: rest) pos) B) : DE C (.BoolOp .And (a :: b :: rest) pos) (eAnd A B) := by
  obtain ⟨t1, p1, q1⟩ := ha
  obtain ⟨t2, p2, q2⟩ := hb
  refine ⟨_, pe_and p1 p2, fun G H σ ς Q S q => ?_⟩
  unfold eAnd at q
  rw [Out.post_bind] at q
  refine q1 G H σ ς _ S (Out.post_mono q fun x k v1 H1 G1 S1 a1 b1 r1 => ?_)
  cases x with
  | bl c =>
    refine ⟨c, r1, ?_⟩
    cases c with
    | true => exact iteT (q2 G1 H1 σ ς _ S1 (Out.post_mono (show (B ς).post _ _ from k) fun x k => KD.later k a1 b1))
    | false => exact iteF (KD.now (KD.later (show KD C G H σ ς Q (.bl false) from k) a1 b1) S1 rfl)
  | _ => exact k.elim
theorem de_not (ha : DE C a A) : DE C (.UnaryOp .Not a pos) (eNot A) := by
  obtain ⟨t1, p1, q1⟩ := ha
  refine ⟨_, pe_not p1, fun G H σ ς Q S q => ?_⟩
  unfold eNot at q
  rw [Out.post_bind] at q
  refine q1 G H σ ς _ S (Out.post_mono q fun x k v1 H1 G1 S1 a1 b1 r1 => ?_)
  cases x with
  | bl c => exact ⟨c, r1, KD.now (KD.later (show KD C G H σ ς Q (.bl (!c)) from k) a1 b1) S1 rfl⟩
  | _ => exact k.elim
def eIf (t : SD → Out Bool) (a b : SD → Out D) : SD → Out D := fun ς => t ς >>= fun c => if c = true then a ς else b ς
end
end DL
set_option Elab.async false
set_option linter.all false
set_option maxRecDepth 100000
namespace DL
open PySem PySem.Spec PyProof.Rows L2
def aNil : SD → Out (List D) := fun _ => .ok []
def aCons (a : SD → Out D) (r : SD → Out (List D)) : SD → Out (List D) := fun ς => a ς >>= fun x => r ς >>= fun xs => .ok (x :: xs)
section
variable {C : Dc} {e : Expr} {es : List Expr} {E : SD → Out D} {A : SD → Out (List D)} {pos : Pos}
theorem da_nil : DA C [] aNil := ⟨_, pa_nil, fun G H σ ς Q S q => q [] H G S (Same.refl H) (Same.refl G) rfl⟩
theorem dab_nil : DAB C [] aNil := ⟨_, pa_nil, fun G H σ ς Q S q => q [] H G S (Same.refl H) (Same.refl G) rfl⟩
theorem da_cons (ha : DE C e E) (hr : DA C es A) (hs : starEach (e :: es) C.X.env = (false, eval e C.X.env) :: starEach es C.X.env := by rfl) : DA C (e :: es) (aCons E A) := by
  obtain ⟨t1, p1, q1⟩ := ha
  obtain ⟨t2, p2, q2⟩ := hr
  refine ⟨_, pa_cons p1 p2 hs, fun G H σ ς Q S q => ?_⟩
  unfold aCons at q
  rw [Out.post_bind] at q
  refine q1 G H σ ς _ S (Out.post_mono q fun x k v1 H1 G1 S1 a1 b1 r1 => ?_)
  rw [Out.post_bind] at k
  refine q2 G1 H1 σ ς _ S1 (Out.post_mono k fun xs k2 vs H2 G2 S2 a2 b2 r2 => ?_)
  exact k2 (v1 :: vs) H2 G2 S2 (a1.trans a2) (b1.trans b2) ⟨v1, vs, rfl, Rep.mono b2 x v1 r1, r2⟩
theorem dab_cons (ha : DB C e E) (hr : DAB C es A) (hs : starEach (e :: es) C.X.env = (false, eval e C.X.env) :: starEach es C.X.env := by rfl) : DAB C (e :: es) (aCons E A) := by
  obtain ⟨t1, p1, q1⟩ := ha
  obtain ⟨t2, p2, q2⟩ := hr
  refine ⟨_, pa_cons p1 p2 hs, fun G H σ ς Q S q => ?_⟩
  unfold aCons at q
  rw [Out.post_bind] at q
  refine q1 G H σ ς _ S (Out.post_mono q fun x k v1 H1 G1 S1 a1 b1 r1 => ?_)
  rw [Out.post_bind] at k
  refine q2 G1 H1 σ ς _ S1 (Out.post_mono k fun xs k2 vs H2 G2 S2 a2 b2 r2 => ?_)
  exact k2 (v1 :: vs) H2 G2 S2 (a1.trans a2) (b1.trans b2) ⟨v1, vs, rfl, Rep.mono a2 x v1 r1, r2⟩
def fits (n : Nat) : Bool := decide (n ≤ sizeLine)
def eTup (a : SD → Out (List D)) : SD → Out D := fun ς => a ς >>= fun xs => if fits xs.length = true then .ok (.tup xs) else .stuck
def eLst (a : SD → Out (List D)) : SD → Out D := fun ς => a ς >>= fun xs => if fits xs.length = true then .ok (.lst xs) else .stuck
theorem de_tup {x1} (h : DA C es A) : DE C (.Tuple es x1 pos) (eTup A) := by
  obtain ⟨t, p, q⟩ := h
  refine ⟨_, pe_tup p, fun G H σ ς Q S k => ?_⟩
  unfold eTup at k
  rw [Out.post_bind] at k
  refine q G H σ ς _ S (Out.post_mono k fun xs k2 vs H1 G1 S1 a1 b1 r1 => ?_)
  rcases post_ite k2 with ⟨hc, k3⟩ | ⟨_, k3⟩
  · exact ⟨by rw [← r1.length]; exact of_decide_eq_true hc, KD.tup (KD.later k3 a1 b1) S1 r1⟩
  · exact k3.elim
theorem df_lst (h : DA C es A) : DF C (.List es pos) (eLst A) := by
  obtain ⟨t, p, q⟩ := h
  refine ⟨_, pe_lst p, fun G H σ ς Q S k => ?_⟩
  unfold eLst at k
  rw [Out.post_bind] at k
  refine q G H σ ς _ S (Out.post_mono k fun xs k2 vs H1 G1 S1 a1 b1 r1 => ?_)
  rcases post_ite k2 with ⟨hc, k3⟩ | ⟨_, k3⟩
  · exact ⟨by rw [← r1.length]; exact of_decide_eq_true hc, KF.lst (KF.later k3 a1 b1) S1 r1⟩
  · exact k3.elim
end
theorem atI_rep {K : PySem.W.Frag} {CT : CTab} {H : Hp} {ds : List D} {vs : List V} {i : Int} {d : D} (r : RepL K CT H ds vs) (h : atI ds i = some d) : ∃ v, atI vs i = some v ∧ Rep K CT H d v := by
  unfold atI at h ⊢
  rw [← r.length]
  cases e : ixN ds.length i with
  | none => rw [e] at h; cases h
  | some j =>
    rw [e] at h
    exact r.get h
def optO {α : Type} : Option α → Out α
  | some a => .ok a
  | none => .stuck
theorem post_opt {α : Type} {o : Option α} {k : α → Prop} {x : D → Prop} (h : (optO o).post k x) : ∃ a, o = some a ∧ k a := by
  cases o with
  | none => exact h.elim
  | some a => exact ⟨a, rfl, h⟩
def dIx : D → D → Out D
  | .lst xs, .int i => optO (atI xs i)
  | .tup xs, .int i => optO (atI xs i)
  | .str x, .int i => if fits x.length = true then optO ((atI x.cps.toList i).map fun c => D.str ⟨#[c]⟩) else .stuck
  | _, _ => .stuck
section
variable {C : Dc} {a b : Expr} {A B : SD → Out D} {pos : Pos}
theorem de_ix (ha : DE C a A) (hb : DB C b B) (hs : PlainIx b := by intro _ _; rfl) : DE C (.Subscript a b pos) (e2 dIx A B) := by
  obtain ⟨ta, p1, q1⟩ := ha
  obtain ⟨tb, p2, q2⟩ := hb
  refine ⟨_, pe_ix ix_seq p1 p2 hs, fun G H σ ς Q S q => ?_⟩
  unfold e2 at q
  rw [Out.post_bind] at q
  refine q1 G H σ ς _ S (Out.post_mono q fun x k v1 H1 G1 S1 a1 b1 r1 => ?_)
  rw [Out.post_bind] at k
  refine q2 G1 H1 σ ς _ S1 (Out.post_mono k fun y k2 v2 H2 G2 S2 a2 b2 r2 => ?_)
  have r1' := Rep.mono b2 x v1 r1
  cases y with
  | int i =>
    cases r2
    cases x with
    | lst xs =>
      obtain ⟨p, vs, rfl, h2, h3⟩ := r1'
      obtain ⟨d, e, kd⟩ := post_opt k2
      obtain ⟨v, e2, r⟩ := atI_rep h3 e
      exact .inl ⟨p, vs, i, v, rfl, rfl, S2.sub.seq h2, e2, KD.now (KD.later kd (a1.trans a2) (b1.trans b2)) S2 r⟩
    | tup xs =>
      obtain ⟨p, vs, rfl, h2, h3⟩ := r1'
      obtain ⟨d, e, kd⟩ := post_opt k2
      obtain ⟨v, e2, r⟩ := atI_rep h3 e
      exact .inr (.inl ⟨p, vs, i, v, rfl, rfl, Same.sqT S2.sub h2, e2, KD.now (KD.later kd (a1.trans a2) (b1.trans b2)) S2 r⟩)
    | str z =>
      cases r1'
      rcases post_ite (show (if fits z.length = true then optO ((atI z.cps.toList i).map fun c => D.str ⟨#[c]⟩) else .stuck).post _ C.XD from k2) with ⟨hc, q⟩ | ⟨_, q⟩
      · obtain ⟨d, e, kd⟩ := post_opt q
        cases e3 : atI z.cps.toList i with
        | none => rw [e3] at e; cases e
        | some c =>
          rw [e3] at e
          cases e
          exact .inr (.inr ⟨z, i, c, rfl, rfl, of_decide_eq_true hc, e3, KD.now (KD.later kd (a1.trans a2) (b1.trans b2)) S2 rfl⟩)
      · exact q.elim
    | _ => exact k2.elim
  | _ => cases x <;> exact k2.elim
end
def cutD {α : Type} (xs : List α) (lo hi : Option Int) : List α := (xs.drop (HT.sIx xs.length 0 lo)).take (HT.sIx xs.length xs.length hi - HT.sIx xs.length 0 lo)
theorem cut_rep {K : PySem.W.Frag} {CT : CTab} {H : Hp} {ds : List D} {vs : List V} (lo hi : Option Int) (r : RepL K CT H ds vs) : RepL K CT H (cutD ds lo hi) (cutV vs lo hi) := by
  unfold cutD cutV
  rw [r.length]
  exact (r.drop _).take _
def oNo : SD → Out (Option Int) := fun _ => .ok none
def oSome (e : SD → Out D) : SD → Out (Option Int) := fun ς => e ς >>= fun d => match d with | .int i => .ok (some i) | _ => .stuck
def DO (C : Dc) (e : Option Expr) (T : SD → Out (Option Int)) : Prop := ∃ t, PO C.X e t ∧ ∀ G H σ ς Q, StR C G H σ ς → (T ς).post (fun o => ∀ H' G', StR C G' H' σ ς → Same H H' → Same G G' → Q o H') C.XD → t σ H Q
section
variable {C : Dc} {a b : Expr} {A B : SD → Out D} {lo hi : Option Expr} {L U : SD → Out (Option Int)} {pos p2 : Pos}
theorem do_none : DO C none oNo := ⟨_, po_none, fun G H σ ς Q S q => q H G S (Same.refl H) (Same.refl G)⟩
theorem do_some (h : DB C a A) : DO C (some a) (oSome A) := by
  obtain ⟨t, p, q⟩ := h
  refine ⟨_, po_some p, fun G H σ ς Q S k => ?_⟩
  unfold oSome at k
  rw [Out.post_bind] at k
  refine q G H σ ς _ S (Out.post_mono k fun x k2 v1 H1 G1 S1 a1 b1 r1 => ?_)
  cases x with
  | int i => cases r1; exact ⟨i, rfl, k2 H1 G1 S1 a1 b1⟩
  | _ => exact k2.elim
def eSl (a : SD → Out D) (l u : SD → Out (Option Int)) : SD → Out D := fun ς => a ς >>= fun x => l ς >>= fun i => u ς >>= fun j => match x with
  | .lst xs => .ok (.lst (cutD xs i j))
  | _ => .stuck
theorem df_sl (ha : DE C a A) (hl : DO C lo L) (hu : DO C hi U) : DF C (.Subscript a (.Slice lo hi none p2) pos) (eSl A L U) := by
  obtain ⟨ta, p1, q1⟩ := ha
  obtain ⟨tl, p3, q3⟩ := hl
  obtain ⟨tu, p4, q4⟩ := hu
  refine ⟨_, pe_slice sl_list p1 p3 p4, fun G H σ ς Q S q => ?_⟩
  unfold eSl at q
  rw [Out.post_bind] at q
  refine q1 G H σ ς _ S (Out.post_mono q fun x k v1 H1 G1 S1 a1 b1 r1 => ?_)
  rw [Out.post_bind] at k
  refine q3 G1 H1 σ ς _ S1 (Out.post_mono k fun i k2 H2 G2 S2 a2 b2 => ?_)
  rw [Out.post_bind] at k2
  refine q4 G2 H2 σ ς _ S2 (Out.post_mono k2 fun j k3 H3 G3 S3 a3 b3 => ?_)
  cases x with
  | lst xs =>
    obtain ⟨p, vs, rfl, h2, h3⟩ := Rep.mono (b2.trans b3) _ v1 r1
    exact ⟨p, vs, rfl, S3.sub.seq h2, KF.lst (KF.later (show KF C G H σ ς Q (.lst (cutD xs i j)) from k3) ((a1.trans a2).trans a3) ((b1.trans b2).trans b3)) S3 (cut_rep i j h3)⟩
  | _ => exact k3.elim
end
section
variable {C : Dc} {x : Str} {p pos : Pos} {e : Expr} {es : List Expr} {A : SD → Out (List D)} {id T : String}
def eA (f : List D → Out D) (a : SD → Out (List D)) : SD → Out D := fun ς => a ς >>= f
def DCS (C : Dc) (r : List V → Hp → VK → Prop) (f : List D → Out D) : Prop := ∀ G H σ ς (Q : VK) xs vs, StR C G H σ ς → RepL C.X.K C.CT H xs vs →
  (f xs).post (fun d => d.scal = true ∧ Q (toV d) H) (fun _ => False) → r vs H Q
def scalA (f : List D → Out D) : Prop := ∀ xs, match f xs with | .ok d => d.scal = true | .exc _ => False | .stuck => True
theorem dcall {r : List V → Hp → VK → Prop} {f : List D → Out D} {t : TA} (hr : DCS C r f) (hs : scalA f)
    (h : ∀ G H σ ς Q, StR C G H σ ς → (A ς).post (fun ds => ∀ vs H' G', StR C G' H' σ ς → Same H H' → Same G G' → RepL C.X.K C.CT H' ds vs → Q vs H') C.XD → t σ H Q) :
    ∀ G H σ ς Q, StR C G H σ ς → (eA f A ς).post (KD C G H σ ς Q) C.XD → tCB r t σ H Q := by
  intro G H σ ς Q S q
  unfold eA at q
  rw [Out.post_bind] at q
  refine h G H σ ς _ S (Out.post_mono q fun ds k vs H1 G1 S1 a1 b1 r1 => ?_)
  exact hr G1 H1 σ ς Q ds vs S1 r1 (post_of_scal S1 (hs ds) (Out.post_mono k fun d kd => KD.later kd a1 b1))
theorem de_callB {r : List V → Hp → VK → Prop} {f : List D → Out D} (hc : CallR C.X (.builtin id) r) (hr : DCS C r f) (hs : scalA f) (hg : Gl C.X x) (hm : C.X.mg x = none) (hv : bootBuiltins x = some (.builtin id)) (ha : DAB C (e :: es) A) (hn : x ≠ "__name__" := by decide) (hdb : (x == ("__debug__" : Str)) = false := by decide)
    (he : starEach (e :: es) C.X.env = (false, eval e C.X.env) :: starEach es C.X.env := by rfl) (hpl : (backTo pos (starEach es C.X.env)).any (·.1) = false := by rfl) : DE C (.Call (.Name x p) (e :: es) [] pos) (eA f A) := by
  obtain ⟨t, p1, q1⟩ := ha
  exact ⟨_, pe_callB hc hg hm hv p1 hn hdb he hpl, dcall hr hs q1⟩
def fLen : List D → Out D
  | [.lst xs] => .ok (.int xs.length)
  | [.tup xs] => .ok (.int xs.length)
  | [.str x] => if fits x.length = true then .ok (.int x.length) else .stuck
  | _ => .stuck
theorem dcs_len : DCS C (fun xs H Q => (∃ p ys, xs = [.ref p] ∧ (SqL C.X.K H p ys ∨ SqT C.X.K H p ys) ∧ Q (.int ys.length) H) ∨ ∃ z, xs = [.str z] ∧ z.length ≤ sizeLine ∧ Q (.int z.length) H) fLen := by
  intro G H σ ς Q xs vs S r q
  cases xs with
  | nil => exact q.elim
  | cons x xr =>
    obtain ⟨v, vr, rfl, r1, r2⟩ := r
    cases xr with
    | cons y yr => cases x <;> exact q.elim
    | nil =>
      cases r2
      cases x with
      | lst ys =>
        obtain ⟨p, us, rfl, h2, h3⟩ := r1
        exact .inl ⟨p, us, rfl, .inl h2, by rw [← h3.length]; exact q.2⟩
      | tup ys =>
        obtain ⟨p, us, rfl, h2, h3⟩ := r1
        exact .inl ⟨p, us, rfl, .inr h2, by rw [← h3.length]; exact q.2⟩
      | str z =>
        cases r1
        rcases post_ite (show (if fits z.length = true then Out.ok (D.int z.length) else .stuck).post _ _ from q) with ⟨hc, q⟩ | ⟨_, q⟩
        · exact .inr ⟨z, rfl, of_decide_eq_true hc, q.2⟩
        · exact q.elim
      | _ => exact q.elim
theorem scal_len : scalA fLen := by
  intro xs
  cases xs with
  | nil => exact True.intro
  | cons x xr =>
    cases xr with
    | cons y yr => cases x <;> exact True.intro
    | nil =>
      cases x with
      | lst ys => exact rfl
      | tup ys => exact rfl
      | str z => exact scal_ite rfl
      | _ => exact True.intro
theorem de_len (hg : Gl C.X "len") (hm : C.X.mg "len" = none) (ha : DAB C (e :: es) A)
    (he : starEach (e :: es) C.X.env = (false, eval e C.X.env) :: starEach es C.X.env := by rfl) (hpl : (backTo pos (starEach es C.X.env)).any (·.1) = false := by rfl) : DE C (.Call (.Name "len" p) (e :: es) [] pos) (eA fLen A) :=
  de_callB (call_len_seq.or call_len_str) dcs_len scal_len hg hm PySem.boot_len ha (by decide) (by decide) he hpl
def f1 (g : D → Out D) : List D → Out D
  | [x] => g x
  | _ => .stuck
def dAbs : D → Out D
  | .int i => .ok (.int (if i < 0 then -i else i))
  | _ => .stuck
end
mutual
def D.py : D → PyData
  | .non => .none
  | .bl b => .bool b
  | .int i => .int i
  | .str x => .str x
  | .lst xs => .list (D.pys xs)
  | .tup xs => .tuple (D.pys xs)
  | .dic _ => .dict []
  | .ins _ _ => .dict []
  | .err _ => .dict []
def D.pys : List D → List PyData
  | [] => []
  | x :: xs => D.py x :: D.pys xs
end
section
variable {X : Cx} {pins : List (Addr × Obj)} {σ : L2.St} {H : Hp} {s : Shared} {CT : CTab}
mutual
theorem reads_of (I : Inv X pins σ H s) : ∀ (d : D) (v : V) (u : Value), Rep X.K CT H d v → RelV v u → d.py.canLay0 = true → ∃ as, Reads s.heap u d.py as
  | .non, _, _, h, r, _ => by cases h; cases r; exact ⟨_, .none⟩
  | .bl b, _, _, h, r, _ => by cases h; cases r; exact ⟨_, .bool b⟩
  | .int i, _, _, h, r, _ => by cases h; obtain ⟨t, rfl⟩ := r; exact ⟨_, .int i t⟩
  | .str x, _, _, h, r, _ => by cases h; obtain ⟨t, rfl⟩ := r; exact ⟨_, .str x t⟩
  | .lst ds, _, _, ⟨a, vs, h1, h2, h3⟩, r, c => by
    subst h1; cases r
    obtain ⟨its, q, ⟨o, n, ho, hc, _, hd⟩, _⟩ := I.list h2
    obtain ⟨as, ra⟩ := reads_all I ds vs its h3 q (by simpa [D.py, PyData.canLay0] using c)
    exact ⟨_, .list ho hc hd (by simpa using ra)⟩
  | .tup ds, _, _, ⟨a, vs, h1, h2, h3⟩, r, c => by
    subst h1; cases r
    obtain ⟨its, q, ⟨o, ho, hc, n, hd⟩, _⟩ := I.tuple h2
    obtain ⟨as, ra⟩ := reads_all I ds vs its h3 q (by simpa [D.py, PyData.canLay0] using c)
    exact ⟨_, .tuple ho hc hd (by simpa using ra)⟩
  | .dic _, _, _, _, _, c => by simp [D.py, PyData.canLay0] at c
  | .ins _ _, _, _, _, _, c => by simp [D.py, PyData.canLay0] at c
  | .err _, _, _, _, _, c => by simp [D.py, PyData.canLay0] at c
theorem reads_all (I : Inv X pins σ H s) : ∀ (ds : List D) (vs : List V) (us : List Value), RepL X.K CT H ds vs → Vals vs us → PyData.canLayAll0 (D.pys ds) = true → ∃ as, ReadsAll s.heap us (D.pys ds) as
  | [], _, _, h, r, _ => by cases h; cases r; exact ⟨_, .nil⟩
  | d :: ds, _, _, ⟨v, w, h1, h2, h3⟩, r, c => by
    subst h1
    cases r with
    | cons r1 r2 =>
      have c' : d.py.canLay0 = true ∧ PyData.canLayAll0 (D.pys ds) = true := by simpa [D.pys, PyData.canLayAll0] using c
      obtain ⟨as, q1⟩ := reads_of I d v _ h2 r1 c'.1
      obtain ⟨bs, q2⟩ := reads_all I ds w _ h3 r2 c'.2
      exact ⟨_, .cons q1 q2⟩
end
end
def shp (d : D) : Bool := SeqAt.shaped d.py
def dEq (x y : D) : Out D := if (shp x && shp y) = true then .ok (.bl (PyData.eqv x.py y.py)) else .stuck
def dNe (x y : D) : Out D := if (shp x && shp y) = true then .ok (.bl (!PyData.eqv x.py y.py)) else .stuck
section
variable {C : Dc} {a b : Expr} {A B : SD → Out D} {pos : Pos}
def rEqD (C : Dc) (n : Bool) : R2 := fun vx vy H Q => ∃ x y, Rep C.X.K C.CT H x vx ∧ Rep C.X.K C.CT H y vy ∧ shp x = true ∧ shp y = true ∧ Q (.bl (n != PyData.eqv x.py y.py)) H
theorem op_eqD (hu : C.X.A.units + 64 < cLine) : OpR C.X (compareOp .Eq) (rEqD C false) := by
  intro pins s σ H vx vy u w Q I rx ry h
  obtain ⟨x, y, h1, h2, h3, h4, q⟩ := h
  obtain ⟨as, ra⟩ := reads_of I x vx u h1 rx (SeqAt.canLay_of_shaped h3)
  obtain ⟨bs, rb⟩ := reads_of I y vy w h2 ry (SeqAt.canLay_of_shaped h4)
  exact eq_dataH ra rb h3 h4 hu ⟨.bl _, H, I, rfl, by simpa using q⟩
theorem op_neD (hu : C.X.A.units + 64 < cLine) : OpR C.X (compareOp .NotEq) (rEqD C true) := by
  intro pins s σ H vx vy u w Q I rx ry h
  obtain ⟨x, y, h1, h2, h3, h4, q⟩ := h
  obtain ⟨as, ra⟩ := reads_of I x vx u h1 rx (SeqAt.canLay_of_shaped h3)
  obtain ⟨bs, rb⟩ := reads_of I y vy w h2 ry (SeqAt.canLay_of_shaped h4)
  exact ne_dataH ra rb h3 h4 hu ⟨.bl _, H, I, rfl, by simpa using q⟩
theorem drs_eq : DRS C (rEqD C false) dEq := by
  intro G H σ ς Q x y vx vy S hx hy q
  rcases post_ite q with ⟨hc, q⟩ | ⟨_, q⟩
  · rw [Bool.and_eq_true] at hc
    exact ⟨x, y, hx, hy, hc.1, hc.2, by simpa [toV] using q.2⟩
  · exact q.elim
theorem drs_ne : DRS C (rEqD C true) dNe := by
  intro G H σ ς Q x y vx vy S hx hy q
  rcases post_ite q with ⟨hc, q⟩ | ⟨_, q⟩
  · rw [Bool.and_eq_true] at hc
    exact ⟨x, y, hx, hy, hc.1, hc.2, by simpa [toV] using q.2⟩
  · exact q.elim
theorem scal_eq : scal2 dEq := fun x y => scal_ite rfl
theorem scal_ne : scal2 dNe := fun x y => scal_ite rfl
theorem dt_lt (ha : DB C a A) (hb : DB C b B) : DT C (.Compare a [.Lt] [b] pos) (tVal (e2 dLt A B)) := dt_cmp op_lt drs_dI0 (scal_dI0 fun _ _ => rfl) ha hb (nomark _)
theorem dt_gt (ha : DB C a A) (hb : DB C b B) : DT C (.Compare a [.Gt] [b] pos) (tVal (e2 dGt A B)) := dt_cmp op_gt drs_dI0 (scal_dI0 fun _ _ => rfl) ha hb (nomark _)
theorem de_eq (hu : C.X.A.units + 64 < cLine) (ha : DB C a A) (hb : DB C b B) : DE C (.Compare a [.Eq] [b] pos) (e2 dEq A B) := de_cmp (op_eqD hu) drs_eq scal_eq ha hb (nomark _)
theorem dt_eq (hu : C.X.A.units + 64 < cLine) (ha : DB C a A) (hb : DB C b B) : DT C (.Compare a [.Eq] [b] pos) (tVal (e2 dEq A B)) := dt_cmp (op_eqD hu) drs_eq scal_eq ha hb (nomark _)
theorem dt_ne (hu : C.X.A.units + 64 < cLine) (ha : DB C a A) (hb : DB C b B) : DT C (.Compare a [.NotEq] [b] pos) (tVal (e2 dNe A B)) := dt_cmp (op_neD hu) drs_ne scal_ne ha hb (nomark _)
end
end DL
set_option Elab.async false
set_option linter.all false
set_option maxRecDepth 100000
namespace DL
open PySem PySem.Spec PyProof.Rows L2
section
variable {C : Dc} {a b : Expr} {A B : SD → Out D} {pos : Pos}
end
def tyName : D → String
  | .non => "NoneType"
  | .bl _ => "bool"
  | .int _ => "int"
  | .str _ => "str"
  | .lst _ => "list"
  | .tup _ => "tuple"
  | .dic _ => "dict"
  | .ins _ _ => "object"
  | .err _ => "object"
structure ClsD (K : PySem.W.Frag) (A : Addr) : Prop where
  cl : Cls K A
  ha : PySem.W.findIn K (.ref A) "__class__" = some (some (.builtin "object.__class__"))
  hn : PySem.W.specialIn K (.builtin "object.__class__") "__get__" = some (some (.builtin "getset_descriptor.__get__"))
  htk : PySem.W.takesIn K (.builtin "object.__class__") = some true
  hm : PySem.W.mroIn K A (.type "object") = some true
def KitD (K : PySem.W.Frag) (CT : CTab) (d : D) (uc : Value) (b : Bool) : Prop := match d with
  | .ins c _ => ∀ A, CT c = some A → ClsD K A ∧ PySem.W.kitOne K (.ref A) uc = some b
  | .err c => ∀ A, CT c = some A → ExCls K A ∧ PySem.W.kitOne K (.ref A) uc = some b
  | d => PySem.W.kitOne K (.type (tyName d)) uc = some b
section
variable {C : Dc} {e cx : Expr} {E : SD → Out D} {p pos : Pos} {vc : V} {uc : Value}
theorem isi_rep {pins : List (Addr × Obj)} {σ : L2.St} {H : Hp} {s : Shared} {A : Around} {Ex : Value → Shared → Prop} {Q : Value → Shared → Prop} {d : D} {v : V} {u : Value} {b : Bool} (I : Inv C.X pins σ H s) (h : Rep C.X.K C.CT H d v) (r : RelV v u) (k : KitD C.X.K C.CT d uc b)
    (q : ∀ tk, Q (.bool b) { s with toks := tk }) : wpAny (model C.X.prog C.X.w) A (call (.builtin "isinstance") [u, uc]) Q Ex s := by
  cases d with
  | non => cases h; cases r; exact PySem.W.kia_one PySem.W.kitx_none I.kIn True.intro k (fun z => nomatch z) q
  | bl y => cases h; cases r; exact PySem.W.kia_one PySem.W.kitx_bool I.kIn True.intro k (fun z => nomatch z) q
  | int i => cases h; obtain ⟨t, rfl⟩ := r; exact PySem.W.kia_one PySem.W.kitx_int I.kIn True.intro k (fun z => nomatch z) q
  | str i => cases h; obtain ⟨t, rfl⟩ := r; exact PySem.W.kia_one PySem.W.kitx_str I.kIn True.intro k (fun z => nomatch z) q
  | lst ds =>
    obtain ⟨a, vs, rfl, h2, _⟩ := h; cases r
    obtain ⟨its, _, ⟨o, n, ho, hc, _⟩, _⟩ := I.list h2
    exact PySem.W.kia_one PySem.W.kitx_list I.kIn ⟨o, ho, hc⟩ k (fun z => nomatch z) q
  | tup ds =>
    obtain ⟨a, vs, rfl, h2, _⟩ := h; cases r
    obtain ⟨its, _, ⟨o, ho, hc, _⟩, _⟩ := I.tuple h2
    exact PySem.W.kia_one PySem.W.kitx_tuple I.kIn ⟨o, ho, hc⟩ k (fun z => nomatch z) q
  | dic ds =>
    obtain ⟨a, kvs, rfl, h2, _⟩ := h; cases r
    obtain ⟨_, _, vs, _, p⟩ := h2.ok I.hok
    obtain ⟨o, es, ep, h1, h2, _⟩ := p
    exact PySem.W.kia_one PySem.W.kitx_dict I.kIn ⟨o, h1, h2.1⟩ k (fun z => nomatch z) q
  | ins c fs =>
    obtain ⟨a, A', dx, fs', rfl, h1, h2, _⟩ := h; cases r
    obtain ⟨cd, kk⟩ := k A' h1
    obtain ⟨mA, O, _⟩ := ins_get I.hok h2
    obtain ⟨od, J, _⟩ := O.look
    exact PySem.W.kia_one (PySem.W.kitx_own (cd.cl.get _) cd.cl.hd cd.ha cd.hn cd.htk cd.hm) I.kIn J kk (fun z => nomatch z) q
  | err c =>
    obtain ⟨a, A', rfl, h1, h2⟩ := h; cases r
    obtain ⟨cd, kk⟩ := k A' h1
    obtain ⟨J, _⟩ := (show ObjOk C.X.prog C.X.w H s.heap a (exO a A') from I.hok a _ h2)
    exact PySem.W.kia_one (kitx_exc cd) I.kIn J kk (fun z => nomatch z) q
def clsV : V → Option Value
  | .ty n => some (.type n)
  | .ref a => some (.ref a)
  | _ => none
def eIsa (f : D → Out Bool) (a : SD → Out D) : SD → Out D := fun ς => a ς >>= fun d => f d >>= fun b => .ok (.bl b)
theorem de_isa {f : D → Out Bool} (hc : PE C.X cx (tC vc)) (rc : clsV vc = some uc) (hf : ∀ d, match f d with | .ok b => KitD C.X.K C.CT d uc b | .exc _ => False | .stuck => True) (hg : Gl C.X "isinstance") (hm : C.X.mg "isinstance" = none) (h : DB C e E)
    (he : starEach (e :: [cx]) C.X.env = (false, eval e C.X.env) :: starEach [cx] C.X.env := by rfl) (he2 : starEach (cx :: []) C.X.env = (false, eval cx C.X.env) :: starEach [] C.X.env := by rfl)
    (hpl : (backTo pos (starEach [cx] C.X.env)).any (·.1) = false := by rfl) : DE C (.Call (.Name "isinstance" p) [e, cx] [] pos) (eIsa f E) := by
  obtain ⟨t, p1, q1⟩ := h
  have hR : CallR C.X (.builtin "isinstance") (fun xs H Q => ∃ d x b, xs = [x, vc] ∧ Rep C.X.K C.CT H d x ∧ KitD C.X.K C.CT d uc b ∧ Q (.bl b) H) := by
    intro pins s σ H xs us Q I r h
    obtain ⟨d, x, b, rfl, h1, h2, q⟩ := h
    obtain ⟨u, w, rfl, r1, r2⟩ := vals2 r
    have : w = uc := by
      cases vc <;> first
        | (cases rc; cases r2; rfl)
        | cases rc
    subst this
    exact isi_rep I h1 r1 h2 fun tk => ⟨.bl b, H, I.tok _, rfl, q⟩
  refine ⟨_, pe_callB hR hg hm PyProof.Rows.Boot.«isinstance» (pa_cons p1 (pa_cons hc pa_nil he2) he) (by decide) (by decide) he hpl, fun G H σ ς Q S q => ?_⟩
  unfold eIsa at q
  rw [Out.post_bind] at q
  refine q1 G H σ ς _ S (Out.post_mono q fun d k v1 H1 G1 S1 a1 b1 r1 => ?_)
  rw [Out.post_bind] at k
  have hd := hf d
  cases e : f d with
  | exc _ => rw [e] at hd; exact hd.elim
  | stuck => rw [e] at k; exact k.elim
  | ok b =>
    rw [e] at k hd
    exact ⟨d, v1, b, rfl, r1, hd, KD.now (KD.later (show KD C G H σ ς Q (.bl b) from k) a1 b1) S1 rfl⟩
end
end DL
set_option Elab.async false
set_option linter.all false
set_option maxRecDepth 100000
namespace DL
open PySem PySem.Spec PyProof.Rows L2
section
variable {C : Dc} {G H : Hp} {σ : St} {ς : SD}
theorem get_set {α : Type} {xs : List α} {i j : Nat} {x y : α} (h : (xs.set i x)[j]? = some y) : (i = j ∧ y = x ∧ i < xs.length) ∨ (i ≠ j ∧ xs[j]? = some y) := by
  rw [List.getElem?_set] at h
  by_cases e : i = j
  · rw [if_pos e] at h
    by_cases l : i < xs.length
    · rw [if_pos l] at h; exact .inl ⟨e, (Option.some.inj h).symm, l⟩
    · rw [if_neg l] at h; cases h
  · rw [if_neg e] at h; exact .inr ⟨e, h⟩
theorem set_get {α : Type} {xs : List α} {i : Nat} {x : α} (h : i < xs.length) : (xs.set i x)[i]? = some x := by
  rw [List.getElem?_set, if_pos rfl, if_pos h]
theorem set_get_ne {α : Type} {xs : List α} {i j : Nat} {x : α} (h : i ≠ j) : (xs.set i x)[j]? = xs[j]? := by
  rw [List.getElem?_set, if_neg h]
theorem StR.set (S : StR C G H σ ς) {d : D} {v : V} (i : Nat) (r : Rep C.X.K C.CT G d v) : StR C G H (σ.set i (some v)) (ς.set i (some (.k, d))) where
  toGH := S.toGH
  len := by rw [List.length_set, List.length_set]; exact S.len
  fz := fun j e h => by
    rcases get_set h with ⟨rfl, h2, l⟩ | ⟨ne, h2⟩
    · cases h2
      exact ⟨v, set_get (by rw [S.len]; exact l), r⟩
    · rw [set_get_ne ne]; exact S.fz j e h2
  ow := fun j e h => by
    rcases get_set h with ⟨rfl, h2, l⟩ | ⟨ne, h2⟩
    · cases h2
    · rw [set_get_ne ne]; exact S.ow j e h2
  ln := fun j e h => by
    rcases get_set h with ⟨rfl, h2, l⟩ | ⟨ne, h2⟩
    · cases h2
    · rw [set_get_ne ne]; exact S.ln j e h2
  inj := fun j k d1 d2 p hjk h1 h2 h3 => by
    rcases get_set h1 with ⟨rfl, q1, l⟩ | ⟨n1, q1⟩
    · cases q1
    · rcases get_set h2 with ⟨rfl, q2, l⟩ | ⟨n2, q2⟩
      · cases q2
      · rw [set_get_ne n1] at h3
        rw [set_get_ne n2]; exact S.inj j k d1 d2 p hjk q1 q2 h3
  sf := fun j e h => by
    rcases get_set h with ⟨rfl, h2, l⟩ | ⟨ne, h2⟩
    · cases h2
    · rw [set_get_ne ne]; exact S.sf j e h2
  su := fun j k d1 d2 h1 h2 => by
    rcases get_set h1 with ⟨rfl, q1, l⟩ | ⟨n1, q1⟩
    · cases q1
    · rcases get_set h2 with ⟨rfl, q2, l⟩ | ⟨n2, q2⟩
      · cases q2
      · exact S.su j k d1 d2 q1 q2
theorem StR.setO (S : StR C G H σ ς) {d : D} {p : Addr} (i : Nat) (hg : G p = none) (h0 : C.X.H₀ p = none) (ow : Own C.X.K C.CT G H p d) (hn : ∀ (j : Nat) e, j ≠ i → ς[j]? = some (some (.o, e)) → σ[j]? ≠ some (some (.ref p))) :
    StR C G H (σ.set i (some (.ref p))) (ς.set i (some (.o, d))) where
  toGH := S.toGH
  len := by rw [List.length_set, List.length_set]; exact S.len
  fz := fun j e h => by
    rcases get_set h with ⟨rfl, h2, l⟩ | ⟨ne, h2⟩
    · cases h2
    · rw [set_get_ne ne]; exact S.fz j e h2
  ow := fun j e h => by
    rcases get_set h with ⟨rfl, h2, l⟩ | ⟨ne, h2⟩
    · cases h2
      exact ⟨p, set_get (by rw [S.len]; exact l), hg, h0, ow⟩
    · rw [set_get_ne ne]; exact S.ow j e h2
  ln := fun j e h => by
    rcases get_set h with ⟨rfl, h2, l⟩ | ⟨ne, h2⟩
    · cases h2
    · rw [set_get_ne ne]; exact S.ln j e h2
  inj := fun j k d1 d2 q hjk h1 h2 h3 => by
    rcases get_set h1 with ⟨rfl, q1, l1⟩ | ⟨n1, q1⟩
    · rcases get_set h2 with ⟨rfl, q2, l⟩ | ⟨n2, q2⟩
      · exact absurd rfl hjk
      · rw [set_get (by rw [S.len]; exact l1)] at h3
        cases h3
        rw [set_get_ne n2]; exact hn k d2 (Ne.symm n2) q2
    · rcases get_set h2 with ⟨rfl, q2, l⟩ | ⟨n2, q2⟩
      · rw [set_get_ne n1] at h3
        rw [set_get (by rw [S.len]; exact l)]
        intro z; cases z
        exact hn j d1 (Ne.symm n1) q1 h3
      · rw [set_get_ne n1] at h3
        rw [set_get_ne n2]; exact S.inj j k d1 d2 q hjk q1 q2 h3
  sf := fun j e h => by
    rcases get_set h with ⟨rfl, h2, l⟩ | ⟨ne, h2⟩
    · cases h2
    · rw [set_get_ne ne]; exact S.sf j e h2
  su := fun j k d1 d2 h1 h2 => by
    rcases get_set h1 with ⟨rfl, q1, l⟩ | ⟨n1, q1⟩
    · cases q1
    · rcases get_set h2 with ⟨rfl, q2, l⟩ | ⟨n2, q2⟩
      · cases q2
      · exact S.su j k d1 d2 q1 q2
end
def sNil : SD → Out Fl := fun ς => .ok (.nx ς)
def thenF (U : SD → Out Fl) : Fl → Out Fl
  | .nx ς => U ς
  | .rt b d => .ok (.rt b d)
  | .bk ς => .ok (.bk ς)
  | .ct ς => .ok (.ct ς)
def sSeq (T U : SD → Out Fl) : SD → Out Fl := fun ς => T ς >>= thenF U
section
variable {C : Dc} {e : Expr} {E : SD → Out D} {st : Stmt} {rest : List Stmt} {T U : SD → Out Fl} {pos : Pos}
theorem FlK.later {G G1 : Hp} {W : Ends} {f : Fl} (h : FlK C G W f) (s : Same G G1) : FlK C G1 W f := by
  cases f with
  | nx ς => exact fun σ' H' G' S q => h σ' H' G' S (s.trans q)
  | bk ς => exact fun σ' H' G' S q => h σ' H' G' S (s.trans q)
  | ct ς => exact fun σ' H' G' S q => h σ' H' G' S (s.trans q)
  | rt b d => exact fun σ' H' G' S q => h σ' H' G' S (s.trans q)
theorem dss_nil : DSs C [] sNil := ⟨_, pss_nil, fun G H σ ς W S q => q σ H G S (Same.refl G)⟩
theorem dss_cons (h1 : DS C st T) (h2 : DSs C rest U) : DSs C (st :: rest) (sSeq T U) := by
  obtain ⟨t1, p1, q1⟩ := h1
  obtain ⟨t2, p2, q2⟩ := h2
  refine ⟨_, pss_cons p1 p2, fun G H σ ς W S q => ?_⟩
  unfold sSeq at q
  rw [Out.post_bind] at q
  refine q1 G H σ ς _ S (Out.post_mono q fun f k => ?_)
  cases f with
  | nx ς' => exact fun σ' H' G' S' s' => q2 G' H' σ' ς' W S' (Out.post_mono (show (U ς').post _ _ from k) fun f k => FlK.later k s')
  | bk ς' => exact k
  | ct ς' => exact k
  | rt b d => exact k
theorem dss_one (h1 : DS C st T) : DSs C [st] T := let ⟨t, p, q⟩ := h1; ⟨t, pss_one p, q⟩
def sSet (i : Nat) (E : SD → Out D) : SD → Out Fl := fun ς => E ς >>= fun d => .ok (.nx (ς.set i (some (.k, d))))
def sSetO (i : Nat) (E : SD → Out D) : SD → Out Fl := fun ς => E ς >>= fun d => .ok (.nx (ς.set i (some (.o, d))))
theorem ds_set {i : Nat} {x : Str} {pos' : Pos} (hN : C.X.N.Nodup) (hi : C.X.N[i]? = some x) (hx : Loc C.X.env.scope x) (he : DE C e E) (hs : swapsWith e (some (.Name x pos')) pos.line C.X.env = pure false := by rfl)
    (hf : C.X.fn x = true ∨ C.X.env.scope.names.lookup x = some .local := by first | exact .inl rfl | exact .inr rfl | assumption) : DS C (.Assign [.Name x pos'] e pos) (sSet i E) := by
  obtain ⟨t, p, q⟩ := he
  refine ⟨_, ps_set hN hi hx p hs hf, fun G H σ ς W S k => ?_⟩
  unfold sSet at k
  rw [Out.post_bind] at k
  exact q G H σ ς _ S (Out.post_mono k fun d k v H1 G1 S1 a1 b1 r1 => k _ H1 G1 (S1.set i r1) b1)
theorem ds_setO {i : Nat} {x : Str} {pos' : Pos} (hN : C.X.N.Nodup) (hi : C.X.N[i]? = some x) (hx : Loc C.X.env.scope x) (he : DF C e E) (hs : swapsWith e (some (.Name x pos')) pos.line C.X.env = pure false := by rfl)
    (hf : C.X.fn x = true ∨ C.X.env.scope.names.lookup x = some .local := by first | exact .inl rfl | exact .inr rfl | assumption) : DS C (.Assign [.Name x pos'] e pos) (sSetO i E) := by
  obtain ⟨t, p, q⟩ := he
  refine ⟨_, ps_set hN hi hx p hs hf, fun G H σ ς W S k => ?_⟩
  unfold sSetO at k
  rw [Out.post_bind] at k
  exact q G H σ ς _ S (Out.post_mono k fun d k p H1 G1 S1 a1 b1 hp hg ow => k _ H1 G1 (S1.setO i hg (S.h0none hp) ow fun j e _ z => S.new_ne hp j e z) b1)
def sPar (i j : Nat) (A : SD → Out (List D)) : SD → Out Fl := fun ς => A ς >>= fun ds => match ds with
  | [x, y] => .ok (.nx ((ς.set i (some (.k, x))).set j (some (.k, y))))
  | _ => .stuck
def setAll : List Nat → List D → SD → Out SD
  | [], [], ς => .ok ς
  | i :: is, d :: ds, ς => setAll is ds (ς.set i (some (.k, d)))
  | _, _, _ => .stuck
def sUnp (is : List Nat) (E : SD → Out D) : SD → Out Fl := fun ς => E ς >>= fun d => match d with
  | .tup ds => setAll is ds ς >>= fun ς' => .ok (.nx ς')
  | _ => .stuck
def sRet (E : SD → Out D) : SD → Out Fl := fun ς => E ς >>= fun d => .ok (.rt false d)
def sRetF (E : SD → Out D) : SD → Out Fl := fun ς => E ς >>= fun d => .ok (.rt true d)
theorem ds_ret (he : DE C e E) : DS C (.Return (some e) pos) (sRet E) := by
  obtain ⟨t, p, q⟩ := he
  refine ⟨_, ps_ret p, fun G H σ ς W S k => ?_⟩
  unfold sRet at k
  rw [Out.post_bind] at k
  exact q G H σ ς _ S (Out.post_mono k fun d k v H1 G1 S1 a1 b1 r1 => k v H1 G1 S1.toGH b1 r1)
theorem ds_retF (he : DF C e E) : DS C (.Return (some e) pos) (sRetF E) := by
  obtain ⟨t, p, q⟩ := he
  refine ⟨_, ps_ret p, fun G H σ ς W S k => ?_⟩
  unfold sRetF at k
  rw [Out.post_bind] at k
  exact q G H σ ς _ S (Out.post_mono k fun d k p H1 G1 S1 a1 b1 hp hg ow => k _ H1 G1 S1.toGH b1 ⟨p, rfl, S.h0none hp, hg, ow⟩)
def sIf (c : SD → Out Bool) (T U : SD → Out Fl) : SD → Out Fl := fun ς => c ς >>= fun b => if b = true then T ς else U ς
theorem ds_if {c : Expr} {a b : List Stmt} {TC : SD → Out Bool} (hc : DT C c TC) (ha : DSs C a T) (hb : DSs C b U) : DS C (.If c a b pos) (sIf TC T U) := by
  obtain ⟨t0, p0, q0⟩ := hc
  obtain ⟨t1, p1, q1⟩ := ha
  obtain ⟨t2, p2, q2⟩ := hb
  refine ⟨_, ps_if p0 p1 p2, fun G H σ ς W S k => ?_⟩
  unfold sIf at k
  rw [Out.post_bind] at k
  refine q0 G H σ ς _ S (Out.post_mono k fun b k H1 G1 S1 a1 b1 => ?_)
  cases b with
  | true => exact iteT (q1 G1 H1 σ ς W S1 (Out.post_mono (show (T ς).post _ _ from k) fun f k => FlK.later k b1))
  | false => exact iteF (q2 G1 H1 σ ς W S1 (Out.post_mono (show (U ς).post _ _ from k) fun f k => FlK.later k b1))
def sNever : SD → Out Fl := fun _ => .stuck
theorem dss_never {sts : List Stmt} : DSs C sts sNever := ⟨_, pss_never, fun G H σ ς W S k => k.elim⟩
end
def loopD (body : D → SD → Out Fl) : List D → SD → Out Fl
  | [], ς => .ok (.nx ς)
  | x :: xs, ς => body x ς >>= fun f => match f with
    | .nx ς' => loopD body xs ς'
    | .ct ς' => loopD body xs ς'
    | .bk ς' => .ok (.nx ς')
    | .rt b d => .ok (.rt b d)
def DG (C : Dc) (tg : Expr) (g : D → SD → Out SD) : Prop := ∃ t, PG C.X tg t ∧ ∀ G H σ ς d v ς' (Q : St → Hp → Prop), StR C G H σ ς → Rep C.X.K C.CT G d v → g d ς = .ok ς' → (∀ σ', StR C G H σ' ς' → Q σ' H) → t v σ H Q
def gN (i : Nat) : D → SD → Out SD := fun d ς => .ok (ς.set i (some (.k, d)))
def gT (is : List Nat) : D → SD → Out SD := fun d ς => match d with | .tup ds => setAll is ds ς | _ => .stuck
def noExc {α β γ : Type} (g : α → β → Out γ) : Prop := ∀ a b x, g a b ≠ .exc x
theorem noExc_gN (i : Nat) : noExc (gN i) := fun _ _ _ h => by cases h
section
variable {C : Dc} {e tg iter : Expr} {E : SD → Out D} {body : List Stmt} {T U : SD → Out Fl} {pos : Pos} {g : D → SD → Out SD}
theorem dg_name {i : Nat} {x : Str} (hN : C.X.N.Nodup) (hi : C.X.N[i]? = some x) (hx : Loc C.X.env.scope x)
    (hf : C.X.fn x = true ∨ C.X.env.scope.names.lookup x = some .local := by first | exact .inl rfl | exact .inr rfl | assumption) : DG C (.Name x pos) (gN i) :=
  ⟨_, pg_name hN hi hx hf, fun G H σ ς d v ς' Q S r h k => by cases h; exact k _ (S.set i r)⟩
def sFor (g : D → SD → Out SD) (its : SD → Out (List D)) (T : SD → Out Fl) : SD → Out Fl := fun ς => its ς >>= fun xs => loopD (fun x ς => g x ς >>= fun ς' => T ς') xs ς
def itL (E : SD → Out D) : SD → Out (List D) := fun ς => E ς >>= fun d => match d with | .lst xs => .ok xs | _ => .stuck
theorem turnD {W : Ends} {x : D} {v : V} {xs : List D} {G H : Hp} {σ : St} {ς : SD} {tb : TS} {tt : TG} {N : L2.St → Hp → Prop} (hne : noExc g)
    (hg : ∀ G H σ ς d v ς' (Q : St → Hp → Prop), StR C G H σ ς → Rep C.X.K C.CT G d v → g d ς = .ok ς' → (∀ σ', StR C G H σ' ς' → Q σ' H) → tt v σ H Q)
    (hb : ∀ G H σ ς W, StR C G H σ ς → (T ς).post (FlK C G W) C.XD → tb W σ H)
    (S : StR C G H σ ς) (r : Rep C.X.K C.CT G x v) (q : (loopD (fun x ς => g x ς >>= fun ς' => T ς') (x :: xs) ς).post (FlK C G W) C.XD)
    (hN : ∀ σ' H' G' ς', StR C G' H' σ' ς' → Same G G' → (loopD (fun x ς => g x ς >>= fun ς' => T ς') xs ς').post (FlK C G' W) C.XD → N σ' H') :
    tt v σ H fun σ2 H2 => tb { W with nx := N, ct := N, bk := W.nx } σ2 H2 := by
  have q' : ((g x ς >>= fun ς' => T ς') >>= fun f => match f with
    | .nx ς' => loopD (fun x ς => g x ς >>= fun ς' => T ς') xs ς'
    | .ct ς' => loopD (fun x ς => g x ς >>= fun ς' => T ς') xs ς'
    | .bk ς' => .ok (.nx ς')
    | .rt b d => .ok (.rt b d)).post (FlK C G W) C.XD := q
  rw [Out.post_bind, Out.post_bind] at q'
  cases z : g x ς with
  | exc y => exact absurd z (hne _ _ _)
  | stuck => rw [z] at q'; exact q'.elim
  | ok ς1 =>
    rw [z] at q'
    refine hg G H σ ς x v ς1 _ S r z fun σ1 S1 => hb G H σ1 ς1 _ S1 (Out.post_mono q' fun f k => ?_)
    cases f with
    | nx ς' => exact fun σ' H' G' S' s' => hN σ' H' G' ς' S' s' (Out.post_mono (show (loopD _ xs ς').post _ _ from k) fun f k => FlK.later k s')
    | ct ς' => exact fun σ' H' G' S' s' => hN σ' H' G' ς' S' s' (Out.post_mono (show (loopD _ xs ς').post _ _ from k) fun f k => FlK.later k s')
    | bk ς' => exact fun σ' H' G' S' s' => (show FlK C G W (.nx ς') from k) σ' H' G' S' s'
    | rt b d => exact k
theorem drop_cons {α : Type} {xs : List α} {i : Nat} {x : α} (h : xs[i]? = some x) : xs.drop i = x :: xs.drop (i + 1) := by
  obtain ⟨l, e⟩ := List.getElem?_eq_some_iff.mp h
  rw [List.drop_eq_getElem_cons l, e]
def rangeD (lo : Int) (n : Nat) : List D := (List.range n).map fun (i : Nat) => D.int (lo + i)
theorem rangeD_get {lo : Int} {n i : Nat} (h : i < n) : (rangeD lo n)[i]? = some (D.int (lo + i)) := by
  unfold rangeD
  rw [List.getElem?_map, List.getElem?_range h]; rfl
theorem rangeD_len {lo : Int} {n : Nat} : (rangeD lo n).length = n := by simp [rangeD]
def small62 (i : Int) : Bool := decide (-(2 ^ 62) ≤ i) && decide (i < 2 ^ 62)
def itR1 (A : SD → Out D) : SD → Out (List D) := fun ς => A ς >>= fun d => match d with
  | .int n => if small62 n = true then .ok (rangeD 0 n.toNat) else .stuck
  | _ => .stuck
theorem small62_of {i : Int} (h : small62 i = true) : -(2 ^ 62) ≤ i ∧ i < 2 ^ 62 := by
  unfold small62 at h
  rw [Bool.and_eq_true] at h
  exact ⟨of_decide_eq_true h.1, of_decide_eq_true h.2⟩
end
end DL
set_option Elab.async false
set_option linter.all false
set_option maxRecDepth 100000
namespace DL
open PySem PySem.Spec PyProof.Rows L2
def RetG (K : PySem.W.Frag) (CT : CTab) (fr : Bool) (H0 G' H' : Hp) (d : D) (v : V) : Prop :=
  if (fr && !d.scal) = true then ∃ p, v = .ref p ∧ H0 p = none ∧ G' p = none ∧ Own K CT G' H' p d else Rep K CT G' d v
def retF (fr : Bool) : Fl → Out D
  | .rt b d => if (!fr || b || d.scal) = true then .ok d else .stuck
  | .nx _ => .ok .non
  | _ => .stuck
def bodyF (fr : Bool) (n len : Nat) (T : SD → Out Fl) : List D → Out D := fun ds =>
  if ds.length = n then T (ds.map (fun d => some (.k, d)) ++ List.replicate (len - n) none) >>= retF fr else .stuck
def SpD (K : PySem.W.Frag) (CT : CTab) (fr : Bool) (m : List D → Out D) : Sp := fun vs H Q _ => ∃ ds G0, Same G0 H ∧ RepL K CT G0 ds vs ∧
  (m ds).post (fun d => ∀ v H' G', Same G0 G' → Same H H' → Same G' H' → (∀ b, G0 b = none → G' b ≠ none → H b = none) → RetG K CT fr H G' H' d v → Q v H') (fun _ => False)
structure FunV (K : PySem.W.Frag) (x qual : Str) (st : Stmt) (f : Addr) (fd : FuncData) (dV : Value) : Prop where
  ex : ∃ (oc : Value) (od : Option Addr) (kV doc pm : Value) (an : Option Addr) (cdv ct : Value) (osl : Array (Option Value)),
    fd = PySem.W.fnOf x qual (defArgs st) (defBody st) (defScope st) dV kV doc pm an cdv ct ∧ K.lookup f = some ⟨oc, od, .func fd, osl⟩ ∧ PySem.W.codeIn K cdv qual = true
  kp : PySem.W.keepIn K (.ref f) = true
theorem funV_mk {K : PySem.W.Frag} {x qual : Str} {st : Stmt} {f : Addr} {oc : Value} {od an : Option Addr} {osl : Array (Option Value)} {dV kV doc pm cdv ct : Value} (l : K.lookup f = some ⟨oc, od, .func (PySem.W.fnOf x qual (defArgs st) (defBody st) (defScope st) dV kV doc pm an cdv ct), osl⟩)
    (c : PySem.W.codeIn K cdv qual = true) (k : PySem.W.keepIn K (.ref f) = true) : FunV K x qual st f (PySem.W.fnOf x qual (defArgs st) (defBody st) (defScope st) dV kV doc pm an cdv ct) dV := ⟨⟨oc, od, kV, doc, pm, an, cdv, ct, osl, rfl, l, c⟩, k⟩
theorem FunV.binds {K : PySem.W.Frag} {x qual : Str} {st : Stmt} {f : Addr} {fd : FuncData} {ps : List Str} (F : FunV K x qual st f fd .none)
    (h : ∀ (kV doc pm : Value) (an : Option Addr) (cdv ct : Value) (us : List Value), us.length = ps.length → bindArgs (PySem.W.fnOf x qual (defArgs st) (defBody st) (defScope st) .none kV doc pm an cdv ct) ⟨us, []⟩ = pure (ps.zip us)) : Binds K fd ps [] := by
  obtain ⟨oc, od, kV, doc, pm, an, cdv, ct, osl, rfl, lk, hcd⟩ := F.ex
  exact .all (h kV doc pm an cdv ct)
abbrev dcOf (P : Program) (w : World) (K : PySem.W.Frag) (mg : Str → Option Value) (base : Heap) (CT : CTab) (N : List Str) (qual : Str) (sc : Scope) (f : Addr) (cdv : Value) (A : Around) (outer : List Env) (s : Shared) (H : Hp) (E : XK) (G : Hp) : Dc :=
  { X := (cxOf CX0 P w K mg base N qual sc f cdv A outer s H E).nox, CT := CT, G0 := G, XD := fun _ => False, B := H, M := fun _ => False }
theorem start_get {N : List Str} {vs : List V} {i : Nat} {v : V} (h : vs[i]? = some v) : (L2.start N vs)[i]? = some (some v) := by
  unfold L2.start
  have hi : i < vs.length := (List.getElem?_eq_some_iff.mp h).1
  rw [List.getElem?_append_left (by simpa using hi), List.getElem?_map, h]; rfl
theorem slots_get {ds : List D} {k : Nat} {i : Nat} {x : SM × D} (h : (ds.map (fun d => some (SM.k, d)) ++ List.replicate k (none : Option (SM × D)))[i]? = some (some x)) : ∃ d, ds[i]? = some d ∧ x = (.k, d) := by
  by_cases hi : i < ds.length
  · rw [List.getElem?_append_left (by simpa using hi), List.getElem?_map] at h
    cases e : ds[i]? with
    | none => rw [e] at h; cases h
    | some d => rw [e] at h; cases h; exact ⟨d, rfl, rfl⟩
  · rw [List.getElem?_append_right (by simpa using hi), List.getElem?_replicate] at h
    split at h <;> cases h
theorem GH.freezeR {C : Dc} {G' H' : Hp} (S : GH C G' H') {p : Addr} {o : HO} (hp : H' p = some o) (hg : G' p = none) (h0 : C.X.H₀ p = none) : GH C (upd G' p o) H' where
  sub := fun b u q => by
    by_cases hb : b = p
    · subst hb; rw [upd_same] at q; cases q; exact hp
    · rw [upd_ne hb] at q; exact S.sub b u q
  g0 := S.g0.trans (same_upd hg)
  new := fun b h1 h2 => by
    by_cases hb : b = p
    · subst hb; exact h0
    · rw [upd_ne hb] at h2; exact S.new b h1 h2
  fr := S.fr
  dom := S.dom
  bs := S.bs
  bh := S.bh
theorem fnV {P : Program} {w : World} {K : PySem.W.Frag} {mg : Str → Option Value} {base : Heap} {CT : CTab} {fr : Bool} {x qual : Str} {st : Stmt} {f : Addr} {fd : FuncData} {dV : Value} {N ps : List Str} {k : Nat} {T : SD → Out Fl}
    (F : FunV K x qual st f fd dV) (S : FnScope N ps (defScope st))
    (hb : ∀ (cdv : Value) (A : Around) (outer : List Env) (s : Shared) (H : Hp) (E : XK) (G : Hp), Room k (A.deeper (envOfC qual (defScope st) s.heap.objs.size f cdv)) → DSs (dcOf P w K mg base CT N qual (defScope st) f cdv A outer s H E G) (defBody st) T) :
    FnOk P w K mg base CX0 (k + 1) f fd ps (SpD K CT fr (bodyF fr ps.length N.length T)) := by
  obtain ⟨oc, od, kV, doc, pm, an, cdv, ct, osl, rfl, lk, hcd⟩ := F.ex
  have hpl : ps.length ≤ N.length := by have := congrArg List.length S.pre; rw [List.length_take] at this; omega
  have len : ∀ vs H Q E, SpD K CT fr (bodyF fr ps.length N.length T) vs H Q E → vs.length = ps.length := by
    intro vs H Q E ⟨ds, G0, sub, r, q⟩
    unfold bodyF at q
    by_cases hl : ds.length = ps.length
    · rw [← r.length]; exact hl
    · rw [if_neg hl] at q; exact q.elim
  refine fn_of lk hcd S len fun A outer s H vs Q E hr hsp => ?_
  have hlen := len vs H Q E hsp
  obtain ⟨ds, G0, sub, r, q⟩ := hsp
  obtain ⟨t, p1, q1⟩ := hb cdv A outer s H E G0 hr
  have hl : ds.length = ps.length := by rw [r.length]; exact hlen
  refine ⟨t, p1.nox, ?_⟩
  unfold bodyF at q
  rw [if_pos hl, Out.post_bind] at q
  have S0 : StR (dcOf P w K mg base CT N qual (defScope st) f cdv A outer s H E G0) G0 H (L2.start N vs) (ds.map (fun d => some (.k, d)) ++ List.replicate (N.length - ps.length) none) := {
    sub := sub
    g0 := Same.refl _
    new := fun b h1 h2 => absurd h1 h2
    fr := fun b o e _ => e
    dom := fun b e => e
    bs := Same.refl _
    bh := fun b e => e
    len := by unfold L2.start; simp; omega
    fz := fun i d e => by
      obtain ⟨d', e1, e2⟩ := slots_get e
      cases e2
      obtain ⟨v, e3, rv⟩ := r.get e1
      exact ⟨v, start_get e3, rv⟩
    ow := fun i d e => by
      obtain ⟨d', e1, e2⟩ := slots_get e
      cases e2
    ln := fun i d e => by
      obtain ⟨d', e1, e2⟩ := slots_get e
      cases e2
    inj := fun i j d e p _ h => by
      obtain ⟨d', e1, e2⟩ := slots_get h
      cases e2
    sf := fun i d e => by
      obtain ⟨d', e1, e2⟩ := slots_get e
      cases e2
    su := fun i j d e h => by
      obtain ⟨d', e1, e2⟩ := slots_get h
      cases e2 }
  refine q1 G0 H (L2.start N vs) _ _ S0 (Out.post_mono q fun fl kk => ?_)
  cases fl with
  | nx ς' => exact fun σ' H' G' S' s' => kk .non H' G' s' (fun b o e => S'.fr b o e id) S'.sub S'.new (by unfold RetG; rw [if_neg (by cases fr <;> decide)]; rfl)
  | bk ς' => exact fun σ' H' G' S' s' => kk.elim
  | ct ς' => exact fun σ' H' G' S' s' => kk.elim
  | rt b d =>
    intro v H' G' S' s' ret
    have kk' : (if (!fr || b || d.scal) = true then Out.ok d else Out.stuck).post (fun d => ∀ v H' G', Same G0 G' → Same H H' → Same G' H' → (∀ b, G0 b = none → G' b ≠ none → H b = none) → RetG K CT fr H G' H' d v → Q v H') (fun _ => False) := kk
    rcases post_ite kk' with ⟨hc, k2⟩ | ⟨_, k2⟩
    · have k3 : ∀ v H' G', Same G0 G' → Same H H' → Same G' H' → (∀ b, G0 b = none → G' b ≠ none → H b = none) → RetG K CT fr H G' H' d v → Q v H' := k2
      cases b with
      | false =>
        refine k3 v H' G' s' (fun b o e => S'.fr b o e id) S'.sub S'.new ?_
        unfold RetG
        have hn : ¬ (fr && !d.scal) = true := by revert hc; cases fr <;> cases d.scal <;> simp
        rw [if_neg hn]
        exact ret
      | true =>
        obtain ⟨p, rfl, h0, hg, ow⟩ := (show ∃ p, v = .ref p ∧ H p = none ∧ G' p = none ∧ Own K CT G' H' p d from ret)
        cases fr with
        | true =>
          refine k3 _ H' G' s' (fun b o e => S'.fr b o e id) S'.sub S'.new ?_
          have hs : d.scal = false := by cases d <;> first | rfl | exact ow.elim
          unfold RetG
          rw [if_pos (by rw [hs]; rfl)]
          exact ⟨p, rfl, h0, hg, ow⟩
        | false =>
          obtain ⟨o, ho⟩ := ow.there
          have S2 := GH.freezeR S' ho hg h0
          refine k3 _ H' _ (s'.trans (same_upd hg)) (fun b o e => S2.fr b o e id) S2.sub S2.new ?_
          unfold RetG
          rw [if_neg (by simp)]
          exact ow.known hg ho
    · exact k2.elim
theorem FnOk.as {P : Program} {w : World} {K : PySem.W.Frag} {mg : Str → Option Value} {base : Heap} {CT : CTab} {fr : Bool} {k : Nat} {f : Addr} {fd : FuncData} {ps : List Str} {m m' : List D → Out D}
    (F : FnOk P w K mg base CX0 k f fd ps (SpD K CT fr m)) (h : ∀ ds, m' ds = .stuck ∨ m' ds = m ds) : FnOk P w K mg base CX0 k f fd ps (SpD K CT fr m') := by
  refine F.imp fun vs H Q E ⟨ds, G0, sub, r, q⟩ => ⟨ds, G0, sub, r, ?_⟩
  rcases h ds with e | e
  · rw [e] at q; exact q.elim
  · rw [← e]; exact q
def DefOk (P : Program) (w : World) (K : PySem.W.Frag) (mg : Str → Option Value) (base : Heap) (CT : CTab) (x : Str) (k : Nat) (fr : Bool) (dd : List D) (m : List D → Out D) : Prop :=
  ∃ f fd ps ds, FnOk P w K mg base CX0 k f fd ps (SpD K CT fr m) ∧ mg x = some (.ref f) ∧ PySem.W.keepIn K (.ref f) = true ∧ Binds K fd ps ds ∧ Vals (dd.map toV) ds
theorem rep_toVs {K : PySem.W.Frag} {CT : CTab} {H : Hp} : ∀ {dd : List D}, dd.all D.scal = true → RepL K CT H dd (dd.map toV)
  | [], _ => rfl
  | d :: ds, h => by
    rw [List.all_cons, Bool.and_eq_true] at h
    exact ⟨_, _, rfl, toV_rep h.1, rep_toVs h.2⟩
def nonScal (o : Out D) : Out D := o >>= fun d => if d.scal = true then .stuck else .ok d
section
variable {C : Dc} {x : Str} {k : Nat} {fr : Bool} {dd : List D} {m : List D → Out D} {e : Expr} {es : List Expr} {A : SD → Out (List D)} {p pos : Pos}
theorem de_f (h : DefOk C.X.prog C.X.w C.X.K C.X.mg C.X.base C.CT x k fr dd m) (hr : Room k C.X.A) (ha : DA C (e :: es) A) (hg : Gl C.X x) (hs : dd.all D.scal = true := by rfl) (hx : ∀ x, ¬ C.XD x := by exact fun _ h => h)
    (hdb : (x == ("__debug__" : Str)) = false := by decide) (he : starEach (e :: es) C.X.env = (false, eval e C.X.env) :: starEach es C.X.env := by rfl) (hpl : (backTo pos (starEach es C.X.env)).any (·.1) = false := by rfl) :
    DE C (.Call (.Name x p) (e :: es) [] pos) (eA (fun xs => m (xs ++ dd)) A) := by
  obtain ⟨f, fd, ps, ds, F, hm, hk, hb, hd⟩ := h
  obtain ⟨t, p1, q1⟩ := ha
  refine ⟨_, pe_call F hr hg hm hk hb hd pass0 p1 hdb he hpl, fun G H σ ς Q S q => ?_⟩
  unfold eA at q
  rw [Out.post_bind] at q
  refine q1 G H σ ς _ S (Out.post_mono q fun xs kk vs H1 G1 S1 a1 b1 r1 => ⟨xs ++ dd, G1, S1.sub, r1.append (rep_toVs hs), ?_⟩)
  cases z : m (xs ++ dd) with
  | stuck => rw [z] at kk; exact kk.elim
  | exc y => rw [z] at kk; exact absurd kk (hx y)
  | ok d =>
    rw [z] at kk
    intro v H' G' g1 h1 s1 n1 ret
    unfold RetG at ret
    by_cases hc : (fr && !d.scal) = true
    · rw [if_pos hc] at ret
      obtain ⟨pp, rfl, h0, hg', ow⟩ := ret
      obtain ⟨o, ho⟩ := ow.there
      have S2 := (S1.grow h1 g1 s1 n1).freeze ho hg' (S1.h0none h0) (fun i d' z1 z2 => by
        obtain ⟨o', ho'⟩ := S1.own_ne z1 z2
        rw [h0] at ho'; cases ho')
      exact (show KD C G H σ ς Q d from kk) _ _ _ S2 (a1.trans h1) ((b1.trans g1).trans (same_upd hg')) (ow.known hg' ho)
    · rw [if_neg hc] at ret
      exact (show KD C G H σ ς Q d from kk) v H' G' (S1.grow h1 g1 s1 n1) (a1.trans h1) (b1.trans g1) ret
theorem df_f (h : DefOk C.X.prog C.X.w C.X.K C.X.mg C.X.base C.CT x k true dd m) (hr : Room k C.X.A) (ha : DA C (e :: es) A) (hg : Gl C.X x) (hs : dd.all D.scal = true := by rfl) (hx : ∀ x, ¬ C.XD x := by exact fun _ h => h)
    (hdb : (x == ("__debug__" : Str)) = false := by decide) (he : starEach (e :: es) C.X.env = (false, eval e C.X.env) :: starEach es C.X.env := by rfl) (hpl : (backTo pos (starEach es C.X.env)).any (·.1) = false := by rfl) :
    DF C (.Call (.Name x p) (e :: es) [] pos) (fun ς => nonScal (eA (fun xs => m (xs ++ dd)) A ς)) := by
  obtain ⟨f, fd, ps, ds, F, hm, hk, hb, hd⟩ := h
  obtain ⟨t, p1, q1⟩ := ha
  refine ⟨_, pe_call F hr hg hm hk hb hd pass0 p1 hdb he hpl, fun G H σ ς Q S q => ?_⟩
  unfold nonScal eA at q
  rw [Out.post_bind, Out.post_bind] at q
  refine q1 G H σ ς _ S (Out.post_mono q fun xs kk vs H1 G1 S1 a1 b1 r1 => ⟨xs ++ dd, G1, S1.sub, r1.append (rep_toVs hs), ?_⟩)
  cases z : m (xs ++ dd) with
  | stuck => rw [z] at kk; exact kk.elim
  | exc y => rw [z] at kk; exact absurd kk (hx y)
  | ok d =>
    rw [z] at kk
    intro v H' G' g1 h1 s1 n1 ret
    rcases post_ite (show (if d.scal = true then Out.stuck else Out.ok d).post _ _ from kk) with ⟨_, kk⟩ | ⟨hc, kk⟩
    · exact kk.elim
    · unfold RetG at ret
      rw [if_pos (by cases hh : d.scal with | true => exact absurd hh hc | false => rfl)] at ret
      obtain ⟨pp, rfl, h0, hg', ow⟩ := ret
      exact (show KF C G H σ ς Q d from kk) pp H' G' (S1.grow h1 g1 s1 n1) (a1.trans h1) (b1.trans g1) (a1.free h0) hg' ow
theorem db_f (h : DefOk C.X.prog C.X.w C.X.K C.X.mg C.X.base C.CT x k fr dd m) (hr : Room k C.X.A) (ha : DAB C (e :: es) A) (hg : Gl C.X x) (hs : dd.all D.scal = true := by rfl) (hx : ∀ x, ¬ C.XD x := by exact fun _ h => h)
    (hdb : (x == ("__debug__" : Str)) = false := by decide) (he : starEach (e :: es) C.X.env = (false, eval e C.X.env) :: starEach es C.X.env := by rfl) (hpl : (backTo pos (starEach es C.X.env)).any (·.1) = false := by rfl) :
    DB C (.Call (.Name x p) (e :: es) [] pos) (eA (fun xs => m (xs ++ dd)) A) := by
  obtain ⟨f, fd, ps, ds, F, hm, hk, hb, hd⟩ := h
  obtain ⟨t, p1, q1⟩ := ha
  refine ⟨_, pe_call F hr hg hm hk hb hd pass0 p1 hdb he hpl, fun G H σ ς Q S q => ?_⟩
  unfold eA at q
  rw [Out.post_bind] at q
  refine q1 G H σ ς _ S (Out.post_mono q fun xs kk vs H1 G1 S1 a1 b1 r1 => ⟨xs ++ dd, H1, Same.refl _, r1.append (rep_toVs hs), ?_⟩)
  cases z : m (xs ++ dd) with
  | stuck => rw [z] at kk; exact kk.elim
  | exc y => rw [z] at kk; exact absurd kk (hx y)
  | ok d =>
    rw [z] at kk
    intro v H' G' g1 h1 s1 n1 ret
    have S2 : StR C G1 H' σ ς := S1.grow h1 (Same.refl _) (S1.sub.trans h1) fun b g n => absurd g n
    refine (show KB C G H σ ς Q d from kk) v H' G1 S2 (a1.trans h1) b1 ?_
    unfold RetG at ret
    by_cases hc : (fr && !d.scal) = true
    · rw [if_pos hc] at ret
      obtain ⟨pp, rfl, h0, hg', ow⟩ := ret
      exact ow.rep s1
    · rw [if_neg hc] at ret
      exact Rep.mono s1 d v ret
end
abbrev bitsI (i : Int) : Nat := Builtin.Int.intBits i
theorem weight_mem : ∀ {xs : List PySem.W.WData} {x : PySem.W.WData}, x ∈ xs → x.weight ≤ PySem.W.WData.weightAll xs
  | y :: r, x, hx => by
    rcases List.mem_cons.mp hx with rfl | hx'
    · simp only [PySem.W.WData.weightAll]; omega
    · have := weight_mem hx'
      simp only [PySem.W.WData.weightAll]; omega
theorem bits_of_lay {ns : List Int} (h : PySem.W.WData.layableAll [PySem.W.WData.list (ns.map PySem.W.WData.int)] = true) : ∀ z ∈ ns, bitsI z ≤ 1048576 := fun z hz => by
  have h1 : (PySem.W.WData.list (ns.map PySem.W.WData.int)).layable = true := by simpa [PySem.W.WData.layableAll] using h
  have h2 : (PySem.W.WData.list (ns.map PySem.W.WData.int)).weight ≤ 2 ^ 20 := of_decide_eq_true (Bool.and_eq_true_iff.mp h1).2
  have h3 : (PySem.W.WData.int z).weight ≤ PySem.W.WData.weightAll (ns.map PySem.W.WData.int) := weight_mem (List.mem_map.mpr ⟨z, hz, rfl⟩)
  have h4 : (PySem.W.WData.int z).weight ≤ 1048576 := by
    have e : (2 : Nat) ^ 20 = 1048576 := by decide
    simp only [PySem.W.WData.weight] at h2
    omega
  simpa only [PySem.W.WData.weight, Builtin.Int.intBits] using h4
theorem walk_of {l : PySem.W.OpenLaw} {n k : Nat} {q : Program} {loose : List Str} {XP : (Str → Option Value) → Heap → Prop} {YP : World → Heap → Prop} {d : DefRec} {K : Params → PySem.W.Frag} {CX : World → CXT} {sp : World → Sp} {x : Str}
    (hn : l.most = some n) (hn2 : n ≤ sizeLine) (hdf : d.params.defaults = []) (hr : Room k callerA)
    (hY : ∀ (w : World) (h : Heap), YP w h → (K w.params).In h)
    (F : ∀ (w : World) (mg : Str → Option Value) (fa : Addr) (h : Heap), (K w.params).In h → h.Ns mainGlobals mg → mg d.name = some (.ref fa) →
      ∃ fd : FuncData, (∀ (s : Shared) (u : Value), BindsTo s fd ⟨[u], []⟩ [(x, u)]) ∧
        ∀ base : Heap, (K w.params).In base → base.Ns mainGlobals mg → FnOk l.prog w (K w.params) mg base (CX w) k fa fd [x] (sp w))
    (hsp : ∀ (w : World) (H : Hp) (a : Addr) (ns : List Int), ns.length ≤ n → (∀ z ∈ ns, bitsI z ≤ 1048576) → Only H → SqL (K w.params) H a (ns.map V.int) → sp w [.ref a] H (fun v _ => v = .bl true) fun _ _ _ => False)
    (hCX : ∀ (w : World) (H : Hp) (s : Shared) (e : Value) (s' : Shared), CX w [] H s (fun _ _ _ => False) e s' → False) :
    PySem.W.WalkO q loose XP YP l.row.toRowW d [] (fun f vs => PySem.call f vs) := by
  intro w s₀ s₁ mg mb G Y fa o pm cd doc dV kV ho hd hcd hD hmg hg args vals as hpre hlay hrd hwl hlo
  obtain rfl : dV = .none := PySem.W.Dflts.none hD hdf
  obtain rfl : kV = .none := PySem.W.Dflts.noKw hD
  obtain ⟨a, vs, ns, rfl, rfl, hobj, hints, hlen⟩ := Att.script_of hn hpre hwl
  have KX := hY w _ Y
  obtain ⟨fd, hb, hF⟩ := F w mg fa _ KX G.T.g hmg
  refine PySem.W.enter_call (codeAny_mono (law_call KX G.T.g G.T.b G.T.builtins G.T.nolimit hg hobj hints (Nat.le_trans hlen hn2) hr hF hb (fun H hO hS => hsp w H a ns hlen (bits_of_lay hlay) hO hS) fun H e s' => hCX w H s₁ e s') fun r s' hq => ?_)
  obtain ⟨rfl, h2, h3, h4⟩ := hq
  exact ⟨.inl ⟨.bool true, .bool true, [], rfl, fun _ => rfl, .bool true, Att.post_true l _, fun _ => ⟨List.Pairwise.nil, fun _ hm => (nomatch hm)⟩⟩, h2, h3, h4⟩
end DL
set_option Elab.async false
set_option linter.all false
set_option maxRecDepth 100000
namespace DL
open PySem PySem.Spec PyProof.Rows L2
def rCatS (K : PySem.W.Frag) : R2 := fun x y H Q => ∃ l b xs zs, x = .ref l ∧ y = .ref b ∧ SqL K H l xs ∧ SqL K H b zs ∧ xs.length + zs.length ≤ sizeLine ∧ ∀ p, H p = none → Q (.ref p) (upd H p (.lst (xs ++ zs)))
theorem op_catS {X : Cx} : OpR X (binaryOp .Add) (rCatS X.K) := by
  intro pins s σ H x y v u Q I rx ry h
  obtain ⟨l, b, xs, zs, rfl, rfl, hH, hB, hz, q⟩ := h
  cases rx
  cases ry
  obtain ⟨its, r, pl, hz1⟩ := I.list hH
  obtain ⟨its2, r2, pl2, hz2⟩ := I.list hB
  obtain ⟨⟨cls, dd, data, sl⟩, n, ho, hc, hdd, hd⟩ := pl
  obtain ⟨⟨cls2, dd2, data2, sl2⟩, n2, ho2, hc2, hdd2, hd2⟩ := pl2
  simp only at hc hd hc2 hd2
  subst hc hd hc2 hd2
  have e : its.toArray ++ its2.toArray = (its ++ its2).toArray := by simp
  have h1 := r.length
  have h2 := r2.length
  refine concat_meets ⟨_, ho, rfl⟩ ⟨_, ho2, rfl⟩ noFill_list_add seq_list_add PySem.F.slot_list_add PySem.F.entry_list_add (PySem.F.args_list_add_2 _ _) (list_addW l b its.toArray its2.toArray n n2 dd dd2 sl sl2 (by rw [List.size_toArray, List.size_toArray]; omega)) ⟨ho, ho2, ?_⟩
  rw [e]
  exact ⟨.ref _, _, I.lnew (t' := s.toks) (r.append r2) (by rw [List.length_append]; omega), rfl, q _ I.fresh⟩
def dCat : D → D → Out D
  | .lst xs, .lst ys => if fits (xs.length + ys.length) = true then .ok (.lst (xs ++ ys)) else .stuck
  | _, _ => .stuck
def dRep : D → D → Out D
  | .lst xs, .int k => if (decide (-(2 ^ 63) ≤ k) && decide (k < 2 ^ 63) && fits (xs.length * k.toNat)) = true then .ok (.lst (List.replicate k.toNat xs).flatten) else .stuck
  | _, _ => .stuck
section
variable {C : Dc} {a b : Expr} {A B : SD → Out D} {pos : Pos}
theorem df_cat (ha : DE C a A) (hb : DE C b B) : DF C (.BinOp a .Add b pos) (e2 dCat A B) := by
  obtain ⟨ta, p1, q1⟩ := ha
  obtain ⟨tb, p2, q2⟩ := hb
  refine ⟨_, pe_op op_catS p1 p2, fun G H σ ς Q S q => ?_⟩
  unfold e2 at q
  rw [Out.post_bind] at q
  refine q1 G H σ ς _ S (Out.post_mono q fun x k v1 H1 G1 S1 a1 b1 r1 => ?_)
  rw [Out.post_bind] at k
  refine q2 G1 H1 σ ς _ S1 (Out.post_mono k fun y k2 v2 H2 G2 S2 a2 b2 r2 => ?_)
  have r1' := Rep.mono b2 x v1 r1
  cases x with
  | lst xs =>
    cases y with
    | lst ys =>
      obtain ⟨p, vs, rfl, h2, h3⟩ := r1'
      obtain ⟨p', vs', rfl, h2', h3'⟩ := r2
      rcases post_ite (show (if fits (xs.length + ys.length) = true then Out.ok (D.lst (xs ++ ys)) else .stuck).post _ _ from k2) with ⟨hc, k3⟩ | ⟨_, k3⟩
      · exact ⟨p, p', vs, vs', rfl, rfl, S2.sub.seq h2, S2.sub.seq h2', by rw [← h3.length, ← h3'.length]; exact of_decide_eq_true hc,
          KF.lst (KF.later (show KF C G H σ ς Q (.lst (xs ++ ys)) from k3) (a1.trans a2) (b1.trans b2)) S2 (h3.append h3')⟩
      · exact k3.elim
    | _ => exact k2.elim
  | _ => cases y <;> exact k2.elim
theorem df_rep (ha : DF C a A) (hb : DB C b B) : DF C (.BinOp a .Mult b pos) (e2 dRep A B) := by
  obtain ⟨ta, p1, q1⟩ := ha
  obtain ⟨tb, p2, q2⟩ := hb
  refine ⟨_, pe_op op_rep p1 p2, fun G H σ ς Q S q => ?_⟩
  unfold e2 at q
  rw [Out.post_bind] at q
  refine q1 G H σ ς _ S (Out.post_mono q fun x k p H1 G1 S1 a1 b1 hp hg ow => ?_)
  rw [Out.post_bind] at k
  refine q2 G1 H1 σ ς _ S1 (Out.post_mono k fun y k2 v2 H2 G2 S2 a2 b2 r2 => ?_)
  cases x with
  | lst xs =>
    cases y with
    | int i =>
      cases r2
      obtain ⟨vs, h2, h3⟩ := ow
      rcases post_ite (show (if (decide (-(2 ^ 63) ≤ i) && decide (i < 2 ^ 63) && fits (xs.length * i.toNat)) = true then Out.ok (D.lst (List.replicate i.toNat xs).flatten) else .stuck).post _ _ from k2) with ⟨hc, k3⟩ | ⟨_, k3⟩
      · rw [Bool.and_eq_true, Bool.and_eq_true] at hc
        have h3' : RepL C.X.K C.CT G2 xs vs := RepL.mono b2 xs vs h3
        exact ⟨p, i, vs, rfl, rfl, a2 _ _ h2, of_decide_eq_true hc.1.1, of_decide_eq_true hc.1.2, by rw [← h3'.length]; exact of_decide_eq_true hc.2,
          KF.lst (KF.later (show KF C G H σ ς Q (.lst (List.replicate i.toNat xs).flatten) from k3) (a1.trans a2) (b1.trans b2)) S2 (h3'.rep i.toNat)⟩
      · exact k3.elim
    | _ => exact k2.elim
  | _ => cases y <;> exact k2.elim
end
section
variable {C : Dc} {e : Expr} {es : List Expr} {A : SD → Out (List D)} {p pos : Pos}
end
def isaT (T : String) : D → Out Bool
  | .ins _ _ => .stuck
  | .err _ => .stuck
  | .bl _ => .ok (T == "bool" || T == "int")
  | d => .ok (tyName d == T)
structure Kit (K : PySem.W.Frag) (T : String) : Prop where
  h : ∀ d : D, (match d with | .ins _ _ => True | .err _ => True | .bl _ => PySem.W.kitOne K (.type "bool") (.type T) = some (T == "bool" || T == "int") | d => PySem.W.kitOne K (.type (tyName d)) (.type T) = some (tyName d == T))
section
variable {C : Dc} {e : Expr} {E : SD → Out D} {p pc pos : Pos}
theorem de_isaB (T : Str) {T' : String} (k : Kit C.X.K T') (hgT : Gl C.X T) (hmT : C.X.mg T = none) (hb : bootBuiltins T = some (.type T')) (hg : Gl C.X "isinstance") (hm : C.X.mg "isinstance" = none) (h : DB C e E)
    (hn : T ≠ "__name__" := by decide) (hdb : (T == ("__debug__" : Str)) = false := by decide)
    (he : starEach (e :: [.Name T pc]) C.X.env = (false, eval e C.X.env) :: starEach [.Name T pc] C.X.env := by rfl) (he2 : starEach (.Name T pc :: []) C.X.env = (false, eval (.Name T pc) C.X.env) :: starEach [] C.X.env := by rfl)
    (hpl : (backTo pos (starEach [.Name T pc] C.X.env)).any (·.1) = false := by rfl) : DE C (.Call (.Name "isinstance" p) [e, .Name T pc] [] pos) (eIsa (isaT T') E) := by
  refine de_isa (vc := .ty T') (uc := .type T') (pe_bltn hgT hmT hb rfl hn hdb) rfl (fun d => ?_) hg hm h he he2 hpl
  have := k.h d
  cases d <;> first | exact True.intro | exact this
end
theorem kit_of {K : PySem.W.Frag} {T : String} (h1 : PySem.W.kitOne K (.type "NoneType") (.type T) = some ("NoneType" == T)) (h2 : PySem.W.kitOne K (.type "bool") (.type T) = some (T == "bool" || T == "int"))
    (h3 : PySem.W.kitOne K (.type "int") (.type T) = some ("int" == T)) (h4 : PySem.W.kitOne K (.type "str") (.type T) = some ("str" == T)) (h5 : PySem.W.kitOne K (.type "list") (.type T) = some ("list" == T))
    (h6 : PySem.W.kitOne K (.type "tuple") (.type T) = some ("tuple" == T)) (h7 : PySem.W.kitOne K (.type "dict") (.type T) = some ("dict" == T)) : Kit K T := ⟨fun d => by
  cases d with
  | non => exact h1
  | bl _ => exact h2
  | int _ => exact h3
  | str _ => exact h4
  | lst _ => exact h5
  | tup _ => exact h6
  | dic _ => exact h7
  | ins _ _ => exact True.intro
  | err _ => exact True.intro⟩
theorem kit_int {K : PySem.W.Frag} : Kit K "int" := kit_of (by rfl) (by rfl) (by rfl) (by rfl) (by rfl) (by rfl) (by rfl)
theorem kit_bool {K : PySem.W.Frag} : Kit K "bool" := kit_of (by rfl) (by rfl) (by rfl) (by rfl) (by rfl) (by rfl) (by rfl)
section
variable {C : Dc} {G H : Hp} {σ : St} {ς : SD}
theorem set_self {α : Type} {xs : List α} {i : Nat} {x : α} (h : xs[i]? = some x) : xs.set i x = xs := by
  obtain ⟨hi, e⟩ := List.getElem?_eq_some_iff.mp h
  rw [← e]; exact List.set_getElem_self hi
variable {a e : Expr} {A E : SD → Out D} {pos p1 p2 p3 : Pos} {x : Str}
end
end DL
set_option Elab.async false
set_option linter.all false
set_option maxRecDepth 100000
namespace DL
open PySem PySem.Spec PyProof.Rows L2
structure DIt (K : PySem.W.Frag) (CT : CTab) (G1 : Hp) (J : It) (ds : List D) : Prop where
  go : ∀ G H (i : Nat) d, Same G1 G → Same G H → ds[i]? = some d → J.go i H ∧ ∀ x H', J.yld i H x H' → ∃ G', Same G G' ∧ Same H H' ∧ Same G' H' ∧ (∀ b, G b = none → G' b ≠ none → H b = none) ∧ Rep K CT G' d x
  stop : ∀ G H, Same G1 G → Same G H → J.stop ds.length H
structure DItB (K : PySem.W.Frag) (CT : CTab) (B1 G1 : Hp) (J : It) (ds : List D) : Prop where
  go : ∀ G H (i : Nat) d, Same G1 G → Same G H → Same B1 H → ds[i]? = some d → J.go i H ∧ ∀ x H', J.yld i H x H' → ∃ G', Same G G' ∧ Same H H' ∧ Same G' H' ∧ (∀ b, G b = none → G' b ≠ none → H b = none) ∧ Rep K CT G' d x
  stop : ∀ G H, Same G1 G → Same G H → Same B1 H → J.stop ds.length H
theorem DIt.b {K : PySem.W.Frag} {CT : CTab} {B1 G1 : Hp} {J : It} {ds : List D} (h : DIt K CT G1 J ds) : DItB K CT B1 G1 J ds := ⟨fun G H i d a b _ e => h.go G H i d a b e, fun G H a b _ => h.stop G H a b⟩
def DIB (C : Dc) (tg iter : Expr) (its : SD → Out (List D)) : Prop := ∃ wi, PI C.X tg iter wi ∧ ∀ G H σ ς (R : It → Hp → Prop), StR C G H σ ς →
  (its ς).post (fun ds => ∀ J H1 G1, StR C G1 H1 σ ς → Same H H1 → Same G G1 → DItB C.X.K C.CT H1 G1 J ds → R J H1) C.XD → wi σ H R
def DI (C : Dc) (tg iter : Expr) (its : SD → Out (List D)) : Prop := ∃ wi, PI C.X tg iter wi ∧ ∀ G H σ ς (R : It → Hp → Prop), StR C G H σ ς →
  (its ς).post (fun ds => ∀ J H1 G1, StR C G1 H1 σ ς → Same H H1 → Same G G1 → DIt C.X.K C.CT G1 J ds → R J H1) C.XD → wi σ H R
section
variable {C : Dc} {e tg iter : Expr} {E : SD → Out D} {body : List Stmt} {T U : SD → Out Fl} {pos : Pos} {g : D → SD → Out SD} {its : SD → Out (List D)}
theorem DI.b (h : DI C tg iter its) : DIB C tg iter its := by
  obtain ⟨wi, p, q⟩ := h
  exact ⟨wi, p, fun G H σ ς R S k => q G H σ ς R S (Out.post_mono k fun ds kd J H1 G1 S1 a b dit => kd J H1 G1 S1 a b dit.b)⟩
theorem dit_list {K : PySem.W.Frag} {CT : CTab} {G1 : Hp} {a : Addr} {ds : List D} {vs : List V} (h : SqL K G1 a vs) (r : RepL K CT G1 ds vs) : DIt K CT G1 (Itl K a) ds where
  go := fun G H i d s1 sH hd => by
    obtain ⟨v, hv, rv⟩ := r.get hd
    have hq : SqL K H a vs := sH.seq (s1.seq h)
    refine ⟨⟨vs, v, hq, hv⟩, fun x H' ⟨e, y⟩ => ?_⟩
    have ex : vs[i]? = some x := y vs hq
    rw [hv] at ex; cases ex
    subst e
    exact ⟨G, Same.refl _, Same.refl _, sH, fun b g n => absurd g n, Rep.mono s1 d v rv⟩
  stop := fun G H s1 sH => ⟨vs, sH.seq (s1.seq h), by rw [r.length]; exact Nat.le_refl _⟩
theorem dit_range {K : PySem.W.Frag} {CT : CTab} {G1 : Hp} {lo : Int} {n : Nat} : DIt K CT G1 (Itr lo n) (rangeD lo n) where
  go := fun G H i d s1 sH hd => by
    have hi : i < n := by
      have := (List.getElem?_eq_some_iff.mp hd).1
      rw [rangeD_len] at this; exact this
    rw [rangeD_get hi] at hd; cases hd
    exact ⟨hi, fun x H' ⟨e, y⟩ => by
      subst e y
      exact ⟨G, Same.refl _, Same.refl _, sH, fun b g n => absurd g n, rfl⟩⟩
  stop := fun G H s1 sH => by rw [rangeD_len]; exact Nat.le_refl _
theorem di_list (h : DE C iter E) : DI C tg iter (itL E) := by
  obtain ⟨t, p, q⟩ := h
  refine ⟨_, pi_list p, fun G H σ ς R S k => ?_⟩
  unfold itL at k
  rw [Out.post_bind] at k
  refine q G H σ ς _ S (Out.post_mono k fun d k v H1 G1 S1 a1 b1 r1 => ?_)
  cases d with
  | lst xs =>
    obtain ⟨a, vs, rfl, h2, h3⟩ := r1
    exact ⟨a, rfl, ⟨vs, S1.sub.seq h2⟩, k _ H1 G1 S1 a1 b1 (dit_list h2 h3)⟩
  | _ => exact k.elim
theorem di_range1 {a : Expr} {A : SD → Out D} {p1 p2 : Pos} (hgl : Gl C.X "range") (hm : C.X.mg "range" = none) (ha : DB C a A)
    (hst : starEach [a] C.X.env = (false, eval a C.X.env) :: starEach [] C.X.env := by rfl) : DI C tg (.Call (.Name "range" p1) [a] [] p2) (itR1 A) := by
  obtain ⟨t, p, q⟩ := ha
  refine ⟨_, pi_range1 hgl hm (pa_cons p pa_nil hst) hst, fun G H σ ς R S k => ?_⟩
  unfold itR1 at k
  rw [Out.post_bind] at k
  refine q G H σ ς _ S (Out.post_mono k fun d k v H1 G1 S1 a1 b1 r => ?_)
  cases d with
  | int n =>
    cases r
    rcases post_ite k with ⟨hc, k⟩ | ⟨_, k⟩
    · obtain ⟨c1, c2⟩ := small62_of hc
      exact ⟨n, rfl, c1, c2, k _ H1 G1 S1 a1 b1 dit_range⟩
    · exact k.elim
  | _ => exact k.elim
theorem ds_forI (hp : PassesOwn (model C.X.prog C.X.w) C.X.A C.X.env C.X.xe) (hc : C.X.calm = true) (hi : DI C tg iter its) (hg : DG C tg g) (hne : noExc g) (hb : DSs C body T)
    (hs : ∀ x, foldedSetIterable iter C.X.env x = pure x := by intro _; rfl) : DS C (.For tg iter body [] pos) (sFor g its T) := by
  obtain ⟨t0, p0, q0⟩ := hi
  obtain ⟨t1, p1, q1⟩ := hg
  obtain ⟨t2, p2, q2⟩ := hb
  refine ⟨_, ps_for hp hc p0 p1 p2 hs, fun G H σ ς W S k => ?_⟩
  unfold sFor at k
  rw [Out.post_bind] at k
  refine q0 G H σ ς _ S (Out.post_mono k fun xs k J H1 G1 S1 a1 b1 dit => ?_)
  refine ⟨fun i m σ' H' => m = xs.length - i ∧ i ≤ xs.length ∧ ∃ G' ς', StR C G' H' σ' ς' ∧ Same G1 G' ∧ (loopD (fun x ς => g x ς >>= fun ς' => T ς') (xs.drop i) ς').post (FlK C G' W) C.XD,
    ⟨xs.length, by simp, Nat.zero_le _, G1, ς, S1, Same.refl _, Out.post_mono (by simpa using k) fun f k => FlK.later k b1⟩, ?_⟩
  rintro i m σ' H' ⟨rfl, hle, G', ς', S', s', q'⟩
  by_cases hlt : i < xs.length
  · have hd : xs[i]? = some xs[i] := by simp [hlt]
    obtain ⟨hgo, hy⟩ := dit.go G' H' i _ s' S'.sub hd
    refine .inr ⟨hgo, fun σ2 H2 => ∃ G2 ς2, StR C G2 H2 σ2 ς2 ∧ Same G1 G2 ∧ (loopD (fun x ς => g x ς >>= fun ς' => T ς') (xs.drop (i + 1)) ς2).post (FlK C G2 W) C.XD,
      fun σ2 H2 h2 => ⟨xs.length - (i + 1), by omega, rfl, hlt, h2⟩, fun x H'' y => ?_⟩
    obtain ⟨G'', g1, h1, s1, n1, r⟩ := hy x H'' y
    rw [drop_cons hd] at q'
    exact turnD hne q1 q2 (S'.grow h1 g1 s1 n1) r (Out.post_mono q' fun f k => FlK.later k g1) fun σ2 H2 G2 ς2 S2 s2 q2 => ⟨G2, ς2, S2, (s'.trans g1).trans s2, q2⟩
  · have e : i = xs.length := by omega
    subst e
    rw [List.drop_length] at q'
    exact .inl ⟨dit.stop G' H' s' S'.sub, q' σ' H' G' S' (Same.refl _)⟩
end
section
variable {C : Dc} {G H : Hp} {σ : St} {ς : SD}
variable {N' : List Str} {js : List (Option Nat)} {scope : Scope} {tg iter elt : Expr} {ifs : List Expr} {its : SD → Out (List D)} {g : D → SD → Out SD} {c : SD → Out Bool} {e : SD → Out D} {pos : Pos}
variable {i : Nat} {x : Str} {px spos : Pos}
end
end DL
set_option Elab.async false
set_option linter.all false
set_option maxRecDepth 100000
namespace L2
open PySem PySem.Spec PyProof.Rows
section
variable {X : Cx} {tg : Expr}
end
end L2
namespace DL
open PySem PySem.Spec PyProof.Rows L2
section
variable {C : Dc} {e tg iter a b : Expr} {E A B : SD → Out D} {pos p : Pos} {es : List Expr} {AA : SD → Out (List D)}
theorem pe_dnew0 {X : Cx} : PE X (.Dict [] [] pos) (fun _ H Q => ∀ p, H p = none → Q (.ref p) (upd H p (.dK []))) := fun pins s σ H Q I h => by
  have hb : sysModules < s.heap.objs.size := Nat.lt_trans (by decide) (show mainGlobals < s.heap.objs.size from (I.mod.glob.keeps I.bk).lt)
  exact wpAny_Dict_empty ⟨.ref s.heap.objs.size, _, I.laid (a := s.heap.objs.size) (o := .dK []) (t' := s.toks) (fun _ _ q => Heap.get?_push_of_some _ q) (Nat.le_refl _)
    ⟨Nat.zero_le _, beq_eq_false_iff_ne.mpr (Ne.symm (Nat.ne_of_lt hb)), [], .nil, Heap.DictOf.new s.heap⟩, rfl, h _ (I.hok.fresh (Nat.le_refl _))⟩
def eDic0 : SD → Out D := fun _ => .ok (.dic [])
theorem df_dic0 : DF C (.Dict [] [] pos) eDic0 := ⟨_, pe_dnew0, fun G H σ ς Q S q p hp => by
  have q : KF C G H σ ς Q (.dic []) := q
  exact q p _ G (S.allocO hp) (same_upd hp) (Same.refl _) hp (S.gnone hp) ⟨[], upd_same, rfl⟩⟩
end
end DL
set_option Elab.async false
set_option linter.all false
set_option maxRecDepth 100000
namespace DL
open PySem PySem.Spec PyProof.Rows L2
def ctOf (K : PySem.W.Frag) : CTab := fun c => match PySem.W.nsIn K mainGlobals c with | some (some (.ref a)) => some a | _ => none
abbrev Dc.nox (C : Dc) : Dc := { C with X := C.X.nox, XD := fun _ => False }
section
variable {C : Dc} {G H : Hp} {σ : St} {ς : SD} {e : Expr} {es : List Expr} {st : Stmt} {sts : List Stmt}
theorem GH.nox (S : GH C G H) : GH C.nox G H := ⟨S.sub, S.g0, S.new, S.fr, S.dom, S.bs, S.bh⟩
theorem GH.unnox (S : GH C.nox G H) : GH C G H := ⟨S.sub, S.g0, S.new, S.fr, S.dom, S.bs, S.bh⟩
theorem StR.nox (S : StR C G H σ ς) : StR C.nox G H σ ς := ⟨S.toGH.nox, S.len, S.fz, S.ow, S.ln, S.inj, S.sf, S.su⟩
theorem StR.unnox (S : StR C.nox G H σ ς) : StR C G H σ ς := ⟨S.toGH.unnox, S.len, S.fz, S.ow, S.ln, S.inj, S.sf, S.su⟩
theorem FlK.nox {W : Ends} {f : Fl} (h : FlK C G W f) : FlK C.nox G W f := by
  cases f with
  | nx ς => exact fun σ' H' G' S q => h σ' H' G' S.unnox q
  | bk ς => exact fun σ' H' G' S q => h σ' H' G' S.unnox q
  | ct ς => exact fun σ' H' G' S q => h σ' H' G' S.unnox q
  | rt b d => exact fun v H' G' S q r => h v H' G' S.unnox q r
variable {x : Str} {k : Nat} {fr : Bool} {dd : List D} {m : List D → Out D} {A : SD → Out (List D)} {p pos : Pos} {E : XK}
end
end DL
set_option Elab.async false
set_option linter.all false
set_option maxRecDepth 100000
namespace DL
open PySem PySem.Spec PyProof.Rows L2
section
variable {C : Dc} {x : Str} {k : Nat} {fr : Bool} {dd : List D} {m : List D → Out D} {e : Expr} {es : List Expr} {A : SD → Out (List D)} {p pos : Pos}
variable {T U : SD → Out FX} {TE : SD → Out EX} {st : Stmt} {sts rest : List Stmt} {i : Nat} {px : Pos}
section
variable {G H : Hp} {σ : St} {ς : SD} {ea : Addr}
end
end
end DL
set_option Elab.async false
set_option linter.all false
set_option maxRecDepth 100000
namespace L2
open PySem PySem.Spec PyProof.Rows
end L2
namespace DL
open PySem PySem.Spec PyProof.Rows L2
section
variable {C : Dc} {pos p : Pos} {e cx : Expr} {E : SD → Out D}
end
end DL
set_option Elab.async false
set_option linter.all false
set_option maxRecDepth 100000
namespace L2
open PySem PySem.Spec PyProof.Rows
section
variable {X : Cx}
end
end L2
namespace DL
open PySem PySem.Spec PyProof.Rows L2
section
variable {C : Dc} {a b : Expr} {A B : SD → Out D}
end
end DL
set_option Elab.async false
set_option linter.all false
set_option maxRecDepth 100000
namespace DL
open PySem PySem.Spec PyProof.Rows L2
section
variable {K : PySem.W.Frag} {CT : CTab} {H H' : Hp}
theorem RepF.len : ∀ {fds : List (Str × D)} {fs : List (Str × V)}, RepF K CT H fds fs → fds.length = fs.length
  | [], _, h => by cases h; rfl
  | (k, d) :: fds, _, ⟨v, r, h1, h2, h3⟩ => by subst h1; rw [List.length_cons, List.length_cons, RepF.len h3]
end
section
variable {C : Dc} {e : Expr} {E : SD → Out D} {f : Str} {cs : List Str} {pos : Pos}
end
end DL
set_option Elab.async false
set_option linter.all false
set_option maxRecDepth 100000
namespace L2
open PySem PySem.Spec PyProof.Rows
section
variable {X : Cx} {CX : CXT} {k : Nat} {m : Str} {dvs : List V} {E : XK} {o e : Expr} {es : List Expr} {ta : TE} {t : TA} {apos pos : Pos} {cs : Addr → Sp → Prop}
end
end L2
namespace DL
open PySem PySem.Spec PyProof.Rows L2
end DL
set_option Elab.async false
set_option linter.all false
set_option maxRecDepth 100000
namespace DL
open PySem PySem.Spec PyProof.Rows L2
section
variable {C : Dc} {E : XK} {c : Str} {A f : Addr} {fd : FuncData} {ps : List Str} {ds : List Value} {dd : List D} {k : Nat} {m : Str → List (Str × D) → List D → Out (List (Str × D))} {e : Expr} {es : List Expr} {AA : SD → Out (List D)} {p pos : Pos}
end
section
variable {C : Dc} {name : Str} {k : Nat} {cs : List Str} {fr : Bool} {mt : Str → List D → Out D} {o e : Expr} {es : List Expr} {O : SD → Out D} {AA : SD → Out (List D)} {apos pos : Pos}
end
end DL
set_option Elab.async false
set_option linter.all false
set_option maxRecDepth 100000
namespace DL
open PySem PySem.Spec PyProof.Rows L2
section
variable {C : Dc} {name : Str} {k : Nat} {cs : List Str} {mt : Str → List D → Out D} {o e : Expr} {es : List Expr} {O : SD → Out D} {AA : SD → Out (List D)} {apos pos : Pos}
variable {E : XK} {m : Str → List (Str × D) → List D → Out (List (Str × D))} {x : Str} {px spos : Pos}
end
end DL
set_option Elab.async false
set_option linter.all false
set_option maxRecDepth 100000
namespace DL
open PySem PySem.Spec PyProof.Rows L2
section
variable {C : Dc} {pos p : Pos} {e cx : Expr} {E : SD → Out D}
end
section
variable {C : Dc} {pos px : Pos} {b : Expr} {B : SD → Out D} {x f : Str} {cs : List Str}
end
end DL
set_option Elab.async false
set_option linter.all false
set_option maxRecDepth 100000
namespace L2
open PySem PySem.Spec PyProof.Rows
section
variable {X : Cx}
end
end L2
namespace DL
open PySem PySem.Spec PyProof.Rows L2
section
variable {C : Dc} {a : Expr} {A : SD → Out D}
end
end DL
set_option Elab.async false
set_option linter.all false
set_option maxRecDepth 100000
namespace L2
open PySem PySem.Spec PyProof.Rows
section
variable {X : Cx}
end
end L2
namespace DL
open PySem PySem.Spec PyProof.Rows L2
section
variable {C : Dc} {o e : Expr} {O E : SD → Out D} {apos cpos : Pos}
end
end DL
set_option Elab.async false
set_option linter.all false
set_option maxRecDepth 100000
namespace L2
open PySem PySem.Spec PyProof.Rows
section
variable {X : Cx} {k : Nat} {f ea : Addr} {fd : FuncData} {ps : List Str} {sp : Sp} {dvs : List V} {ds : List Value} {x : Str} {p pos : Pos} {e : Expr} {es : List Expr} {t : TA}
end
end L2
namespace DL
open PySem PySem.Spec PyProof.Rows L2
section
variable {C : Dc} {ea : Addr} {x : Str} {k : Nat} {m : List D → Out D} {e : Expr} {es : List Expr} {A : SD → Out (List D)} {p pos : Pos}
end
end DL
set_option Elab.async false
set_option linter.all false
set_option maxRecDepth 100000
namespace L2
open PySem PySem.Spec PyProof.Rows
section
variable {X : Cx} {tg : Expr}
end
end L2
namespace DL
open PySem PySem.Spec PyProof.Rows L2
section
variable {C : Dc} {a b c e : Expr} {es : List Expr} {A B E : SD → Out D} {AA : SD → Out (List D)} {tg : Expr} {p pos : Pos}
end
end DL
set_option Elab.async false
set_option linter.all false
set_option maxRecDepth 100000
namespace LS
open PySem PySem.Spec PyProof.Rows
section
variable {pg : Program} {wd : World}
variable {ar : Around} {Res : Result → Shared → Prop} {it : Addr} {ff wt : List Addr} {Gn : Array GenState → Array GenState → Prop} {n : Nat} {Pv : Nat → Value → Prop} {Sv : Nat → Shared → Prop}
end
section
variable {pg : Program} {wd : World} {ar : Around} {Ex : Value → Shared → Prop} {st : Shared}
end
end LS
set_option Elab.async false
set_option linter.all false
set_option maxRecDepth 100000
namespace DL
open PySem PySem.Spec PyProof.Rows L2
def dkey : D → Option Key
  | .int i => some (.inl i)
  | .str x => some (.inr x)
  | _ => none
def valD (kds : List (Key × D)) (k : Key) : Option D := (kds.find? fun kv => decide (kv.1 = k)).map (·.2)
def putKD (kds : List (Key × D)) (k : Key) (d : D) : List (Key × D) :=
  if (kds.any fun kv => decide (kv.1 = k)) = true then kds.map (fun kv => if kv.1 = k then (kv.1, d) else kv) else kds ++ [(k, d)]
section
variable {K : PySem.W.Frag} {CT : CTab} {H : Hp}
theorem dkey_rep {d : D} {v : V} {k : Key} (h : dkey d = some k) (r : Rep K CT H d v) : v = kV k := by
  cases d with
  | int i => cases h; exact r
  | str x => cases h; exact r
  | _ => cases h
theorem RepK.len : ∀ {ds : List (Key × D)} {vs : List (Key × V)}, RepK K CT H ds vs → ds.length = vs.length
  | [], _, h => by cases h; rfl
  | (k, d) :: ds, _, ⟨v, r, h1, h2, h3⟩ => by rw [h1, List.length_cons, List.length_cons, RepK.len h3]
theorem RepK.val (k : Key) : ∀ {ds : List (Key × D)} {vs : List (Key × V)}, RepK K CT H ds vs → (valD ds k = none ∧ valV vs k = none) ∨ ∃ d v, valD ds k = some d ∧ valV vs k = some v ∧ Rep K CT H d v
  | [], _, h => by cases h; exact .inl ⟨rfl, rfl⟩
  | (k', d) :: ds, _, ⟨v, r, h1, h2, h3⟩ => by
    subst h1
    by_cases e : k' = k
    · subst e
      exact .inr ⟨d, v, by simp [valD], by simp [valV], h2⟩
    · have a : valD ((k', d) :: ds) k = valD ds k := by simp [valD, List.find?_cons, e]
      have b : valV ((k', v) :: r) k = valV r k := by simp [valV, List.find?_cons, e]
      rw [a, b]; exact RepK.val k h3
theorem RepK.any (k : Key) : ∀ {ds : List (Key × D)} {vs : List (Key × V)}, RepK K CT H ds vs → (ds.any fun kv => decide (kv.1 = k)) = vs.any fun kv => decide (kv.1 = k)
  | [], _, h => by cases h; rfl
  | (k', d) :: ds, _, ⟨v, r, h1, h2, h3⟩ => by
    subst h1
    rw [List.any_cons, List.any_cons, RepK.any k h3]
theorem RepK.repl (k : Key) {d : D} {v : V} (hd : Rep K CT H d v) : ∀ {ds : List (Key × D)} {vs : List (Key × V)}, RepK K CT H ds vs → RepK K CT H (ds.map fun kv => if kv.1 = k then (kv.1, d) else kv) (vs.map fun kv => if kv.1 = k then (kv.1, v) else kv)
  | [], _, h => by cases h; rfl
  | (k', d') :: ds, _, ⟨v', r, h1, h2, h3⟩ => by
    subst h1
    rw [List.map_cons, List.map_cons]
    by_cases e : k' = k
    · rw [if_pos (show (k', d').1 = k from e), if_pos (show (k', v').1 = k from e)]
      exact ⟨v, _, rfl, hd, RepK.repl k hd h3⟩
    · rw [if_neg (show ¬ (k', d').1 = k from e), if_neg (show ¬ (k', v').1 = k from e)]
      exact ⟨v', _, rfl, h2, RepK.repl k hd h3⟩
theorem RepK.snoc (k : Key) {d : D} {v : V} (hd : Rep K CT H d v) : ∀ {ds : List (Key × D)} {vs : List (Key × V)}, RepK K CT H ds vs → RepK K CT H (ds ++ [(k, d)]) (vs ++ [(k, v)])
  | [], _, h => by cases h; exact ⟨v, [], rfl, hd, rfl⟩
  | (k', d') :: ds, _, ⟨v', r, h1, h2, h3⟩ => by
    subst h1
    exact ⟨v', _, rfl, h2, RepK.snoc k hd h3⟩
theorem RepK.put (k : Key) {d : D} {v : V} (hd : Rep K CT H d v) {ds : List (Key × D)} {vs : List (Key × V)} (h : RepK K CT H ds vs) : RepK K CT H (putKD ds k d) (putK vs k v) := by
  unfold putKD putK
  rw [RepK.any k h]
  split
  · exact RepK.repl k hd h
  · exact RepK.snoc k hd h
end
def eDix (A B : SD → Out D) : SD → Out D := fun ς => A ς >>= fun x => match x with
  | .dic kds => B ς >>= fun y => match dkey y with | some k => optO (valD kds k) | none => .stuck
  | _ => .stuck
def sPutD (i : Nat) (I E : SD → Out D) : SD → Out Fl := fun ς => E ς >>= fun d => match ς[i]? with
  | some (some (.o, .dic kds)) => I ς >>= fun y => match dkey y with
    | some k => if decide (kds.length < sizeLine) = true then .ok (.nx (ς.set i (some (.o, .dic (putKD kds k d))))) else .stuck
    | none => .stuck
  | _ => .stuck
section
variable {C : Dc} {a b c : Expr} {A B Z : SD → Out D} {pos apos : Pos}
theorem de_dix (hu : C.X.A.units + 64 < cLine) (ha : DE C a A) (hb : DB C b B) (hs : NoSl b := by intro _ _; rfl) : DE C (.Subscript a b pos) (eDix A B) := by
  obtain ⟨ta, p1, q1⟩ := ha
  obtain ⟨tb, p2, q2⟩ := hb
  refine ⟨_, pe_dget (by omega) p1 p2 hs, fun G H σ ς Q S q => ?_⟩
  unfold eDix at q
  rw [Out.post_bind] at q
  refine q1 G H σ ς _ S (Out.post_mono q fun x k v1 H1 G1 S1 a1 b1 r1 => ?_)
  cases x with
  | dic kds =>
    have k : (B ς >>= fun y => match dkey y with | some k => optO (valD kds k) | none => .stuck).post (KD C G H σ ς Q) C.XD := k
    rw [Out.post_bind] at k
    refine q2 G1 H1 σ ς _ S1 (Out.post_mono k fun y k2 v2 H2 G2 S2 a2 b2 r2 => ?_)
    cases e : dkey y with
    | none => rw [e] at k2; exact k2.elim
    | some kk =>
      rw [e] at k2
      obtain ⟨d, ed, kd⟩ := post_opt k2
      obtain ⟨p, kvs, rfl, h2, h3⟩ := Rep.mono b2 _ v1 r1
      rcases RepK.val kk h3 with ⟨n1, n2⟩ | ⟨d', v, n1, n2, r⟩
      · rw [n1] at ed; cases ed
      · rw [n1] at ed; cases ed
        exact ⟨p, v, rfl, .inl ⟨kvs, kk, Same.rd S2.sub h2, dkey_rep e r2, n2.symm⟩, KD.now (KD.later kd (a1.trans a2) (b1.trans b2)) S2 r⟩
  | _ => exact k.elim
theorem db_dix (hu : C.X.A.units + 64 < cLine) (ha : DB C a A) (hb : DB C b B) (hs : NoSl b := by intro _ _; rfl) : DB C (.Subscript a b pos) (eDix A B) := by
  obtain ⟨ta, p1, q1⟩ := ha
  obtain ⟨tb, p2, q2⟩ := hb
  refine ⟨_, pe_dget (by omega) p1 p2 hs, fun G H σ ς Q S q => ?_⟩
  unfold eDix at q
  rw [Out.post_bind] at q
  refine q1 G H σ ς _ S (Out.post_mono q fun x k v1 H1 G1 S1 a1 b1 r1 => ?_)
  cases x with
  | dic kds =>
    have k : (B ς >>= fun y => match dkey y with | some k => optO (valD kds k) | none => .stuck).post (KB C G H σ ς Q) C.XD := k
    rw [Out.post_bind] at k
    refine q2 G1 H1 σ ς _ S1 (Out.post_mono k fun y k2 v2 H2 G2 S2 a2 b2 r2 => ?_)
    cases e : dkey y with
    | none => rw [e] at k2; exact k2.elim
    | some kk =>
      rw [e] at k2
      obtain ⟨d, ed, kd⟩ := post_opt k2
      obtain ⟨p, kvs, rfl, h2, h3⟩ := Rep.mono a2 _ v1 r1
      rcases RepK.val kk h3 with ⟨n1, n2⟩ | ⟨d', v, n1, n2, r⟩
      · rw [n1] at ed; cases ed
      · rw [n1] at ed; cases ed
        exact ⟨p, v, rfl, .inl ⟨kvs, kk, h2, dkey_rep e r2, n2.symm⟩, KB.now (KB.later kd (a1.trans a2) (b1.trans b2)) S2 r⟩
  | _ => exact k.elim
theorem StR.writeD {G H : Hp} {σ : St} {ς : SD} (S : StR C G H σ ς) {i : Nat} {p : Addr} {xs ys : List (Key × D)} {vs ws : List (Key × V)} (hi : ς[i]? = some (some (.o, .dic xs))) (hp : σ[i]? = some (some (.ref p))) (hH : H p = some (.dK vs)) (r : RepK C.X.K C.CT G ys ws) :
    StR C G (upd H p (.dK ws)) σ (ς.set i (some (.o, .dic ys))) := by
  obtain ⟨p', e1, hg, h0, ow⟩ := S.ow i _ hi
  rw [hp] at e1; cases e1
  have hil : i < ς.length := (List.getElem?_eq_some_iff.mp hi).1
  have ne : ∀ b o, G b = some o → b ≠ p := fun b o e z => by subst z; rw [hg] at e; cases e
  have S' : StR C G (upd H p (.dK ws)) (σ.set i (some (.ref p))) (ς.set i (some (.o, .dic ys))) := {
    sub := fun b o e => by rw [upd_ne (ne b o e)]; exact S.sub b o e
    g0 := S.g0
    new := S.new
    fr := fun b o e m => by
      rw [upd_ne (by rintro rfl; rw [h0] at e; cases e)]; exact S.fr b o e m
    dom := fun b e => by
      by_cases hb : b = p
      · subst hb; exact h0
      · rw [upd_ne hb] at e; exact S.dom b e
    bs := fun b o e => by
      rw [upd_ne (by rintro rfl; rw [S.bh _ h0] at e; cases e)]; exact S.bs b o e
    bh := S.bh
    len := by rw [List.length_set, List.length_set]; exact S.len
    fz := fun j d h => by
      rcases get_set h with ⟨rfl, h2, l⟩ | ⟨hne, h2⟩
      · cases h2
      · rw [set_get_ne hne]; exact S.fz j d h2
    ow := fun j d h => by
      rcases get_set h with ⟨rfl, h2, l⟩ | ⟨hne, h2⟩
      · cases h2
        exact ⟨p, set_get (by rw [S.len]; exact l), hg, h0, ⟨ws, upd_same, r⟩⟩
      · rw [set_get_ne hne]
        obtain ⟨q, a, b, c, w⟩ := S.ow j d h2
        have qp : q ≠ p := by
          rintro rfl
          exact S.inj i j _ _ q hne hi h2 hp a
        exact ⟨q, a, b, c, w.mono (Same.refl G) fun o z => by rw [upd_ne qp]; exact z⟩
    ln := fun j d h => by
      rcases get_set h with ⟨rfl, h2, l⟩ | ⟨hne, h2⟩
      · cases h2
      · rw [set_get_ne hne]; exact S.ln j d h2
    inj := fun j k d1 d2 q hjk h1 h2 h3 => by
      have get : ∀ (j : Nat) d, (ς.set i (some (.o, D.dic ys)))[j]? = some (some (.o, d)) → ∃ d', ς[j]? = some (some (.o, d')) := fun j d h => by
        rcases get_set h with ⟨rfl, h2, l⟩ | ⟨hne, h2⟩
        · exact ⟨_, hi⟩
        · exact ⟨_, h2⟩
      obtain ⟨d1', g1⟩ := get j d1 h1
      obtain ⟨d2', g2⟩ := get k d2 h2
      rw [set_self hp] at h3 ⊢
      exact S.inj j k d1' d2' q hjk g1 g2 h3
    sf := fun j d h => by
      rcases get_set h with ⟨rfl, h2, l⟩ | ⟨hne, h2⟩
      · cases h2
      · rw [set_get_ne hne]
        obtain ⟨q, a, b, c, m, z, w⟩ := S.sf j d h2
        have qp : q ≠ p := by
          rintro rfl
          exact c h0
        exact ⟨q, a, b, c, m, z, w.mono (Same.refl G) fun o z => by rw [upd_ne qp]; exact z⟩
    su := fun j k d1 d2 h1 h2 => by
      rcases get_set h1 with ⟨rfl, q1, l⟩ | ⟨n1, q1⟩
      · cases q1
      · rcases get_set h2 with ⟨rfl, q2, l⟩ | ⟨n2, q2⟩
        · cases q2
        · exact S.su j k d1 d2 q1 q2 }
  rw [set_self hp] at S'
  exact S'
variable {e : Expr} {E : SD → Out D} {p1 p2 : Pos} {x : Str}
theorem ds_putD (hu : C.X.A.units + 64 < cLine) (i : Nat) (hi : DB C a A) (he : DE C e E) (hN : C.X.N[i]? = some x := by rfl) (hv : Vis C.X.env.scope x := by first | exact Or.inl rfl | exact Or.inr (Or.inl rfl) | exact Or.inr (Or.inr rfl))
    (hd : (x == ("__debug__" : Str)) = false := by decide) (hcd : (x == ("__classdict__" : Str)) = false := by decide)
    (hs : swapsWith e (some (.Subscript (.Name x p1) a p2)) pos.line C.X.env = pure false := by rfl) : DS C (.Assign [.Subscript (.Name x p1) a p2] e pos) (sPutD i A E) := by
  obtain ⟨t, p, q⟩ := he
  obtain ⟨t2, p2', q2⟩ := hi
  refine ⟨_, ps_dput (by omega) (pe_var (i := i) hN hv hd hcd) p2' p hs, fun G H σ ς W S k => ?_⟩
  unfold sPutD at k
  rw [Out.post_bind] at k
  refine q G H σ ς _ S (Out.post_mono k fun d k v H1 G1 S1 a1 b1 r1 => ?_)
  split at k
  · rename_i kds z
    obtain ⟨pp, e1, hg, h0, ow⟩ := S1.ow i _ z
    rw [Out.post_bind] at k
    refine ⟨_, e1, q2 G1 H1 σ ς _ S1 (Out.post_mono k fun y k2 w H2 G2 S2 a2 b2 r2 => ?_)⟩
    cases ey : dkey y with
    | none => rw [ey] at k2; exact k2.elim
    | some kk =>
      rw [ey] at k2
      obtain ⟨pp', e1', hg', h0', kvs, hv1, hv2⟩ := S2.ow i _ z
      rw [e1] at e1'; cases e1'
      rcases post_ite k2 with ⟨hc, k3⟩ | ⟨_, k3⟩
      · refine ⟨pp, _, rfl, .inl ⟨kvs, kk, hv1, dkey_rep ey r2, by rw [← hv2.len]; exact of_decide_eq_true hc, rfl⟩, ?_⟩
        exact k3 σ _ G2 (S2.writeD z e1 hv1 (RepK.put kk (Rep.mono b2 d v r1) hv2)) (b1.trans b2)
      · exact k3.elim
  · exact k.elim
end
end DL
set_option Elab.async false
set_option linter.all false
set_option maxRecDepth 100000
namespace DL
open PySem PySem.Spec PyProof.Rows L2
section
variable {X : Cx} {e : Expr} {te : TA} {p1 p2 p3 pos : Pos}
end
section
variable {C : Dc} {a : Expr} {A : SD → Out D} {p1 p2 p3 pos : Pos}
end
end DL
set_option Elab.async false
set_option linter.all false
set_option maxRecDepth 100000
namespace DL
open PySem PySem.Spec PyProof.Rows L2
section
variable {C : Dc} {e : Expr} {E : SD → Out D} {p pos tp1 : Pos} {cs : List Expr}
end
end DL
set_option Elab.async false
set_option linter.all false
set_option maxRecDepth 100000
namespace DL
open PySem PySem.Spec PyProof.Rows L2
section
variable {C : Dc} {a b : Expr} {A B : SD → Out D} {pos : Pos}
end
end DL
set_option Elab.async false
set_option linter.all false
set_option maxRecDepth 100000
namespace DL
open PySem PySem.Spec PyProof.Rows L2
section
variable {C : Dc} {a b : Expr} {A B : SD → Out D} {pos : Pos}
end
end DL
set_option Elab.async false
set_option linter.all false
set_option maxRecDepth 100000
namespace DL
open PySem PySem.Spec PyProof.Rows L2
section
variable {C : Dc} {e : Expr} {E : SD → Out D} {pos p1 p2 p3 : Pos} {x : Str}
end
end DL
set_option Elab.async false
set_option linter.all false
set_option maxRecDepth 100000
namespace DL
open PySem PySem.Spec PyProof.Rows L2
def kD : Key → D
  | .inl i => .int i
  | .inr x => .str x
def scalK (kds : List (Key × D)) : Bool := kds.all fun kv => kv.2.scal
def intsK : List (Key × D) → Option (List (Key × Int))
  | [] => some []
  | (k, .int i) :: r => (intsK r).map fun q => (k, i) :: q
  | _ => none
abbrev ivs (xs : List (Key × Int)) : List (Key × V) := xs.map fun kv => (kv.1, V.int kv.2)
section
variable {K : PySem.W.Frag} {CT : CTab} {G H : Hp}
theorem RepK.flat : ∀ {ds : List (Key × D)} {vs : List (Key × V)}, scalK ds = true → RepK K CT H ds vs → RepK K CT G ds vs
  | [], _, _, r => by cases r; rfl
  | (k, d) :: ds, _, h, ⟨v, r, h1, h2, h3⟩ => by
    have h : (d.scal && scalK ds) = true := h
    rw [Bool.and_eq_true] at h
    exact ⟨v, r, h1, Rep.scal h.1 h2, RepK.flat h.2 h3⟩
theorem RepK.keys : ∀ {ds : List (Key × D)} {vs : List (Key × V)}, RepK K CT H ds vs → RepL K CT G (ds.map fun kv => kD kv.1) (vs.map fun kv => kV kv.1)
  | [], _, r => by cases r; rfl
  | (k, d) :: ds, _, ⟨v, r, h1, h2, h3⟩ => by
    subst h1
    exact ⟨kV k, _, rfl, (by cases k <;> rfl), RepK.keys h3⟩
theorem RepK.ints : ∀ {ds : List (Key × D)} {vs : List (Key × V)} {xs : List (Key × Int)}, intsK ds = some xs → RepK K CT H ds vs → vs = ivs xs
  | [], _, xs, h, r => by
    have h : some [] = some xs := h
    cases h; cases r; rfl
  | (k, d) :: ds, _, xs, h, ⟨v, r, h1, h2, h3⟩ => by
    cases d with
    | int i =>
      have h : (intsK ds).map (fun q => (k, i) :: q) = some xs := h
      cases hq : intsK ds with
      | none => rw [hq] at h; cases h
      | some q =>
        rw [hq] at h
        cases h
        cases h2
        rw [h1, RepK.ints hq h3]
        rfl
    | _ => cases h
end
theorem vals_of : ∀ {xs : List V} {us : List Value}, xs.length = us.length → (∀ (j : Nat) (u : Value), us[j]? = some u → ∃ x, xs[j]? = some x ∧ RelV x u) → Vals xs us
  | [], [], _, _ => .nil
  | [], _ :: _, h, _ => by cases h
  | _ :: _, [], h, _ => by cases h
  | x :: xs, u :: us, hl, h => by
    obtain ⟨y, e, r⟩ := h 0 u rfl
    cases e
    exact .cons r (vals_of (by simpa using hl) fun j v e => h (j + 1) v e)
theorem call_dict_of {X : Cx} : CallR X (.type "dict") (fun xs H Q => ∃ a kvs, xs = [.ref a] ∧ Rd H a (.dK kvs) ∧ ∀ p, H p = none → Q (.ref p) (upd H p (.dK kvs))) := by
  intro pins s σ H xs us Q I r h
  obtain ⟨a, kvs, rfl, e, q⟩ := h
  obtain ⟨u, rfl, rx⟩ := vals1 r
  cases rx
  exact d_copyOf I e fun p s' hp I' => ⟨.ref p, _, I', rfl, q p hp⟩
theorem call_list_dict {X : Cx} (hh : X.A.handled = none) : CallR X (.type "list") (fun xs H Q => ∃ a kvs, xs = [.ref a] ∧ Rd H a (.dK kvs) ∧ ∀ l, H l = none → Q (.ref l) (upd H l (.lst (kvs.map fun kv => kV kv.1)))) := by
  intro pins s σ H xs us Q I r h
  obtain ⟨a, kvs, rfl, e, q⟩ := h
  obtain ⟨u, rfl, rx⟩ := vals1 r
  cases rx
  obtain ⟨z, hd, vs, rel, dd⟩ := dk_rd I.hok e
  obtain ⟨ep, da⟩ := dd.dictAt
  refine PySem.W.kdl_call (PySem.W.kdl_dict hd) hh da (by rw [← rel.length]; exact z) fun h' tk acc' c' kp e' hacc => ?_
  have hk : (kvs.map fun kv => kV kv.1) = (vs.map (·.1)).map kV := by rw [← rel.keys, List.map_map]; rfl
  have hv : Vals (kvs.map fun kv => kV kv.1) acc'.toList := by
    refine vals_of (by have h1 := rel.length; have h2 := hacc.1; rw [List.length_map]; show kvs.length = acc'.toList.length; rw [h1, ← h2]; simp) fun j u eu => ?_
    obtain ⟨k, x, ek, hi⟩ := hacc.2 j u (by rw [← Array.getElem?_toList]; exact eu)
    refine ⟨kV k, by rw [hk, List.getElem?_map, List.getElem?_map, ek]; rfl, ?_⟩
    rcases keyIs_shape hi with ⟨i, t, rfl, rfl⟩ | ⟨x, t, rfl, rfl⟩
    · exact ⟨t, rfl⟩
    · exact ⟨t, rfl⟩
  exact ⟨.ref s.heap.objs.size, _, I.laid (t' := tk) kp (Nat.le_refl _) (show ObjOk X.prog X.w _ h' _ (.lst (kvs.map fun kv => kV kv.1)) from ⟨by rw [List.length_map]; exact z, acc'.toList, c', hv, by simpa using e'⟩), rfl, q _ (I.hok.fresh (Nat.le_refl _))⟩
def rNeK : R2 := fun vx vy H Q => ∃ a b xs, vx = .ref a ∧ vy = .ref b ∧ Rd H a (.dK (ivs xs)) ∧ Rd H b (.dK (ivs xs)) ∧ Q (.bl false) H
theorem valV_mem {k : Key} {v : V} : ∀ {kvs : List (Key × V)}, (kvs.map (·.1)).Nodup → (k, v) ∈ kvs → valV kvs k = some v
  | (k', v') :: r, hn, hm => by
    rw [List.map_cons, List.nodup_cons] at hn
    rcases List.mem_cons.mp hm with e | hm
    · cases e; exact valV_pos rfl
    · rw [valV_neg (fun e => hn.1 (by
        have e : k' = k := e
        rw [show ((k', v') : Key × V).1 = k from e]
        exact List.mem_map.mpr ⟨_, hm, rfl⟩))]
      exact valV_mem hn.2 hm
theorem hits_of {A : Around} {s : Shared} {vb : List (Key × Value)} : ∀ {zs : List (Key × Int)} {va : List (Key × Value)}, KV (ivs zs) va → (∀ k i, (k, i) ∈ zs → ∃ t, valueAt vb k = some (.int i t)) → PySem.W.KeqHits A s vb va true
  | [], _, rel, _ => by cases rel; exact .nil
  | (k, i) :: zs, _, rel, h => by
    cases rel with
    | cons r1 r2 =>
      rename_i p va
      obtain ⟨k', v⟩ := p
      obtain ⟨e, t, e2⟩ := r1
      have e : k = k' := e
      have e2 : v = .int i t := e2
      subst e; subst e2
      obtain ⟨t', hy⟩ := h k i List.mem_cons_self
      have he : SeqAt.EqAt A s (.int i t) (.int i t') true := by
        have x := PySem.W.keq_flat (A := A) (s := s) (v := .int i t) (y := .int i t') (d := .int i) (e := .int i) (fun _ => .int i t) (fun _ => .int i t')
        have ee : PyData.eqv (.int i) (.int i) = true := by simp [PyData.eqv]
        rw [ee] at x; exact x
      exact .hit (e := true) (b := true) hy he (hits_of r2 fun k i hm => h k i (List.mem_cons_of_mem _ hm))
theorem op_neK {X : Cx} (hu : X.A.units + 64 < cLine) : OpR X (compareOp .NotEq) rNeK := by
  intro pins s σ H vx vy u w Q I rx ry h
  obtain ⟨a, b, xs, rfl, rfl, ea, eb, q⟩ := h
  cases rx; cases ry
  obtain ⟨_, ha, va, rela, da⟩ := dk_rd I.hok ea
  obtain ⟨_, hb, vb, relb, db⟩ := dk_rd I.hok eb
  have hl : va.length = vb.length := by rw [← rela.length, ← relb.length]
  have hn : ((ivs xs).map (·.1)).Nodup := by
    rw [relb.keys]
    obtain ⟨o, es, ep, _, _, _, _, _, hn⟩ := db
    exact hn
  refine PySem.W.keq_ne (r := true) ha hb da db (by omega) (fun _ => ?_) ?_
  · refine hits_of rela fun k i hm => ?_
    have r := relb.val k
    rw [valV_mem (v := .int i) hn (List.mem_map.mpr ⟨(k, i), hm, rfl⟩)] at r
    cases hv : valueAt vb k with
    | none => rw [hv] at r; exact r.elim
    | some y =>
      rw [hv] at r
      obtain ⟨t, rfl⟩ := r
      exact ⟨t, rfl⟩
  · rw [hl]
    refine ⟨.bl false, H, I, ?_, q⟩
    simp [L2.RelV]
def dDictC : D → Out D
  | .dic kds => if scalK kds = true then .ok (.dic kds) else .stuck
  | _ => .stuck
def dListD : D → Out D
  | .dic kds => .ok (.lst (kds.map fun kv => kD kv.1))
  | _ => .stuck
def dNeD : D → D → Out D
  | .dic a, .dic b => match intsK a, intsK b with
    | some x, some y => if x = y then .ok (.bl false) else .stuck
    | _, _ => .stuck
  | _, _ => .stuck
section
variable {C : Dc} {a b : Expr} {A B : SD → Out D} {pos : Pos}
theorem df_dict {p : Pos} (hg : Gl C.X "dict") (hm : C.X.mg "dict" = none) (ha : DB C a A)
    (he : starEach (a :: []) C.X.env = (false, eval a C.X.env) :: starEach [] C.X.env := by rfl) : DF C (.Call (.Name "dict" p) [a] [] pos) (e1 dDictC A) := by
  obtain ⟨ta, p1, q1⟩ := ha
  refine ⟨_, pe_callTy call_dict_of hg hm PyProof.Rows.Boot.«dict» (pa_cons p1 pa_nil he) (by decide) (by decide) he rfl, fun G H σ ς Q S q => ?_⟩
  unfold e1 at q
  rw [Out.post_bind] at q
  refine q1 G H σ ς _ S (Out.post_mono q fun x k v1 H1 G1 S1 a1 b1 r1 => ?_)
  cases x with
  | dic kds =>
    obtain ⟨p, kvs, rfl, h2, h3⟩ := r1
    rcases post_ite (show (if scalK kds = true then Out.ok (D.dic kds) else .stuck).post _ _ from k) with ⟨hc, k3⟩ | ⟨_, k3⟩
    · refine ⟨p, kvs, rfl, h2, fun l hl => ?_⟩
      exact (KF.later (show KF C G H σ ς Q (.dic kds) from k3) a1 b1) l (upd H1 l (.dK kvs)) G1 (S1.allocO hl) (same_upd hl) (Same.refl G1) hl (S1.gnone hl) ⟨kvs, upd_same, RepK.flat hc h3⟩
    · exact k3.elim
  | _ => exact k.elim
theorem df_listD {p : Pos} (hh : C.X.A.handled = none) (hg : Gl C.X "list") (hm : C.X.mg "list" = none) (ha : DB C a A)
    (he : starEach (a :: []) C.X.env = (false, eval a C.X.env) :: starEach [] C.X.env := by rfl) : DF C (.Call (.Name "list" p) [a] [] pos) (e1 dListD A) := by
  obtain ⟨ta, p1, q1⟩ := ha
  refine ⟨_, pe_callTy (call_list_dict hh) hg hm PyProof.Rows.Boot.«list» (pa_cons p1 pa_nil he) (by decide) (by decide) he rfl, fun G H σ ς Q S q => ?_⟩
  unfold e1 at q
  rw [Out.post_bind] at q
  refine q1 G H σ ς _ S (Out.post_mono q fun x k v1 H1 G1 S1 a1 b1 r1 => ?_)
  cases x with
  | dic kds =>
    obtain ⟨p, kvs, rfl, h2, h3⟩ := r1
    exact ⟨p, kvs, rfl, h2, KF.lst (KF.later (show KF C G H σ ς Q (.lst (kds.map fun kv => kD kv.1)) from k) a1 b1) S1 (RepK.keys h3)⟩
  | _ => exact k.elim
theorem drs_neK : DRS C rNeK dNeD := by
  intro G H σ ς Q x y vx vy S hx hy q
  cases x with
  | dic ka =>
    cases y with
    | dic kb =>
      have q : (match intsK ka, intsK kb with
        | some x, some y => if x = y then Out.ok (D.bl false) else .stuck
        | _, _ => .stuck).post (fun d => d.scal = true ∧ Q (toV d) H) (fun _ => False) := q
      cases ea : intsK ka with
      | none => rw [ea] at q; exact q.elim
      | some xs =>
        cases eb : intsK kb with
        | none => rw [ea, eb] at q; exact q.elim
        | some ys =>
          rw [ea, eb] at q
          have hq : (if xs = ys then Out.ok (D.bl false) else .stuck).post (fun d => d.scal = true ∧ Q (toV d) H) (fun _ => False) := q
          clear q
          by_cases e : xs = ys
          · rw [if_pos e] at hq
            have hq : true = true ∧ Q (.bl false) H := hq
            subst e
            obtain ⟨p, kvs, rfl, h2, h3⟩ := hx
            obtain ⟨p', kvs', rfl, h2', h3'⟩ := hy
            have e1 := RepK.ints ea h3
            have e2 := RepK.ints eb h3'
            subst e1; subst e2
            exact ⟨p, p', xs, rfl, rfl, h2, h2', hq.2⟩
          · rw [if_neg e] at hq; exact hq.elim
    | _ => exact q.elim
  | _ => exact q.elim
theorem scal_neK : scal2 dNeD := fun x y => by
  cases x with
  | dic ka =>
    cases y with
    | dic kb =>
      show match (match intsK ka, intsK kb with
        | some x, some y => if x = y then Out.ok (D.bl false) else .stuck
        | _, _ => .stuck) with | .ok d => d.scal = true | .exc _ => False | .stuck => True
      cases intsK ka with
      | none => exact True.intro
      | some xs =>
        cases intsK kb with
        | none => exact True.intro
        | some ys =>
          by_cases e : xs = ys
          · simp only [if_pos e]; rfl
          · simp only [if_neg e]
    | _ => exact True.intro
  | _ => exact True.intro
theorem dt_neD (hu : C.X.A.units + 64 < cLine) (ha : DB C a A) (hb : DB C b B) : DT C (.Compare a [.NotEq] [b] pos) (tVal (e2 dNeD A B)) := dt_cmp (op_neK hu) drs_neK scal_neK ha hb (nomark _)
end
end DL
set_option Elab.async false
set_option linter.all false
set_option maxRecDepth 100000
namespace DL
open PySem PySem.Spec PyProof.Rows L2
theorem dMod_pos {i j : Int} (h : 0 < j) : dMod (.int i) (.int j) = .ok (.int (i % j)) := by
  show (if decide (j ≠ 0) = true then Out.ok (D.int (i.fmod j)) else Out.stuck) = _
  rw [if_pos (decide_eq_true (by omega)), Int.fmod_eq_emod_of_nonneg i (by omega)]
theorem big_of {j : Int} {n : Nat} (h : j.natAbs < 2 ^ n) (hn : n ≤ 9000) : big j = true := decide_eq_true (Nat.lt_of_lt_of_le h (Nat.pow_le_pow_right (by decide) hn))
theorem dFdiv_ok {i j : Int} (h : j ≠ 0) (hb : big j = true) : dFdiv (.int i) (.int j) = .ok (.int (i.fdiv j)) := by
  show (if (decide (j ≠ 0) && big j) = true then Out.ok (D.int (i.fdiv j)) else Out.stuck) = _
  rw [if_pos (by rw [hb, decide_eq_true h]; rfl)]
theorem dFdiv_pos {i j : Int} (h : 0 < j) (hb : big j = true) : dFdiv (.int i) (.int j) = .ok (.int (i / j)) := by
  rw [dFdiv_ok (by omega) hb, Int.fdiv_eq_ediv_of_nonneg i (by omega)]
theorem bits_of {i : Int} {n : Nat} (h : i.natAbs < 2 ^ n) : bitsI i ≤ n := PySem.intBits_le_iff.mpr h
theorem dMul_ok {i j : Int} (h : bitsI i + bitsI j ≤ 134217728) : dMul (.int i) (.int j) = .ok (.int (i * j)) := by
  show (if decide (bitsI i + bitsI j ≤ 134217728) = true then Out.ok (D.int (i * j)) else Out.stuck) = _
  rw [if_pos (decide_eq_true h)]
theorem dMul_of {i j : Int} {m n : Nat} (hi : bitsI i ≤ m) (hj : bitsI j ≤ n) (h : m + n ≤ 134217728) : dMul (.int i) (.int j) = .ok (.int (i * j)) := dMul_ok (by omega)
theorem dAdd_int (i j : Int) : dAdd (.int i) (.int j) = .ok (.int (i + j)) := rfl
theorem dSub_int (i j : Int) : dSub (.int i) (.int j) = .ok (.int (i - j)) := rfl
theorem dNeg_int (i : Int) : dNeg (.int i) = .ok (.int (-i)) := rfl
theorem dAbs_int (i : Int) : dAbs (.int i) = .ok (.int (i.natAbs : Int)) := by
  show Out.ok (D.int (if i < 0 then -i else i)) = _
  congr 2; split <;> omega
theorem dLt_int (i j : Int) : dLt (.int i) (.int j) = .ok (.bl (decide (i < j))) := rfl
theorem dLe_int (i j : Int) : dLe (.int i) (.int j) = .ok (.bl (decide (i ≤ j))) := rfl
theorem dGt_int (i j : Int) : dGt (.int i) (.int j) = .ok (.bl (decide (j < i))) := rfl
theorem dGe_int (i j : Int) : dGe (.int i) (.int j) = .ok (.bl (decide (j ≤ i))) := rfl
theorem dPow_ok {i j : Int} (h : (decide (0 ≤ j) && decide (j ≤ 1000000) && decide (i.natAbs < 2 ^ 64)) = true) : dPow (.int i) (.int j) = .ok (.int (i ^ j.toNat)) := by
  show (if _ = true then Out.ok (D.int (i ^ j.toNat)) else Out.stuck) = _
  rw [if_pos h]
mutual
def layD : D → Bool
  | .non => true
  | .bl _ => true
  | .int _ => true
  | .str x => PyData.strOk x
  | .lst xs => layDs xs
  | .tup xs => layDs xs
  | _ => false
def layDs : List D → Bool
  | [] => true
  | x :: xs => layD x && layDs xs
end
mutual
def dep : D → Nat
  | .lst xs => deps xs + 1
  | .tup xs => deps xs + 1
  | _ => 0
def deps : List D → Nat
  | [] => 0
  | x :: xs => max (dep x) (deps xs)
end
mutual
theorem lay_py : ∀ d : D, layD d = true → d.py.canLay0 = true
  | .non, _ => rfl
  | .bl _, _ => rfl
  | .int _, _ => rfl
  | .str x, h => h
  | .lst xs, h => lay_pys xs h
  | .tup xs, h => lay_pys xs h
theorem lay_pys : ∀ ds : List D, layDs ds = true → PyData.canLayAll0 (D.pys ds) = true
  | [], _ => rfl
  | x :: xs, h => by
    rw [layDs, Bool.and_eq_true] at h
    rw [D.pys, PyData.canLayAll0, Bool.and_eq_true]
    exact ⟨lay_py x h.1, lay_pys xs h.2⟩
end
mutual
theorem dep_py : ∀ d : D, layD d = true → d.py.depth = dep d
  | .non, _ => rfl
  | .bl _, _ => rfl
  | .int _, _ => rfl
  | .str x, h => rfl
  | .lst xs, h => by rw [D.py, PyData.depth, dep, dep_pys xs h]
  | .tup xs, h => by rw [D.py, PyData.depth, dep, dep_pys xs h]
theorem dep_pys : ∀ ds : List D, layDs ds = true → PyData.depthAll (D.pys ds) = deps ds
  | [], _ => rfl
  | x :: xs, h => by
    rw [layDs, Bool.and_eq_true] at h
    rw [D.pys, PyData.depthAll, deps, dep_py x h.1, dep_pys xs h.2]
end
theorem shp_of {d : D} (h : layD d = true) (hd : dep d ≤ 64) : shp d = true := by
  unfold shp SeqAt.shaped
  rw [lay_py d h, dep_py d h]
  simpa using hd
theorem shp_int (i : Int) : shp (.int i) = true := shp_of rfl (Nat.zero_le _)
theorem dEq_of {x y : D} (hx : shp x = true) (hy : shp y = true) : dEq x y = .ok (.bl (PyData.eqv x.py y.py)) := by
  unfold dEq; rw [hx, hy]; rfl
theorem dNe_of {x y : D} (hx : shp x = true) (hy : shp y = true) : dNe x y = .ok (.bl (!PyData.eqv x.py y.py)) := by
  unfold dNe; rw [hx, hy]; rfl
theorem beq_dec (i j : Int) : (i == j) = decide (i = j) := by
  by_cases h : i = j
  · subst h; simp
  · simp [h]
theorem dEq_int (i j : Int) : dEq (.int i) (.int j) = .ok (.bl (decide (i = j))) := by
  rw [dEq_of (shp_int i) (shp_int j), ← beq_dec]
  rfl
theorem dNe_int (i j : Int) : dNe (.int i) (.int j) = .ok (.bl (!decide (i = j))) := by
  rw [dNe_of (shp_int i) (shp_int j), ← beq_dec]
  rfl
theorem loopD_all {body : D → SD → Out Fl} {P : SD → Prop} {xs : List D} (h : ∀ x ∈ xs, ∀ ς, P ς → ∃ ς', body x ς = .ok (.nx ς') ∧ P ς') : ∀ ς, P ς → ∃ ς', loopD body xs ς = .ok (.nx ς') ∧ P ς' := by
  induction xs with
  | nil => intro ς p; exact ⟨ς, rfl, p⟩
  | cons x xs ih =>
    intro ς p
    obtain ⟨ς1, e1, p1⟩ := h x List.mem_cons_self ς p
    obtain ⟨ς2, e2, p2⟩ := ih (fun y hy => h y (List.mem_cons_of_mem _ hy)) ς1 p1
    refine ⟨ς2, ?_, p2⟩
    rw [loopD, e1]
    exact e2
theorem fits_small {n : Nat} (h : n ≤ 1000 := by decide) : fits n = true := decide_eq_true (Nat.le_trans h (by decide))
theorem ixT {xs : List D} {x : D} (k : Nat) (h : xs[k]? = some x) : dIx (.tup xs) (.int (k : Int)) = .ok x := by
  show optO (atI xs (k : Int)) = _
  rw [atI_nat h]; rfl
theorem ixL {xs : List D} {x : D} (k : Nat) (h : xs[k]? = some x) : dIx (.lst xs) (.int (k : Int)) = .ok x := by
  show optO (atI xs (k : Int)) = _
  rw [atI_nat h]; rfl
theorem ix_tup0 (x : D) (xs : List D) : dIx (.tup (x :: xs)) (.int 0) = .ok x := ixT 0 rfl
theorem ix_tup1 (x y : D) (xs : List D) : dIx (.tup (x :: y :: xs)) (.int 1) = .ok y := ixT 1 rfl
theorem ix_tup2 (x y z : D) (xs : List D) : dIx (.tup (x :: y :: z :: xs)) (.int 2) = .ok z := ixT 2 rfl
theorem cut_to {α : Type} (xs : List α) (k : Nat) : cutD xs none (some (k : Int)) = xs.take k := by
  unfold cutD
  rw [HT.sIx_none, HT.sIx_nat, List.drop_zero, Nat.sub_zero]
  by_cases h : k ≤ xs.length
  · rw [Nat.min_eq_left h]
  · rw [Nat.min_eq_right (by omega), List.take_of_length_le (Nat.le_refl _), List.take_of_length_le (by omega)]
theorem dCat_ok {xs ys : List D} (h : xs.length + ys.length ≤ 1000) : dCat (.lst xs) (.lst ys) = .ok (.lst (xs ++ ys)) := by
  show (if fits _ = true then _ else _) = _
  rw [if_pos (fits_small h)]
theorem sFor_of {g : D → SD → Out SD} {its : SD → Out (List D)} {T : SD → Out Fl} {ς : SD} {xs : List D} {r : Out Fl} (h : its ς = .ok xs) (hL : loopD (fun x ς => g x ς >>= fun ς' => T ς') xs ς = r) : sFor g its T ς = r := by
  unfold sFor
  rw [h]; exact hL
theorem loop_range {body : D → SD → Out Fl} {P : SD → Prop} {n : Nat} (h : ∀ k : Nat, k < n → ∀ ς, P ς → ∃ ς', body (.int (k : Int)) ς = .ok (.nx ς') ∧ P ς') (ς : SD) (hp : P ς) : ∃ ς', loopD body (rangeD 0 n) ς = .ok (.nx ς') ∧ P ς' :=
  loopD_all (fun x hx ς p => by
    unfold rangeD at hx
    obtain ⟨i, hi, rfl⟩ := List.mem_map.mp hx
    have := h i (List.mem_range.mp hi) ς p
    rwa [Int.zero_add]) ς hp
theorem rng_ok {A : SD → Out D} {ς : SD} (m : Nat) (h : A ς = .ok (.int (m : Int))) (hm : m ≤ 1000000) : itR1 A ς = .ok (rangeD 0 m) := by
  have hs : small62 (m : Int) = true := by
    unfold small62
    rw [Bool.and_eq_true]
    exact ⟨decide_eq_true (by omega), decide_eq_true (by omega)⟩
  unfold itR1
  rw [h, Out.bind_ok]
  simp only [hs, if_true, Int.toNat_natCast]
end DL
set_option Elab.async false
set_option linter.all false
set_option maxRecDepth 100000
namespace DL
open PySem PySem.Spec PyProof.Rows L2
theorem loop_rangeK {body : D → SD → Out Fl} {P : Nat → SD → Prop} {n : Nat} (h : ∀ k : Nat, k < n → ∀ ς, P k ς → ∃ ς', body (.int (k : Int)) ς = .ok (.nx ς') ∧ P (k + 1) ς') : ∀ ς, P 0 ς → ∃ ς', loopD body (rangeD 0 n) ς = .ok (.nx ς') ∧ P n ς' := by
  have key : ∀ (j : Nat) (k : Nat), k + j = n → ∀ ς, P k ς → ∃ ς', loopD body ((List.range' k j).map fun (i : Nat) => D.int ((0 : Int) + i)) ς = .ok (.nx ς') ∧ P n ς' := by
    intro j
    induction j with
    | zero =>
      intro k hk ς p
      have : k = n := by omega
      subst this
      exact ⟨ς, rfl, p⟩
    | succ j ih =>
      intro k hk ς p
      obtain ⟨ς1, e1, p1⟩ := h k (by omega) ς p
      obtain ⟨ς2, e2, p2⟩ := ih (k + 1) (by omega) ς1 p1
      refine ⟨ς2, ?_, p2⟩
      rw [List.range'_succ, List.map_cons, loopD, Int.zero_add, e1]
      exact e2
  intro ς p
  have := key n 0 (by omega) ς p
  unfold rangeD
  rw [List.range_eq_range']
  exact this
theorem fits_of {n : Nat} (h : n ≤ 1000) : fits n = true := fits_small h
theorem str_len (z : Str) : z.cps.toList.length = z.length := by simp [Str.length]
end DL
namespace My
end My
set_option Elab.async false
set_option linter.all false
namespace DL
open PySem PySem.Spec L2
section
variable {i j : Nat} {d x y : D} {m : SM} {ς ς' ς1 : SD} {E A B : SD → Out D} {AA : SD → Out (List D)} {f : D → Out D} {g : D → D → Out D} {h : List D → Out D} {r : Out D} {xs ys : List D} {T U : SD → Out Fl} {P Q : SD → Out Bool} {b c : Bool} {fl : Fl} {rf : Out Fl} {rb : Out Bool}
theorem r_var (e : ς[i]? = some (some (.k, d))) : eVar i ς = .ok d := by unfold eVar; rw [e]
theorem r_varB (e : ς[i]? = some (some (m, d))) : eVarB i ς = .ok d := by unfold eVarB; rw [e]
theorem r_C : eC d ς = .ok d := rfl
theorem r_e1 (a : A ς = .ok x) (k : f x = r) : e1 f A ς = r := by unfold e1; rw [a]; exact k
theorem r_e2 (a : A ς = .ok x) (a' : B ς = .ok y) (k : g x y = r) : e2 g A B ς = r := by unfold e2; rw [a, Out.bind_ok, a']; exact k
theorem r_eA (a : AA ς = .ok xs) (k : h xs = r) : eA h AA ς = r := by unfold eA; rw [a]; exact k
theorem r_call {dd : List D} (a : AA ς = .ok xs) (e : xs ++ dd = ys) (k : h ys = r) : eA (fun xs => h (xs ++ dd)) AA ς = r := by unfold eA; rw [a]; show h (xs ++ dd) = r; rw [e]; exact k
theorem r_nil : aNil ς = .ok [] := rfl
theorem r_cons (a : A ς = .ok x) (k : AA ς = .ok xs) : aCons A AA ς = .ok (x :: xs) := by unfold aCons; rw [a, Out.bind_ok, k]; rfl
theorem r_tup (a : AA ς = .ok xs) (k : xs.length ≤ 1000) : eTup AA ς = .ok (.tup xs) := by unfold eTup; rw [a, Out.bind_ok, if_pos (fits_of k)]
theorem r_lst (a : AA ς = .ok xs) (k : xs.length ≤ 1000) : eLst AA ς = .ok (.lst xs) := by unfold eLst; rw [a, Out.bind_ok, if_pos (fits_of k)]
theorem r_tVal (a : A ς = .ok (.bl b)) : tVal A ς = .ok b := by unfold tVal; rw [a]; rfl
theorem r_not' (a : P ς = .ok b) : tNot' P ς = .ok (!b) := by unfold tNot'; rw [a]; rfl
theorem r_or' (a : P ς = .ok b) (k : (if b = true then .ok true else Q ς) = rb) : tOr' P Q ς = rb := by unfold tOr'; rw [a]; exact k
theorem r_and' (a : P ς = .ok b) (k : (if b = true then Q ς else .ok false) = rb) : tAnd' P Q ς = rb := by unfold tAnd'; rw [a]; exact k
theorem r_set (a : E ς = .ok d) (k : ς.set i (some (.k, d)) = ς') : sSet i E ς = .ok (.nx ς') := by unfold sSet; rw [a, Out.bind_ok, k]
theorem r_setO (a : E ς = .ok d) (k : ς.set i (some (.o, d)) = ς') : sSetO i E ς = .ok (.nx ς') := by unfold sSetO; rw [a, Out.bind_ok, k]
theorem r_seq (a : T ς = .ok fl) (k : thenF U fl = rf) : sSeq T U ς = rf := by unfold sSeq; rw [a]; exact k
theorem r_okR {α : Type} {a : α} : (Out.ok a) = Out.ok a := rfl
theorem r_then (k : U ς = rf) : thenF U (.nx ς) = rf := k
theorem r_thenR {z : Bool} : thenF U (.rt z d) = .ok (.rt z d) := rfl
theorem r_if (a : P ς = .ok b) (k : (if b = true then T ς else U ς) = rf) : sIf P T U ς = rf := by unfold sIf; rw [a]; exact k
theorem r_iteT {α : Type} {u v w : α} (a : b = true) (k : u = w) : (if b = true then u else v) = w := by rw [if_pos a]; exact k
theorem r_iteF {α : Type} {u v w : α} (a : b = false) (k : v = w) : (if b = true then u else v) = w := by subst a; exact k
theorem r_ret (a : E ς = .ok d) : sRet E ς = .ok (.rt false d) := by unfold sRet; rw [a]; rfl
theorem r_retF (a : E ς = .ok d) : sRetF E ς = .ok (.rt true d) := by unfold sRetF; rw [a]; rfl
theorem r_sNil : sNil ς = .ok (.nx ς) := rfl
theorem r_nonScal {o : Out D} (a : o = .ok d) (k : d.scal = false) : nonScal o = .ok d := by unfold nonScal; rw [a, Out.bind_ok, k]; rfl
theorem r_sl {l u : SD → Out (Option Int)} {p q : Option Int} (a : A ς = .ok (.lst xs)) (k1 : l ς = .ok p) (k2 : u ς = .ok q) (e : cutD xs p q = ys) : eSl A l u ς = .ok (.lst ys) := by unfold eSl; rw [a, Out.bind_ok, k1, Out.bind_ok, k2, Out.bind_ok]; show Out.ok (D.lst _) = _; rw [e]
theorem r_body {fr : Bool} (a : T ς = .ok fl) (k : retF fr fl = r) : (T ς >>= retF fr) = r := by rw [a]; exact k
theorem r_rt {z : Bool} : retF false (.rt z d) = .ok d := by unfold retF; simp
theorem r_rtT : retF true (.rt true d) = .ok d := by unfold retF; simp
theorem r_gN {L : SD → Out Fl} (a : ς.set i (some (.k, d)) = ς1) (k : L ς1 = rf) : (gN i d ς >>= fun ς' => L ς') = rf := by unfold gN; rw [a]; exact k
theorem r_itL (a : E ς = .ok (.lst xs)) : itL E ς = .ok xs := by unfold itL; rw [a]; rfl
end
theorem dEq_str {a b : Str} (ha : PyData.strOk a = true) (hb : PyData.strOk b = true) : dEq (.str a) (.str b) = .ok (.bl (a == b)) := by
  rw [dEq_of (shp_of (d := .str a) ha (Nat.zero_le _)) (shp_of (d := .str b) hb (Nat.zero_le _))]; rfl
theorem r_get {ς : SD} {i : Nat} {m : SM} {d : D} (h : ς[i]? = some (some (m, d))) : ς[i]? = some (some (m, d)) := h
theorem r_len {n : Nat} (h : n ≤ 1000) : n ≤ 1000 := h
theorem r_id {α : Type} {a b : α} (h : a = b) : a = b := h
theorem r_scal {d : D} {b : Bool} (h : d.scal = b) : d.scal = b := h
theorem l_get0 {α : Type} {x : α} {xs : List α} : (x :: xs)[0]? = some x := rfl
theorem l_getS {α : Type} {x : α} {xs : List α} {n : Nat} {r : Option α} (h : xs[n]? = r) : (x :: xs)[n + 1]? = r := by rw [List.getElem?_cons_succ]; exact h
theorem l_set0 {α : Type} {x y : α} {xs : List α} : (x :: xs).set 0 y = y :: xs := rfl
theorem l_setS {α : Type} {x y : α} {xs ys : List α} {n : Nat} (h : xs.set n y = ys) : (x :: xs).set (n + 1) y = x :: ys := by rw [List.set_cons_succ, h]
theorem l_cat0 {α : Type} {ys : List α} : [] ++ ys = ys := rfl
theorem l_catS {α : Type} {x : α} {xs ys zs : List α} (h : xs ++ ys = zs) : x :: xs ++ ys = x :: zs := by rw [List.cons_append, h]
end DL
set_option Elab.async false
set_option linter.all false
set_option maxRecDepth 100000
set_option maxHeartbeats 4000000
namespace My
open PySem PySem.Spec L2 DL
def top (i : Nat) : Stmt := PySem.Challenge.pw_dockethall_k73_value.main.body.getD i (.Pass ⟨0, 0, 0, 0⟩)
abbrev s_law_name : Stmt := top 5
theorem sc_law_name : FnScope ["_law_number", "_law_letters", "_law_name_here", "_law_k"] ["_law_number"] (defScope s_law_name) := ⟨rfl, rfl, rfl, by decide +kernel, rfl, by decide +kernel, by decide +kernel⟩
theorem l_law_name__law_letters : (defScope s_law_name).names.lookup ("_law_letters" : Str) = some NameKind.local := by decide +kernel
theorem l_law_name__law_name_here : (defScope s_law_name).names.lookup ("_law_name_here" : Str) = some NameKind.local := by decide +kernel
theorem l_law_name__law_number : (defScope s_law_name).names.lookup ("_law_number" : Str) = some NameKind.local := by decide +kernel
theorem g_law_name_range : (defScope s_law_name).names.lookup ("range" : Str) = some NameKind.globalImplicit := by decide +kernel
theorem l_law_name__law_k : (defScope s_law_name).names.lookup ("_law_k" : Str) = some NameKind.local := by decide +kernel
noncomputable def L_law_name_0 : SD → Out Fl := (sSet 2 (e2 dAdd (eVar 2) (e2 dIx (eVar 1) (e2 dMod (e2 dMod (e2 dMul (eVar 0) (e2 dAdd (e2 dMul (eC (.int 2)) (eVar 3)) (eC (.int 3)))) (eC (.int 1000003))) (eC (.int 26))))))
noncomputable def T_law_name : SD → Out Fl := (sSeq (sSet 1 (eC (.str "abcdefghijklmnopqrstuvwxyz"))) (sSeq (sSet 2 (eC (.str ""))) (sSeq (sFor (gN 3) (itR1 (e2 dAdd (eC (.int 1)) (e2 dMod (eVar 0) (eC (.int 6))))) L_law_name_0) (sRet (eVar 2)))))
noncomputable def b_law_name : List D → Out D := bodyF false 1 4 T_law_name
theorem u_law_name (d0 : D) : b_law_name [d0] = (T_law_name [some (.k, d0), none, none, none] >>= retF false) := rfl
theorem d_law_name {P : Program} {w : World} {K : PySem.W.Frag} {mg : Str → Option Value} {base : Heap} {CT : CTab} {f : Addr} {fd : FuncData} {dV : Value} (F : FunV K "_law_name" "_law_name" s_law_name f fd dV) (z_range : mg "range" = none) : FnOk P w K mg base CX0 1 f fd ["_law_number"] (SpD K CT false b_law_name) :=
    @fnV P w K mg base CT false "_law_name" "_law_name" s_law_name f fd dV ["_law_number", "_law_letters", "_law_name_here", "_law_k"] ["_law_number"] 0 T_law_name F sc_law_name fun cdv A outer s H E G hr => 
      (dss_cons (ds_set (i := 1) sc_law_name.nd rfl (Or.inl l_law_name__law_letters) de_str) (dss_cons (ds_set (i := 2) sc_law_name.nd rfl (Or.inl l_law_name__law_name_here) de_str) (dss_cons (ds_forI PassesOwn.never rfl (di_range1 g_law_name_range z_range (DE.db (de_add (DE.db de_int) (DE.db (de_mod (DE.db (de_var 0 rfl (Or.inl l_law_name__law_number))) (DE.db de_int)))))) (dg_name (i := 3) sc_law_name.nd rfl (Or.inl l_law_name__law_k)) (noExc_gN _) (dss_one (ds_set (i := 2) sc_law_name.nd rfl (Or.inl l_law_name__law_name_here) (de_add (DE.db (de_var 2 rfl (Or.inl l_law_name__law_name_here))) (DE.db (de_ix (de_var 1 rfl (Or.inl l_law_name__law_letters)) (DE.db (de_mod (DE.db (de_mod (DE.db (de_mul (DE.db (de_var 0 rfl (Or.inl l_law_name__law_number))) (DE.db (de_add (DE.db (de_mul (DE.db de_int) (DE.db (de_var 3 rfl (Or.inl l_law_name__law_k))))) (DE.db de_int))))) (DE.db de_int))) (DE.db de_int))))))))) (dss_one (ds_ret (de_var 2 rfl (Or.inl l_law_name__law_name_here)))))))
abbrev s_law_mixed : Stmt := top 4
theorem sc_law_mixed : FnScope ["_law_cell", "_law_k"] ["_law_cell", "_law_k"] (defScope s_law_mixed) := ⟨rfl, rfl, rfl, by decide +kernel, rfl, by decide +kernel, by decide +kernel⟩
theorem l_law_mixed__law_cell : (defScope s_law_mixed).names.lookup ("_law_cell" : Str) = some NameKind.local := by decide +kernel
theorem l_law_mixed__law_k : (defScope s_law_mixed).names.lookup ("_law_k" : Str) = some NameKind.local := by decide +kernel
noncomputable def T_law_mixed : SD → Out Fl := (sRet (e2 dMod (e2 dMul (e2 dAdd (e2 dMod (eVar 0) (eC (.int 2147483647))) (eC (.int 11))) (e2 dAdd (eC (.int 48271)) (e2 dMul (e2 dMul (eC (.int 2)) (eVar 1)) (eVar 1)))) (eC (.int 2147483629))))
noncomputable def b_law_mixed : List D → Out D := bodyF false 2 2 T_law_mixed
theorem d_law_mixed {P : Program} {w : World} {K : PySem.W.Frag} {mg : Str → Option Value} {base : Heap} {CT : CTab} {f : Addr} {fd : FuncData} {dV : Value} (F : FunV K "_law_mixed" "_law_mixed" s_law_mixed f fd dV)  : FnOk P w K mg base CX0 1 f fd ["_law_cell", "_law_k"] (SpD K CT false b_law_mixed) :=
    @fnV P w K mg base CT false "_law_mixed" "_law_mixed" s_law_mixed f fd dV ["_law_cell", "_law_k"] ["_law_cell", "_law_k"] 0 T_law_mixed F sc_law_mixed fun cdv A outer s H E G hr => 
      (dss_one (ds_ret (de_mod (DE.db (de_mul (DE.db (de_add (DE.db (de_mod (DE.db (de_var 0 rfl (Or.inl l_law_mixed__law_cell))) (DE.db de_int))) (DE.db de_int))) (DE.db (de_add (DE.db de_int) (DE.db (de_mul (DE.db (de_mul (DE.db de_int) (DE.db (de_var 1 rfl (Or.inl l_law_mixed__law_k))))) (DE.db (de_var 1 rfl (Or.inl l_law_mixed__law_k))))))))) (DE.db de_int))))
abbrev s_law_built : Stmt := top 6
theorem sc_law_built : FnScope ["_law_cells", "_law_most", "_law_one", "_law_parts", "_law_k", "_law_number", "_law_name_here", "_law_way", "_law_many", "_law_other"] ["_law_cells", "_law_most"] (defScope s_law_built) := ⟨rfl, rfl, rfl, by decide +kernel, rfl, by decide +kernel, by decide +kernel⟩
theorem l_law_built__law_cells : (defScope s_law_built).names.lookup ("_law_cells" : Str) = some NameKind.local := by decide +kernel
theorem g_law_built_len : (defScope s_law_built).names.lookup ("len" : Str) = some NameKind.globalImplicit := by decide +kernel
theorem g_law_built__law_mixed : (defScope s_law_built).names.lookup ("_law_mixed" : Str) = some NameKind.globalImplicit := by decide +kernel
theorem g_law_built__law_name : (defScope s_law_built).names.lookup ("_law_name" : Str) = some NameKind.globalImplicit := by decide +kernel
theorem l_law_built__law_one : (defScope s_law_built).names.lookup ("_law_one" : Str) = some NameKind.local := by decide +kernel
theorem l_law_built__law_parts : (defScope s_law_built).names.lookup ("_law_parts" : Str) = some NameKind.local := by decide +kernel
theorem g_law_built_range : (defScope s_law_built).names.lookup ("range" : Str) = some NameKind.globalImplicit := by decide +kernel
theorem l_law_built__law_k : (defScope s_law_built).names.lookup ("_law_k" : Str) = some NameKind.local := by decide +kernel
theorem l_law_built__law_number : (defScope s_law_built).names.lookup ("_law_number" : Str) = some NameKind.local := by decide +kernel
theorem l_law_built__law_name_here : (defScope s_law_built).names.lookup ("_law_name_here" : Str) = some NameKind.local := by decide +kernel
theorem l_law_built__law_way : (defScope s_law_built).names.lookup ("_law_way" : Str) = some NameKind.local := by decide +kernel
theorem l_law_built__law_most : (defScope s_law_built).names.lookup ("_law_most" : Str) = some NameKind.local := by decide +kernel
theorem l_law_built__law_many : (defScope s_law_built).names.lookup ("_law_many" : Str) = some NameKind.local := by decide +kernel
theorem l_law_built__law_other : (defScope s_law_built).names.lookup ("_law_other" : Str) = some NameKind.local := by decide +kernel
noncomputable def L_law_built_0 : SD → Out Fl := (sSeq (sSet 5 (eA (fun xs => b_law_mixed (xs ++ [])) (aCons (e2 dIx (eVar 0) (eVar 4)) (aCons (eVar 4) aNil)))) (sSeq (sSet 6 (eTup (aCons (eC (.str "name")) (aCons (eA (fun xs => b_law_name (xs ++ [])) (aCons (e2 dFdiv (eVar 5) (eC (.int 6))) aNil)) aNil)))) (sSeq (sSet 7 (e2 dMod (eVar 5) (eC (.int 6)))) (sSeq (sIf (tAnd' (tVal (e2 dEq (eVar 7) (eC (.int 0)))) (tVal (e2 dLt (eVar 3) (eVar 1)))) (sSeq (sSet 2 (eTup (aCons (eC (.str "times")) (aCons (e2 dMod (e2 dFdiv (eVar 5) (eC (.int 36))) (eC (.int 10))) (aCons (eVar 2) aNil))))) (sSet 3 (e2 dAdd (eVar 3) (eC (.int 1))))) sNil) (sSeq (sIf (tAnd' (tVal (e2 dEq (eVar 7) (eC (.int 1)))) (tVal (e2 dLt (eVar 3) (eVar 1)))) (sSeq (sSet 8 (e2 dAdd (eC (.int 1)) (e2 dMod (e2 dFdiv (eVar 5) (eC (.int 36))) (eC (.int 12))))) (sSeq (sSet 2 (eTup (aCons (eC (.str "share")) (aCons (eVar 2) (aCons (e2 dMod (e2 dFdiv (eVar 5) (eC (.int 432))) (eVar 8)) (aCons (eVar 8) aNil)))))) (sSet 3 (e2 dAdd (eVar 3) (eC (.int 1)))))) sNil) (sSeq (sIf (tAnd' (tVal (e2 dEq (eVar 7) (eC (.int 2)))) (tVal (e2 dLt (e2 dAdd (eVar 3) (eC (.int 1))) (eVar 1)))) (sSeq (sSet 2 (eTup (aCons (eC (.str "plus")) (aCons (eVar 2) (aCons (eVar 6) aNil))))) (sSet 3 (e2 dAdd (eVar 3) (eC (.int 2))))) sNil) (sSeq (sIf (tAnd' (tVal (e2 dEq (eVar 7) (eC (.int 3)))) (tVal (e2 dLt (e2 dAdd (eVar 3) (eC (.int 1))) (eVar 1)))) (sSeq (sSet 2 (eTup (aCons (eC (.str "plus")) (aCons (eVar 6) (aCons (eVar 2) aNil))))) (sSet 3 (e2 dAdd (eVar 3) (eC (.int 2))))) sNil) (sIf (tAnd' (tVal (e2 dGt (eVar 7) (eC (.int 3)))) (tVal (e2 dLt (e2 dAdd (eVar 3) (eC (.int 4))) (eVar 1)))) (sSeq (sSet 9 (eTup (aCons (eC (.str "plus")) (aCons (eVar 6) (aCons (eTup (aCons (eC (.str "times")) (aCons (e2 dMod (e2 dFdiv (eVar 5) (eC (.int 36))) (eC (.int 10))) (aCons (eVar 6) aNil)))) aNil))))) (sSeq (sSet 2 (e2 dIx (eLst (aCons (eTup (aCons (eC (.str "plus")) (aCons (eVar 2) (aCons (eVar 9) aNil)))) (aCons (eTup (aCons (eC (.str "plus")) (aCons (eVar 9) (aCons (eVar 2) aNil)))) aNil))) (e2 dSub (eVar 7) (eC (.int 4))))) (sSet 3 (e2 dAdd (eVar 3) (eC (.int 5)))))) sNil))))))))
noncomputable def T_law_built : SD → Out Fl := (sSeq (sSet 2 (eTup (aCons (eC (.str "name")) (aCons (eA (fun xs => b_law_name (xs ++ [])) (aCons (eA (fun xs => b_law_mixed (xs ++ [])) (aCons (eA fLen (aCons (eVar 0) aNil)) (aCons (eC (.int 1)) aNil))) aNil)) aNil)))) (sSeq (sSet 3 (eC (.int 1))) (sSeq (sFor (gN 4) (itR1 (eA fLen (aCons (eVar 0) aNil))) L_law_built_0) (sRet (eVar 2)))))
noncomputable def b_law_built : List D → Out D := bodyF false 2 10 T_law_built
theorem u_law_built (d0 d1 : D) : b_law_built [d0, d1] = (T_law_built [some (.k, d0), some (.k, d1), none, none, none, none, none, none, none, none] >>= retF false) := rfl
theorem d_law_built {P : Program} {w : World} {K : PySem.W.Frag} {mg : Str → Option Value} {base : Heap} {CT : CTab} {f : Addr} {fd : FuncData} {dV : Value} (F : FunV K "_law_built" "_law_built" s_law_built f fd dV) (h_law_name : DefOk P w K mg base CT "_law_name" 1 false [] b_law_name) (h_law_mixed : DefOk P w K mg base CT "_law_mixed" 1 false [] b_law_mixed) (z_len : mg "len" = none) (z_range : mg "range" = none) : FnOk P w K mg base CX0 2 f fd ["_law_cells", "_law_most"] (SpD K CT false b_law_built) :=
    @fnV P w K mg base CT false "_law_built" "_law_built" s_law_built f fd dV ["_law_cells", "_law_most", "_law_one", "_law_parts", "_law_k", "_law_number", "_law_name_here", "_law_way", "_law_many", "_law_other"] ["_law_cells", "_law_most"] 1 T_law_built F sc_law_built fun cdv A outer s H E G hr => 
      (dss_cons (ds_set (i := 2) sc_law_built.nd rfl (Or.inl l_law_built__law_one) (de_tup (da_cons de_str (da_cons (de_f h_law_name (hr.mono (by decide)) (da_cons (de_f h_law_mixed (hr.mono (by decide)) (da_cons (de_len g_law_built_len z_len (dab_cons (DE.db (de_var 0 rfl (Or.inl l_law_built__law_cells))) dab_nil)) (da_cons de_int da_nil)) g_law_built__law_mixed) da_nil) g_law_built__law_name) da_nil)))) (dss_cons (ds_set (i := 3) sc_law_built.nd rfl (Or.inl l_law_built__law_parts) de_int) (dss_cons (ds_forI PassesOwn.never rfl (di_range1 g_law_built_range z_range (DE.db (de_len g_law_built_len z_len (dab_cons (DE.db (de_var 0 rfl (Or.inl l_law_built__law_cells))) dab_nil)))) (dg_name (i := 4) sc_law_built.nd rfl (Or.inl l_law_built__law_k)) (noExc_gN _) (dss_cons (ds_set (i := 5) sc_law_built.nd rfl (Or.inl l_law_built__law_number) (de_f h_law_mixed (hr.mono (by decide)) (da_cons (de_ix (de_var 0 rfl (Or.inl l_law_built__law_cells)) (DE.db (de_var 4 rfl (Or.inl l_law_built__law_k)))) (da_cons (de_var 4 rfl (Or.inl l_law_built__law_k)) da_nil)) g_law_built__law_mixed)) (dss_cons (ds_set (i := 6) sc_law_built.nd rfl (Or.inl l_law_built__law_name_here) (de_tup (da_cons de_str (da_cons (de_f h_law_name (hr.mono (by decide)) (da_cons (de_fdiv (DE.db (de_var 5 rfl (Or.inl l_law_built__law_number))) (DE.db de_int)) da_nil) g_law_built__law_name) da_nil)))) (dss_cons (ds_set (i := 7) sc_law_built.nd rfl (Or.inl l_law_built__law_way) (de_mod (DE.db (de_var 5 rfl (Or.inl l_law_built__law_number))) (DE.db de_int))) (dss_cons (ds_if (DW.dt (dw_and (dt_eq hr.units (DE.db (de_var 7 rfl (Or.inl l_law_built__law_way))) (DE.db de_int)) (dw_and1 (dt_lt (DE.db (de_var 3 rfl (Or.inl l_law_built__law_parts))) (DE.db (de_var 1 rfl (Or.inl l_law_built__law_most))))))) (dss_cons (ds_set (i := 2) sc_law_built.nd rfl (Or.inl l_law_built__law_one) (de_tup (da_cons de_str (da_cons (de_mod (DE.db (de_fdiv (DE.db (de_var 5 rfl (Or.inl l_law_built__law_number))) (DE.db de_int))) (DE.db de_int)) (da_cons (de_var 2 rfl (Or.inl l_law_built__law_one)) da_nil))))) (dss_one (ds_set (i := 3) sc_law_built.nd rfl (Or.inl l_law_built__law_parts) (de_add (DE.db (de_var 3 rfl (Or.inl l_law_built__law_parts))) (DE.db de_int))))) dss_nil) (dss_cons (ds_if (DW.dt (dw_and (dt_eq hr.units (DE.db (de_var 7 rfl (Or.inl l_law_built__law_way))) (DE.db de_int)) (dw_and1 (dt_lt (DE.db (de_var 3 rfl (Or.inl l_law_built__law_parts))) (DE.db (de_var 1 rfl (Or.inl l_law_built__law_most))))))) (dss_cons (ds_set (i := 8) sc_law_built.nd rfl (Or.inl l_law_built__law_many) (de_add (DE.db de_int) (DE.db (de_mod (DE.db (de_fdiv (DE.db (de_var 5 rfl (Or.inl l_law_built__law_number))) (DE.db de_int))) (DE.db de_int))))) (dss_cons (ds_set (i := 2) sc_law_built.nd rfl (Or.inl l_law_built__law_one) (de_tup (da_cons de_str (da_cons (de_var 2 rfl (Or.inl l_law_built__law_one)) (da_cons (de_mod (DE.db (de_fdiv (DE.db (de_var 5 rfl (Or.inl l_law_built__law_number))) (DE.db de_int))) (DE.db (de_var 8 rfl (Or.inl l_law_built__law_many)))) (da_cons (de_var 8 rfl (Or.inl l_law_built__law_many)) da_nil)))))) (dss_one (ds_set (i := 3) sc_law_built.nd rfl (Or.inl l_law_built__law_parts) (de_add (DE.db (de_var 3 rfl (Or.inl l_law_built__law_parts))) (DE.db de_int)))))) dss_nil) (dss_cons (ds_if (DW.dt (dw_and (dt_eq hr.units (DE.db (de_var 7 rfl (Or.inl l_law_built__law_way))) (DE.db de_int)) (dw_and1 (dt_lt (DE.db (de_add (DE.db (de_var 3 rfl (Or.inl l_law_built__law_parts))) (DE.db de_int))) (DE.db (de_var 1 rfl (Or.inl l_law_built__law_most))))))) (dss_cons (ds_set (i := 2) sc_law_built.nd rfl (Or.inl l_law_built__law_one) (de_tup (da_cons de_str (da_cons (de_var 2 rfl (Or.inl l_law_built__law_one)) (da_cons (de_var 6 rfl (Or.inl l_law_built__law_name_here)) da_nil))))) (dss_one (ds_set (i := 3) sc_law_built.nd rfl (Or.inl l_law_built__law_parts) (de_add (DE.db (de_var 3 rfl (Or.inl l_law_built__law_parts))) (DE.db de_int))))) dss_nil) (dss_cons (ds_if (DW.dt (dw_and (dt_eq hr.units (DE.db (de_var 7 rfl (Or.inl l_law_built__law_way))) (DE.db de_int)) (dw_and1 (dt_lt (DE.db (de_add (DE.db (de_var 3 rfl (Or.inl l_law_built__law_parts))) (DE.db de_int))) (DE.db (de_var 1 rfl (Or.inl l_law_built__law_most))))))) (dss_cons (ds_set (i := 2) sc_law_built.nd rfl (Or.inl l_law_built__law_one) (de_tup (da_cons de_str (da_cons (de_var 6 rfl (Or.inl l_law_built__law_name_here)) (da_cons (de_var 2 rfl (Or.inl l_law_built__law_one)) da_nil))))) (dss_one (ds_set (i := 3) sc_law_built.nd rfl (Or.inl l_law_built__law_parts) (de_add (DE.db (de_var 3 rfl (Or.inl l_law_built__law_parts))) (DE.db de_int))))) dss_nil) (dss_one (ds_if (DW.dt (dw_and (dt_gt (DE.db (de_var 7 rfl (Or.inl l_law_built__law_way))) (DE.db de_int)) (dw_and1 (dt_lt (DE.db (de_add (DE.db (de_var 3 rfl (Or.inl l_law_built__law_parts))) (DE.db de_int))) (DE.db (de_var 1 rfl (Or.inl l_law_built__law_most))))))) (dss_cons (ds_set (i := 9) sc_law_built.nd rfl (Or.inl l_law_built__law_other) (de_tup (da_cons de_str (da_cons (de_var 6 rfl (Or.inl l_law_built__law_name_here)) (da_cons (de_tup (da_cons de_str (da_cons (de_mod (DE.db (de_fdiv (DE.db (de_var 5 rfl (Or.inl l_law_built__law_number))) (DE.db de_int))) (DE.db de_int)) (da_cons (de_var 6 rfl (Or.inl l_law_built__law_name_here)) da_nil)))) da_nil))))) (dss_cons (ds_set (i := 2) sc_law_built.nd rfl (Or.inl l_law_built__law_one) (de_ix (DF.de (df_lst (da_cons (de_tup (da_cons de_str (da_cons (de_var 2 rfl (Or.inl l_law_built__law_one)) (da_cons (de_var 9 rfl (Or.inl l_law_built__law_other)) da_nil)))) (da_cons (de_tup (da_cons de_str (da_cons (de_var 9 rfl (Or.inl l_law_built__law_other)) (da_cons (de_var 2 rfl (Or.inl l_law_built__law_one)) da_nil)))) da_nil)))) (DE.db (de_sub (DE.db (de_var 7 rfl (Or.inl l_law_built__law_way))) (DE.db de_int))))) (dss_one (ds_set (i := 3) sc_law_built.nd rfl (Or.inl l_law_built__law_parts) (de_add (DE.db (de_var 3 rfl (Or.inl l_law_built__law_parts))) (DE.db de_int)))))) dss_nil)))))))))) (dss_one (ds_ret (de_var 2 rfl (Or.inl l_law_built__law_one)))))))
abbrev s_law_used : Stmt := top 8
theorem sc_law_used : FnScope ["_law_one"] ["_law_one"] (defScope s_law_used) := ⟨rfl, rfl, rfl, by decide +kernel, rfl, by decide +kernel, by decide +kernel⟩
theorem l_law_used__law_one : (defScope s_law_used).names.lookup ("_law_one" : Str) = some NameKind.local := by decide +kernel
theorem g_law_used__law_used : (defScope s_law_used).names.lookup ("_law_used" : Str) = some NameKind.globalImplicit := by decide +kernel
noncomputable def T_law_used (r_law_used : List D → Out D) : SD → Out Fl := (sSeq (sIf (tVal (e2 dEq (e2 dIx (eVar 0) (eC (.int 0))) (eC (.str "name")))) (sRetF (eLst (aCons (e2 dIx (eVar 0) (eC (.int 1))) aNil))) sNil) (sSeq (sIf (tVal (e2 dEq (e2 dIx (eVar 0) (eC (.int 0))) (eC (.str "plus")))) (sRetF (e2 dCat (eA (fun xs => r_law_used (xs ++ [])) (aCons (e2 dIx (eVar 0) (eC (.int 1))) aNil)) (eA (fun xs => r_law_used (xs ++ [])) (aCons (e2 dIx (eVar 0) (eC (.int 2))) aNil)))) sNil) (sSeq (sIf (tVal (e2 dEq (e2 dIx (eVar 0) (eC (.int 0))) (eC (.str "times")))) (sRetF (fun ς => nonScal ((eA (fun xs => r_law_used (xs ++ [])) (aCons (e2 dIx (eVar 0) (eC (.int 2))) aNil)) ς))) sNil) (sRetF (fun ς => nonScal ((eA (fun xs => r_law_used (xs ++ [])) (aCons (e2 dIx (eVar 0) (eC (.int 1))) aNil)) ς))))))
noncomputable def B_law_used (r_law_used : List D → Out D) : List D → Out D := bodyF true 1 1 (T_law_used r_law_used)
theorem u_law_used (r_law_used : List D → Out D) (d0 : D) : B_law_used r_law_used [d0] = (T_law_used r_law_used [some (.k, d0)] >>= retF true) := rfl
theorem d_law_used {P : Program} {w : World} {K : PySem.W.Frag} {mg : Str → Option Value} {base : Heap} {CT : CTab} {f : Addr} {fd : FuncData} {dV : Value} {n : Nat} {r_law_used : List D → Out D} (F : FunV K "_law_used" "_law_used" s_law_used f fd dV) (hn : 0 ≤ n) (h_law_used : DefOk P w K mg base CT "_law_used" n true [] r_law_used) : FnOk P w K mg base CX0 (n + 1) f fd ["_law_one"] (SpD K CT true (B_law_used r_law_used)) :=
    @fnV P w K mg base CT true "_law_used" "_law_used" s_law_used f fd dV ["_law_one"] ["_law_one"] n (T_law_used r_law_used) F sc_law_used fun cdv A outer s H E G hr => 
      (dss_cons (ds_if (dt_eq hr.units (DE.db (de_ix (de_var 0 rfl (Or.inl l_law_used__law_one)) (DE.db de_int))) (DE.db de_str)) (dss_one (ds_retF (df_lst (da_cons (de_ix (de_var 0 rfl (Or.inl l_law_used__law_one)) (DE.db de_int)) da_nil)))) dss_nil) (dss_cons (ds_if (dt_eq hr.units (DE.db (de_ix (de_var 0 rfl (Or.inl l_law_used__law_one)) (DE.db de_int))) (DE.db de_str)) (dss_one (ds_retF (df_cat (de_f h_law_used (hr.mono (by omega)) (da_cons (de_ix (de_var 0 rfl (Or.inl l_law_used__law_one)) (DE.db de_int)) da_nil) g_law_used__law_used) (de_f h_law_used (hr.mono (by omega)) (da_cons (de_ix (de_var 0 rfl (Or.inl l_law_used__law_one)) (DE.db de_int)) da_nil) g_law_used__law_used)))) dss_nil) (dss_cons (ds_if (dt_eq hr.units (DE.db (de_ix (de_var 0 rfl (Or.inl l_law_used__law_one)) (DE.db de_int))) (DE.db de_str)) (dss_one (ds_retF (df_f h_law_used (hr.mono (by omega)) (da_cons (de_ix (de_var 0 rfl (Or.inl l_law_used__law_one)) (DE.db de_int)) da_nil) g_law_used__law_used))) dss_nil) (dss_one (ds_retF (df_f h_law_used (hr.mono (by omega)) (da_cons (de_ix (de_var 0 rfl (Or.inl l_law_used__law_one)) (DE.db de_int)) da_nil) g_law_used__law_used))))))
noncomputable def R_law_used : Nat → (List D → Out D)
  | 0 => (fun _ => .stuck)
  | n + 1 => (B_law_used (R_law_used n))
noncomputable def b_law_used : List D → Out D := (R_law_used 45)
theorem v_law_used (n : Nat) : (R_law_used (n + 1)) = B_law_used (R_law_used n) := rfl
abbrev s_value : Stmt := top 1
theorem sc_value : FnScope ["one", "amounts"] ["one", "amounts"] (defScope s_value) := ⟨rfl, rfl, rfl, by decide +kernel, rfl, by decide +kernel, by decide +kernel⟩
theorem l_value_one : (defScope s_value).names.lookup ("one" : Str) = some NameKind.local := by decide +kernel
theorem l_value_amounts : (defScope s_value).names.lookup ("amounts" : Str) = some NameKind.local := by decide +kernel
theorem g_value_value : (defScope s_value).names.lookup ("value" : Str) = some NameKind.globalImplicit := by decide +kernel
noncomputable def T_value (r_value : List D → Out D) : SD → Out Fl := (sSeq (sIf (tVal (e2 dEq (e2 dIx (eVar 0) (eC (.int 0))) (eC (.str "name")))) (sRet (eDix (eVar 1) (e2 dIx (eVar 0) (eC (.int 1))))) sNil) (sSeq (sIf (tVal (e2 dEq (e2 dIx (eVar 0) (eC (.int 0))) (eC (.str "times")))) (sRet (e2 dMul (e2 dIx (eVar 0) (eC (.int 1))) (eA (fun xs => r_value (xs ++ [])) (aCons (e2 dIx (eVar 0) (eC (.int 2))) (aCons (eVar 1) aNil))))) sNil) (sSeq (sIf (tVal (e2 dEq (e2 dIx (eVar 0) (eC (.int 0))) (eC (.str "plus")))) (sRet (e2 dAdd (eA (fun xs => r_value (xs ++ [])) (aCons (e2 dIx (eVar 0) (eC (.int 1))) (aCons (eVar 1) aNil))) (eA (fun xs => r_value (xs ++ [])) (aCons (e2 dIx (eVar 0) (eC (.int 2))) (aCons (eVar 1) aNil))))) sNil) (sRet (e2 dFdiv (e2 dAdd (eA (fun xs => r_value (xs ++ [])) (aCons (e2 dIx (eVar 0) (eC (.int 1))) (aCons (eVar 1) aNil))) (e2 dIx (eVar 0) (eC (.int 2)))) (e2 dIx (eVar 0) (eC (.int 3))))))))
noncomputable def B_value (r_value : List D → Out D) : List D → Out D := bodyF false 2 2 (T_value r_value)
theorem u_value (r_value : List D → Out D) (d0 d1 : D) : B_value r_value [d0, d1] = (T_value r_value [some (.k, d0), some (.k, d1)] >>= retF false) := rfl
theorem d_value {P : Program} {w : World} {K : PySem.W.Frag} {mg : Str → Option Value} {base : Heap} {CT : CTab} {f : Addr} {fd : FuncData} {dV : Value} {n : Nat} {r_value : List D → Out D} (F : FunV K "value" "value" s_value f fd dV) (hn : 0 ≤ n) (h_value : DefOk P w K mg base CT "value" n false [] r_value) : FnOk P w K mg base CX0 (n + 1) f fd ["one", "amounts"] (SpD K CT false (B_value r_value)) :=
    @fnV P w K mg base CT false "value" "value" s_value f fd dV ["one", "amounts"] ["one", "amounts"] n (T_value r_value) F sc_value fun cdv A outer s H E G hr => 
      (dss_cons (ds_if (dt_eq hr.units (DE.db (de_ix (de_var 0 rfl (Or.inl l_value_one)) (DE.db de_int))) (DE.db de_str)) (dss_one (ds_ret (de_dix hr.units (de_var 1 rfl (Or.inl l_value_amounts)) (DE.db (de_ix (de_var 0 rfl (Or.inl l_value_one)) (DE.db de_int)))))) dss_nil) (dss_cons (ds_if (dt_eq hr.units (DE.db (de_ix (de_var 0 rfl (Or.inl l_value_one)) (DE.db de_int))) (DE.db de_str)) (dss_one (ds_ret (de_mul (DE.db (de_ix (de_var 0 rfl (Or.inl l_value_one)) (DE.db de_int))) (DE.db (de_f h_value (hr.mono (by omega)) (da_cons (de_ix (de_var 0 rfl (Or.inl l_value_one)) (DE.db de_int)) (da_cons (de_var 1 rfl (Or.inl l_value_amounts)) da_nil)) g_value_value))))) dss_nil) (dss_cons (ds_if (dt_eq hr.units (DE.db (de_ix (de_var 0 rfl (Or.inl l_value_one)) (DE.db de_int))) (DE.db de_str)) (dss_one (ds_ret (de_add (DE.db (de_f h_value (hr.mono (by omega)) (da_cons (de_ix (de_var 0 rfl (Or.inl l_value_one)) (DE.db de_int)) (da_cons (de_var 1 rfl (Or.inl l_value_amounts)) da_nil)) g_value_value)) (DE.db (de_f h_value (hr.mono (by omega)) (da_cons (de_ix (de_var 0 rfl (Or.inl l_value_one)) (DE.db de_int)) (da_cons (de_var 1 rfl (Or.inl l_value_amounts)) da_nil)) g_value_value))))) dss_nil) (dss_one (ds_ret (de_fdiv (DE.db (de_add (DE.db (de_f h_value (hr.mono (by omega)) (da_cons (de_ix (de_var 0 rfl (Or.inl l_value_one)) (DE.db de_int)) (da_cons (de_var 1 rfl (Or.inl l_value_amounts)) da_nil)) g_value_value)) (DE.db (de_ix (de_var 0 rfl (Or.inl l_value_one)) (DE.db de_int))))) (DE.db (de_ix (de_var 0 rfl (Or.inl l_value_one)) (DE.db de_int)))))))))
noncomputable def R_value : Nat → (List D → Out D)
  | 0 => (fun _ => .stuck)
  | n + 1 => (B_value (R_value n))
noncomputable def b_value : List D → Out D := (R_value 45)
theorem v_value (n : Nat) : (R_value (n + 1)) = B_value (R_value n) := rfl
abbrev s_law_value : Stmt := top 7
theorem sc_law_value : FnScope ["_law_one", "_law_amounts", "_law_more"] ["_law_one", "_law_amounts"] (defScope s_law_value) := ⟨rfl, rfl, rfl, by decide +kernel, rfl, by decide +kernel, by decide +kernel⟩
theorem l_law_value__law_one : (defScope s_law_value).names.lookup ("_law_one" : Str) = some NameKind.local := by decide +kernel
theorem l_law_value__law_amounts : (defScope s_law_value).names.lookup ("_law_amounts" : Str) = some NameKind.local := by decide +kernel
theorem g_law_value__law_value : (defScope s_law_value).names.lookup ("_law_value" : Str) = some NameKind.globalImplicit := by decide +kernel
theorem l_law_value__law_more : (defScope s_law_value).names.lookup ("_law_more" : Str) = some NameKind.local := by decide +kernel
noncomputable def T_law_value (r_law_value : List D → Out D) : SD → Out Fl := (sSeq (sIf (tVal (e2 dEq (e2 dIx (eVar 0) (eC (.int 0))) (eC (.str "name")))) (sRet (eDix (eVar 1) (e2 dIx (eVar 0) (eC (.int 1))))) sNil) (sSeq (sIf (tVal (e2 dEq (e2 dIx (eVar 0) (eC (.int 0))) (eC (.str "times")))) (sRet (e2 dMul (e2 dIx (eVar 0) (eC (.int 1))) (eA (fun xs => r_law_value (xs ++ [])) (aCons (e2 dIx (eVar 0) (eC (.int 2))) (aCons (eVar 1) aNil))))) sNil) (sSeq (sIf (tVal (e2 dEq (e2 dIx (eVar 0) (eC (.int 0))) (eC (.str "plus")))) (sRet (e2 dAdd (eA (fun xs => r_law_value (xs ++ [])) (aCons (e2 dIx (eVar 0) (eC (.int 1))) (aCons (eVar 1) aNil))) (eA (fun xs => r_law_value (xs ++ [])) (aCons (e2 dIx (eVar 0) (eC (.int 2))) (aCons (eVar 1) aNil))))) sNil) (sSeq (sSet 2 (e2 dAdd (eA (fun xs => r_law_value (xs ++ [])) (aCons (e2 dIx (eVar 0) (eC (.int 1))) (aCons (eVar 1) aNil))) (e2 dIx (eVar 0) (eC (.int 2))))) (sRet (e2 dFdiv (e2 dSub (eVar 2) (e2 dMod (eVar 2) (e2 dIx (eVar 0) (eC (.int 3))))) (e2 dIx (eVar 0) (eC (.int 3)))))))))
noncomputable def B_law_value (r_law_value : List D → Out D) : List D → Out D := bodyF false 2 3 (T_law_value r_law_value)
theorem u_law_value (r_law_value : List D → Out D) (d0 d1 : D) : B_law_value r_law_value [d0, d1] = (T_law_value r_law_value [some (.k, d0), some (.k, d1), none] >>= retF false) := rfl
theorem d_law_value {P : Program} {w : World} {K : PySem.W.Frag} {mg : Str → Option Value} {base : Heap} {CT : CTab} {f : Addr} {fd : FuncData} {dV : Value} {n : Nat} {r_law_value : List D → Out D} (F : FunV K "_law_value" "_law_value" s_law_value f fd dV) (hn : 0 ≤ n) (h_law_value : DefOk P w K mg base CT "_law_value" n false [] r_law_value) : FnOk P w K mg base CX0 (n + 1) f fd ["_law_one", "_law_amounts"] (SpD K CT false (B_law_value r_law_value)) :=
    @fnV P w K mg base CT false "_law_value" "_law_value" s_law_value f fd dV ["_law_one", "_law_amounts", "_law_more"] ["_law_one", "_law_amounts"] n (T_law_value r_law_value) F sc_law_value fun cdv A outer s H E G hr => 
      (dss_cons (ds_if (dt_eq hr.units (DE.db (de_ix (de_var 0 rfl (Or.inl l_law_value__law_one)) (DE.db de_int))) (DE.db de_str)) (dss_one (ds_ret (de_dix hr.units (de_var 1 rfl (Or.inl l_law_value__law_amounts)) (DE.db (de_ix (de_var 0 rfl (Or.inl l_law_value__law_one)) (DE.db de_int)))))) dss_nil) (dss_cons (ds_if (dt_eq hr.units (DE.db (de_ix (de_var 0 rfl (Or.inl l_law_value__law_one)) (DE.db de_int))) (DE.db de_str)) (dss_one (ds_ret (de_mul (DE.db (de_ix (de_var 0 rfl (Or.inl l_law_value__law_one)) (DE.db de_int))) (DE.db (de_f h_law_value (hr.mono (by omega)) (da_cons (de_ix (de_var 0 rfl (Or.inl l_law_value__law_one)) (DE.db de_int)) (da_cons (de_var 1 rfl (Or.inl l_law_value__law_amounts)) da_nil)) g_law_value__law_value))))) dss_nil) (dss_cons (ds_if (dt_eq hr.units (DE.db (de_ix (de_var 0 rfl (Or.inl l_law_value__law_one)) (DE.db de_int))) (DE.db de_str)) (dss_one (ds_ret (de_add (DE.db (de_f h_law_value (hr.mono (by omega)) (da_cons (de_ix (de_var 0 rfl (Or.inl l_law_value__law_one)) (DE.db de_int)) (da_cons (de_var 1 rfl (Or.inl l_law_value__law_amounts)) da_nil)) g_law_value__law_value)) (DE.db (de_f h_law_value (hr.mono (by omega)) (da_cons (de_ix (de_var 0 rfl (Or.inl l_law_value__law_one)) (DE.db de_int)) (da_cons (de_var 1 rfl (Or.inl l_law_value__law_amounts)) da_nil)) g_law_value__law_value))))) dss_nil) (dss_cons (ds_set (i := 2) sc_law_value.nd rfl (Or.inl l_law_value__law_more) (de_add (DE.db (de_f h_law_value (hr.mono (by omega)) (da_cons (de_ix (de_var 0 rfl (Or.inl l_law_value__law_one)) (DE.db de_int)) (da_cons (de_var 1 rfl (Or.inl l_law_value__law_amounts)) da_nil)) g_law_value__law_value)) (DE.db (de_ix (de_var 0 rfl (Or.inl l_law_value__law_one)) (DE.db de_int))))) (dss_one (ds_ret (de_fdiv (DE.db (de_sub (DE.db (de_var 2 rfl (Or.inl l_law_value__law_more))) (DE.db (de_mod (DE.db (de_var 2 rfl (Or.inl l_law_value__law_more))) (DE.db (de_ix (de_var 0 rfl (Or.inl l_law_value__law_one)) (DE.db de_int))))))) (DE.db (de_ix (de_var 0 rfl (Or.inl l_law_value__law_one)) (DE.db de_int))))))))))
noncomputable def R_law_value : Nat → (List D → Out D)
  | 0 => (fun _ => .stuck)
  | n + 1 => (B_law_value (R_law_value n))
noncomputable def b_law_value : List D → Out D := (R_law_value 45)
theorem v_law_value (n : Nat) : (R_law_value (n + 1)) = B_law_value (R_law_value n) := rfl
abbrev s_law_whole : Stmt := top 3
theorem sc_law_whole : FnScope ["_law_found"] ["_law_found"] (defScope s_law_whole) := ⟨rfl, rfl, rfl, by decide +kernel, rfl, by decide +kernel, by decide +kernel⟩
theorem l_law_whole__law_found : (defScope s_law_whole).names.lookup ("_law_found" : Str) = some NameKind.local := by decide +kernel
theorem g_law_whole_int : (defScope s_law_whole).names.lookup ("int" : Str) = some NameKind.globalImplicit := by decide +kernel
theorem g_law_whole_isinstance : (defScope s_law_whole).names.lookup ("isinstance" : Str) = some NameKind.globalImplicit := by decide +kernel
theorem g_law_whole_bool : (defScope s_law_whole).names.lookup ("bool" : Str) = some NameKind.globalImplicit := by decide +kernel
noncomputable def T_law_whole : SD → Out Fl := (sRet (eAnd (eIsa (isaT "int") (eVar 0)) (eNot (eIsa (isaT "bool") (eVar 0)))))
noncomputable def b_law_whole : List D → Out D := bodyF false 1 1 T_law_whole
theorem u_law_whole (d0 : D) : b_law_whole [d0] = (T_law_whole [some (.k, d0)] >>= retF false) := rfl
theorem d_law_whole {P : Program} {w : World} {K : PySem.W.Frag} {mg : Str → Option Value} {base : Heap} {CT : CTab} {f : Addr} {fd : FuncData} {dV : Value} (F : FunV K "_law_whole" "_law_whole" s_law_whole f fd dV) (z_isinstance : mg "isinstance" = none) (z_int : mg "int" = none) (z_bool : mg "bool" = none) : FnOk P w K mg base CX0 1 f fd ["_law_found"] (SpD K CT false b_law_whole) :=
    @fnV P w K mg base CT false "_law_whole" "_law_whole" s_law_whole f fd dV ["_law_found"] ["_law_found"] 0 T_law_whole F sc_law_whole fun cdv A outer s H E G hr => 
      (dss_one (ds_ret (de_and (de_isaB "int" kit_int g_law_whole_int z_int PyProof.Rows.Boot.«int» g_law_whole_isinstance z_isinstance (DE.db (de_var 0 rfl (Or.inl l_law_whole__law_found)))) (de_one (de_not (de_isaB "bool" kit_bool g_law_whole_bool z_bool PyProof.Rows.Boot.«bool» g_law_whole_isinstance z_isinstance (DE.db (de_var 0 rfl (Or.inl l_law_whole__law_found)))))))))
abbrev s_law : Stmt := top 9
theorem sc_law : FnScope ["_law_script", "_law_one", "_law_names", "_law_amounts", "_law_k", "_law_number", "_law_handed", "_law_found", "_law_name_here"] ["_law_script"] (defScope s_law) := ⟨rfl, rfl, rfl, by decide +kernel, rfl, by decide +kernel, by decide +kernel⟩
theorem l_law__law_script : (defScope s_law).names.lookup ("_law_script" : Str) = some NameKind.local := by decide +kernel
theorem g_law__law_built : (defScope s_law).names.lookup ("_law_built" : Str) = some NameKind.globalImplicit := by decide +kernel
theorem l_law__law_one : (defScope s_law).names.lookup ("_law_one" : Str) = some NameKind.local := by decide +kernel
theorem g_law__law_used : (defScope s_law).names.lookup ("_law_used" : Str) = some NameKind.globalImplicit := by decide +kernel
theorem l_law__law_names : (defScope s_law).names.lookup ("_law_names" : Str) = some NameKind.local := by decide +kernel
theorem l_law__law_amounts : (defScope s_law).names.lookup ("_law_amounts" : Str) = some NameKind.local := by decide +kernel
theorem g_law_len : (defScope s_law).names.lookup ("len" : Str) = some NameKind.globalImplicit := by decide +kernel
theorem g_law_range : (defScope s_law).names.lookup ("range" : Str) = some NameKind.globalImplicit := by decide +kernel
theorem l_law__law_k : (defScope s_law).names.lookup ("_law_k" : Str) = some NameKind.local := by decide +kernel
theorem g_law__law_mixed : (defScope s_law).names.lookup ("_law_mixed" : Str) = some NameKind.globalImplicit := by decide +kernel
theorem l_law__law_number : (defScope s_law).names.lookup ("_law_number" : Str) = some NameKind.local := by decide +kernel
noncomputable def L_law_0 : SD → Out Fl := (sSeq (sSet 5 (eA (fun xs => b_law_mixed (xs ++ [])) (aCons (e2 dIx (e2 dCat (eVar 0) (e2 dRep (eLst (aCons (eVar 4) aNil)) (eC (.int 40)))) (eVar 4)) (aCons (e2 dAdd (eVar 4) (eC (.int 5))) aNil)))) (sPutD 3 (e2 dIx (eVar 2) (eVar 4)) (e2 dIx (eLst (aCons (e2 dMod (eVar 5) (eC (.int 20))) (aCons (eVar 5) (aCons (e2 dMod (e2 dMul (eVar 5) (eC (.int 465661287))) (e2 dPow (eC (.int 10)) (eC (.int 18)))) aNil)))) (e2 dMod (eVar 5) (eC (.int 3))))))
theorem g_law_dict : (defScope s_law).names.lookup ("dict" : Str) = some NameKind.globalImplicit := by decide +kernel
theorem l_law__law_handed : (defScope s_law).names.lookup ("_law_handed" : Str) = some NameKind.local := by decide +kernel
theorem g_law_value : (defScope s_law).names.lookup ("value" : Str) = some NameKind.globalImplicit := by decide +kernel
theorem l_law__law_found : (defScope s_law).names.lookup ("_law_found" : Str) = some NameKind.local := by decide +kernel
theorem g_law__law_whole : (defScope s_law).names.lookup ("_law_whole" : Str) = some NameKind.globalImplicit := by decide +kernel
theorem g_law__law_value : (defScope s_law).names.lookup ("_law_value" : Str) = some NameKind.globalImplicit := by decide +kernel
theorem g_law_list : (defScope s_law).names.lookup ("list" : Str) = some NameKind.globalImplicit := by decide +kernel
theorem l_law__law_name_here : (defScope s_law).names.lookup ("_law_name_here" : Str) = some NameKind.local := by decide +kernel
noncomputable def L_law_1 : SD → Out Fl := (sPutD 3 (eVar 8) (e2 dAdd (eDix (eVarB 3) (eVar 8)) (eC (.int 1))))
noncomputable def T_law : SD → Out Fl := (sSeq (sSet 1 (eA (fun xs => b_law_built (xs ++ [])) (aCons (eSl (eVar 0) oNo (oSome (eC (.int 84)))) (aCons (eC (.int 40)) aNil)))) (sSeq (sSet 2 (eA (fun xs => b_law_used (xs ++ [])) (aCons (eVar 1) aNil))) (sSeq (sSetO 3 eDic0) (sSeq (sFor (gN 4) (itR1 (eA fLen (aCons (eVar 2) aNil))) L_law_0) (sSeq (sSet 6 (e1 dDictC (eVarB 3))) (sSeq (sSet 7 (eA (fun xs => b_value (xs ++ [])) (aCons (eVar 1) (aCons (eVar 6) aNil)))) (sSeq (sIf (tOr' (tNot' (tVal (eA (fun xs => b_law_whole (xs ++ [])) (aCons (eVar 7) aNil)))) (tOr' (tVal (e2 dNe (eVar 7) (eA (fun xs => b_law_value (xs ++ [])) (aCons (eVar 1) (aCons (eVarB 3) aNil))))) (tVal (e2 dNeD (eVar 6) (eVarB 3))))) (sRet (eC (.bl false))) sNil) (sSeq (sFor (gN 8) (itL (e1 dListD (eVarB 3))) L_law_1) (sRet (e2 dEq (eA (fun xs => b_value (xs ++ [])) (aCons (eVar 1) (aCons (e1 dDictC (eVarB 3)) aNil))) (eA (fun xs => b_law_value (xs ++ [])) (aCons (eVar 1) (aCons (eVarB 3) aNil)))))))))))))
noncomputable def b_law : List D → Out D := bodyF false 1 9 T_law
theorem u_law (d0 : D) : b_law [d0] = (T_law [some (.k, d0), none, none, none, none, none, none, none, none] >>= retF false) := rfl
theorem d_law {P : Program} {w : World} {K : PySem.W.Frag} {mg : Str → Option Value} {base : Heap} {CT : CTab} {f : Addr} {fd : FuncData} {dV : Value} (F : FunV K "law" "law" s_law f fd dV) (h_law_built : DefOk P w K mg base CT "_law_built" 2 false [] b_law_built) (h_law_used : DefOk P w K mg base CT "_law_used" 46 true [] b_law_used) (h_law_mixed : DefOk P w K mg base CT "_law_mixed" 1 false [] b_law_mixed) (h_value : DefOk P w K mg base CT "value" 46 false [] b_value) (h_law_whole : DefOk P w K mg base CT "_law_whole" 1 false [] b_law_whole) (h_law_value : DefOk P w K mg base CT "_law_value" 46 false [] b_law_value) (z_range : mg "range" = none) (z_len : mg "len" = none) (z_dict : mg "dict" = none) (z_list : mg "list" = none) : FnOk P w K mg base CX0 47 f fd ["_law_script"] (SpD K CT false b_law) :=
    @fnV P w K mg base CT false "law" "law" s_law f fd dV ["_law_script", "_law_one", "_law_names", "_law_amounts", "_law_k", "_law_number", "_law_handed", "_law_found", "_law_name_here"] ["_law_script"] 46 T_law F sc_law fun cdv A outer s H E G hr => 
      (dss_cons (ds_set (i := 1) sc_law.nd rfl (Or.inl l_law__law_one) (de_f h_law_built (hr.mono (by decide)) (da_cons (DF.de (df_sl (de_var 0 rfl (Or.inl l_law__law_script)) do_none (do_some (DE.db de_int)))) (da_cons de_int da_nil)) g_law__law_built)) (dss_cons (ds_set (i := 2) sc_law.nd rfl (Or.inl l_law__law_names) (de_f h_law_used (hr.mono (by decide)) (da_cons (de_var 1 rfl (Or.inl l_law__law_one)) da_nil) g_law__law_used)) (dss_cons (ds_setO (i := 3) sc_law.nd rfl (Or.inl l_law__law_amounts) df_dic0) (dss_cons (ds_forI PassesOwn.never rfl (di_range1 g_law_range z_range (DE.db (de_len g_law_len z_len (dab_cons (DE.db (de_var 2 rfl (Or.inl l_law__law_names))) dab_nil)))) (dg_name (i := 4) sc_law.nd rfl (Or.inl l_law__law_k)) (noExc_gN _) (dss_cons (ds_set (i := 5) sc_law.nd rfl (Or.inl l_law__law_number) (de_f h_law_mixed (hr.mono (by decide)) (da_cons (de_ix (DF.de (df_cat (de_var 0 rfl (Or.inl l_law__law_script)) (DF.de (df_rep (df_lst (da_cons (de_var 4 rfl (Or.inl l_law__law_k)) da_nil)) (DE.db de_int))))) (DE.db (de_var 4 rfl (Or.inl l_law__law_k)))) (da_cons (de_add (DE.db (de_var 4 rfl (Or.inl l_law__law_k))) (DE.db de_int)) da_nil)) g_law__law_mixed)) (dss_one (ds_putD hr.units 3 (DE.db (de_ix (de_var 2 rfl (Or.inl l_law__law_names)) (DE.db (de_var 4 rfl (Or.inl l_law__law_k))))) (de_ix (DF.de (df_lst (da_cons (de_mod (DE.db (de_var 5 rfl (Or.inl l_law__law_number))) (DE.db de_int)) (da_cons (de_var 5 rfl (Or.inl l_law__law_number)) (da_cons (de_mod (DE.db (de_mul (DE.db (de_var 5 rfl (Or.inl l_law__law_number))) (DE.db de_int))) (DE.db (de_pow (DE.db de_int) (DE.db de_int)))) da_nil))))) (DE.db (de_mod (DE.db (de_var 5 rfl (Or.inl l_law__law_number))) (DE.db de_int)))) rfl (Or.inl l_law__law_amounts))))) (dss_cons (ds_set (i := 6) sc_law.nd rfl (Or.inl l_law__law_handed) (DF.de (df_dict g_law_dict z_dict (db_var 3 rfl (Or.inl l_law__law_amounts))))) (dss_cons (ds_set (i := 7) sc_law.nd rfl (Or.inl l_law__law_found) (de_f h_value (hr.mono (by decide)) (da_cons (de_var 1 rfl (Or.inl l_law__law_one)) (da_cons (de_var 6 rfl (Or.inl l_law__law_handed)) da_nil)) g_law_value)) (dss_cons (ds_if (DW.dt (dw_or (dt_not (dt_val (de_f h_law_whole (hr.mono (by decide)) (da_cons (de_var 7 rfl (Or.inl l_law__law_found)) da_nil) g_law__law_whole))) (dw_or (dt_ne hr.units (DE.db (de_var 7 rfl (Or.inl l_law__law_found))) (db_f h_law_value (hr.mono (by decide)) (dab_cons (DE.db (de_var 1 rfl (Or.inl l_law__law_one))) (dab_cons (db_var 3 rfl (Or.inl l_law__law_amounts)) dab_nil)) g_law__law_value)) (dw_or1 (dt_neD hr.units (DE.db (de_var 6 rfl (Or.inl l_law__law_handed))) (db_var 3 rfl (Or.inl l_law__law_amounts))))))) (dss_one (ds_ret de_bl)) dss_nil) (dss_cons (ds_forI PassesOwn.never rfl (di_list (DF.de (df_listD hr.hd g_law_list z_list (db_var 3 rfl (Or.inl l_law__law_amounts))))) (dg_name (i := 8) sc_law.nd rfl (Or.inl l_law__law_name_here)) (noExc_gN _) (dss_one (ds_putD hr.units 3 (DE.db (de_var 8 rfl (Or.inl l_law__law_name_here))) (de_add (db_dix hr.units (db_var 3 rfl (Or.inl l_law__law_amounts)) (DE.db (de_var 8 rfl (Or.inl l_law__law_name_here)))) (DE.db de_int)) rfl (Or.inl l_law__law_amounts)))) (dss_one (ds_ret (de_eq hr.units (DE.db (de_f h_value (hr.mono (by decide)) (da_cons (de_var 1 rfl (Or.inl l_law__law_one)) (da_cons (DF.de (df_dict g_law_dict z_dict (db_var 3 rfl (Or.inl l_law__law_amounts)))) da_nil)) g_law_value)) (db_f h_law_value (hr.mono (by decide)) (dab_cons (DE.db (de_var 1 rfl (Or.inl l_law__law_one))) (dab_cons (db_var 3 rfl (Or.inl l_law__law_amounts)) dab_nil)) g_law__law_value))))))))))))
end My
set_option Elab.async false
set_option linter.all false
set_option maxRecDepth 100000
set_option maxHeartbeats 4000000
set_option exponentiation.threshold 20000
namespace My
open PySem PySem.Spec L2 DL
local macro_rules | `(tactic| walk_at "g") => `(tactic| ((repeat (first | exact l_get0 | apply l_getS)); done))
local macro_rules | `(tactic| walk_at "s") => `(tactic| repeat (first | exact l_set0 | apply l_setS))
local macro_rules | `(tactic| walk_at "all") => `(tactic| repeat (first | with_reducible exact r_setAllN | (apply r_setAllC; focus walk_at "s")))
local macro_rules | `(tactic| walk_at "cap") => `(tactic| repeat (first | exact c_nil | apply c_none | (apply c_k; focus walk_at "g") | (apply c_o; focus walk_at "g") | (apply c_l; focus walk_at "g") | (apply c_s; focus walk_at "g")))
local macro_rules | `(tactic| walk_at "b") => `(tactic| first | rfl | with_reducible assumption | (simp only [Bool.not_eq_true', Bool.not_eq_false', decide_eq_true_eq, decide_eq_false_iff_not, Bool.not_true, Bool.not_false]; first | with_reducible assumption | omega) | (simp; done))
local macro_rules | `(tactic| walk_at "p") => `(tactic| first | decide | with_reducible assumption | omega)
local macro_rules | `(tactic| walk_at "l") => `(tactic| first | decide | with_reducible assumption | (simp only [List.length_map, List.length_cons, List.length_nil, List.length_range, List.length_append]; omega) | omega | (simp; omega))
local macro_rules | `(tactic| walk_at "e") => `(tactic| first
  | ((with_reducible apply r_id); with_reducible assumption)
  | with_reducible exact r_okR | with_reducible exact r_look0
  | with_reducible apply r_var | with_reducible apply r_varB | with_reducible exact r_C | with_reducible exact r_nil | with_reducible exact r_oNo | with_reducible exact r_sNil | with_reducible exact r_thenR
  | with_reducible exact dAdd_int _ _ | with_reducible exact dSub_int _ _ | with_reducible exact dNeg_int _ | with_reducible exact dAbs_int _ | with_reducible exact dLt_int _ _ | with_reducible exact dLe_int _ _ | with_reducible exact dGt_int _ _ | with_reducible exact dGe_int _ _ | with_reducible exact dEq_int _ _ | with_reducible exact dNe_int _ _
  | with_reducible exact dMod_pos (by walk_at "p")
  | with_reducible exact r_rt | with_reducible exact r_rtT | with_reducible exact r_rtS rfl
  | with_reducible apply r_retO
  | with_reducible exact l_set0 | with_reducible apply l_setS
  | with_reducible exact l_cat0 | with_reducible apply l_catS
  | with_reducible exact r_setAllN | with_reducible apply r_setAllC
  | with_reducible exact c_nil | with_reducible apply c_none | ((with_reducible apply c_k); focus walk_at "g") | ((with_reducible apply c_o); focus walk_at "g") | ((with_reducible apply c_l); focus walk_at "g") | ((with_reducible apply c_s); focus walk_at "g")
  | ((with_reducible apply r_scal); exact rfl)
  | ((with_reducible apply r_get); focus walk_at "g")
  | ((with_reducible apply r_bits); with_reducible assumption)
  | ((with_reducible apply bd_mod); focus walk_at "p") | with_reducible apply bd_add | with_reducible apply bd_sub | with_reducible apply bd_mul | with_reducible apply bd_div | with_reducible apply bd_neg | with_reducible exact bd_lit rfl
  | ((with_reducible apply r_dec); focus exact rfl)
  | ((with_reducible apply r_len); focus walk_at "l")
  | with_reducible apply r_mul
  | ((with_reducible apply r_fdiv); focus walk_at "p")
  | ((with_reducible apply r_iteT); focus walk_at "b")
  | ((with_reducible apply r_iteF); focus walk_at "b")
  | with_reducible apply r_cons | with_reducible apply r_e2 | with_reducible apply r_e1 | with_reducible apply r_seq | with_reducible apply r_set | with_reducible apply r_setO | with_reducible apply r_if | with_reducible apply r_then | with_reducible apply r_tVal | with_reducible apply r_not' | with_reducible apply r_or' | with_reducible apply r_and' | with_reducible apply r_eAnd | with_reducible apply r_eOr | with_reducible apply r_eNot | with_reducible apply r_eIf | with_reducible apply r_isa | with_reducible apply r_chain | with_reducible apply r_bind | with_reducible apply r_ret | with_reducible apply r_retF | with_reducible apply r_drop | with_reducible apply r_tup | with_reducible apply r_lst | with_reducible apply r_scalar | with_reducible apply r_nonScal | with_reducible apply r_noX | with_reducible apply r_oSome | with_reducible apply r_body | with_reducible apply r_gN | with_reducible apply r_gT | with_reducible apply r_unp | with_reducible apply r_for | with_reducible apply r_itL | with_reducible apply r_itT | with_reducible apply r_itE | with_reducible apply r_itZ | with_reducible apply r_call | with_reducible apply r_eA | with_reducible apply r_sl | with_reducible apply r_slB | with_reducible apply r_ixO | with_reducible apply r_meth | with_reducible apply r_make | with_reducible apply r_app | with_reducible apply r_put | with_reducible apply r_turn | with_reducible apply r_turnT | with_reducible apply r_self | with_reducible apply r_methS | with_reducible apply r_lm)
structure Tx (x : Str) (n : Nat) : Prop where
  ok : PyData.strOk x = true
  len : x.length ≤ n
theorem strOk_app {x y : Str} (hx : PyData.strOk x = true) (hy : PyData.strOk y = true) : PyData.strOk (x ++ y) = true := by
  show (x.cps ++ y.cps).all _ = true
  rw [Array.all_append]
  exact Bool.and_eq_true_iff.mpr ⟨hx, hy⟩
theorem len_app (x y : Str) : (x ++ y).length = x.length + y.length := by
  show (x.cps ++ y.cps).size = _
  rw [Array.size_append]; rfl
theorem Tx.app {x y : Str} {m n : Nat} (h : Tx x m) (h' : Tx y n) : Tx (x ++ y) (m + n) := ⟨strOk_app h.ok h'.ok, by rw [len_app]; have := h.len; have := h'.len; omega⟩
theorem Tx.le {x : Str} {m n : Nat} (h : Tx x m) (hn : m ≤ n) : Tx x n := ⟨h.ok, Nat.le_trans h.len hn⟩
theorem add_tx {x y : Str} {m n : Nat} (h : Tx x m) (h' : Tx y n) (hs : m + n ≤ 100000) : dAdd (.str x) (.str y) = .ok (.str (x ++ y)) := by
  show (if x.length + y.length ≤ sizeLine then _ else _) = _
  rw [if_pos]
  have := h.len
  have := h'.len
  have h2 : (100000 : Nat) ≤ sizeLine := by decide
  omega
theorem streq {a b : Str} {z : Bool} (ha : PyData.strOk a = true := by decide +kernel) (hb : PyData.strOk b = true := by decide +kernel) (h : (a == b) = z := by decide +kernel) : dEq (.str a) (.str b) = .ok (.bl z) := by rw [dEq_str ha hb, h]
abbrev abc : Str := "abcdefghijklmnopqrstuvwxyz"
structure Nm (x : Str) : Prop where
  tx : Tx x 6
  ne : 1 ≤ x.length
  ls : ∀ c ∈ x.cps.toList, c ∈ abc.cps.toList
inductive Sm where
  | nm (x : Str)
  | tm (k : Int) (s : Sm)
  | pl (s t : Sm)
  | sh (s : Sm) (c d : Int)
def Sm.d : Sm → D
  | .nm x => .tup [.str "name", .str x]
  | .tm k s => .tup [.str "times", .int k, s.d]
  | .pl s t => .tup [.str "plus", s.d, t.d]
  | .sh s c d => .tup [.str "share", s.d, .int c, .int d]
def Sm.ok : Sm → Prop
  | .nm x => Nm x
  | .tm k s => (0 ≤ k ∧ k ≤ 9) ∧ s.ok
  | .pl s t => s.ok ∧ t.ok
  | .sh s c d => (0 ≤ c ∧ c < d) ∧ d ≤ 12 ∧ s.ok
def Sm.parts : Sm → Nat
  | .nm _ => 1
  | .tm _ s => s.parts + 1
  | .pl s t => s.parts + t.parts + 1
  | .sh s _ _ => s.parts + 1
def Sm.dep : Sm → Nat
  | .nm _ => 1
  | .tm _ s => s.dep + 1
  | .pl s t => max s.dep t.dep + 1
  | .sh s _ _ => s.dep + 1
theorem Sm.dep_le : ∀ s : Sm, s.dep ≤ s.parts
  | .nm _ => Nat.le_refl _
  | .tm _ s => Nat.succ_le_succ s.dep_le
  | .pl s t => by
    have h1 := s.dep_le
    have h2 := t.dep_le
    show max s.dep t.dep + 1 ≤ s.parts + t.parts + 1
    omega
  | .sh s _ _ => Nat.succ_le_succ s.dep_le
theorem mixed_ok {c k : Int} (hk0 : 0 ≤ k) (hk : k ≤ 1000) : ∃ w : Int, b_law_mixed [.int c, .int k] = .ok (.int w) ∧ 0 ≤ w ∧ w < 2147483629 := by
  have c0 := Int.emod_nonneg c (b := 2147483647) (by decide)
  have c1 := Int.emod_lt_of_pos c (b := 2147483647) (by decide)
  have M : ∀ i j : Int, i.natAbs < 2 ^ 60 → j.natAbs < 2 ^ 60 → dMul (.int i) (.int j) = .ok (.int (i * j)) := fun i j h1 h2 => dMul_of (bits_of h1) (bits_of h2) (by decide)
  have kk : 2 * k * k ≤ 2000000 := by
    have := Int.mul_le_mul (show 2 * k ≤ 2000 by omega) hk hk0 (by decide)
    omega
  have kk0 : 0 ≤ 2 * k * k := Int.mul_nonneg (by omega) hk0
  have m1 := M 2 k (by decide) (by omega)
  have m2 := M (2 * k) k (by omega) (by omega)
  have m3 := M (c % 2147483647 + 11) (48271 + 2 * k * k) (by omega) (by omega)
  refine ⟨(c % 2147483647 + 11) * (48271 + 2 * k * k) % 2147483629, ?_, Int.emod_nonneg _ (by decide), Int.emod_lt_of_pos _ (by decide)⟩
  simp only [b_law_mixed, T_law_mixed, bodyF, retF, sSeq, thenF, sSet, sRet, sIf, sNil, eVar, eC, e1, e2, eA, f1, aNil, aCons, tVal, tAnd', tOr', tNot', eAnd, eOr, eNot, eIf, eTup, eLst, eIsa, isaT, tyName, oNo, oSome, sPar, sUnp, setAll, gN, gT, fLen, fits_small, Out.bind_ok, Out.bind_exc, Out.bind_stuck, Out.pure_eq, D.scal, dAdd_int, dSub_int, dNeg_int, dAbs_int, dLt_int, dLe_int, dGt_int, dGe_int, dEq_int, dNe_int, List.length_cons, List.length_nil, List.map_cons, List.map_nil, List.cons_append, List.nil_append, List.append_nil, List.getElem?_cons_zero, List.getElem?_cons_succ, List.set_cons_zero, List.set_cons_succ, List.replicate, Nat.reduceAdd, Nat.reduceSub, Nat.reduceLeDiff, Nat.zero_add, Nat.add_zero, reduceIte, Bool.not_true, Bool.not_false, Bool.true_and, Bool.and_true, Bool.false_and, Bool.and_false, Bool.or_true, Bool.true_or, Bool.or_false, Bool.false_or, Bool.false_eq_true, decide_true, decide_false, decide_eq_true_eq, Bool.not_eq_true', decide_eq_false_iff_not, Int.reduceEq, Int.reduceLT, Int.reduceLE, Int.reduceNeg, Nat.reduceEqDiff, ↓reduceIte, not_true_eq_false, not_false_eq_true, dMod_pos (show (0 : Int) < 2147483647 by decide), dMod_pos (show (0 : Int) < 2147483629 by decide), m1, m2, m3]
theorem ixS {z : Str} {i : Int} (hz : z.length ≤ 1000) (ho : PyData.strOk z = true) (h0 : 0 ≤ i) (h1 : i < z.length) : ∃ c, c ∈ z.cps.toList ∧ dIx (.str z) (.int i) = .ok (.str ⟨#[c]⟩) ∧ Tx ⟨#[c]⟩ 1 := by
  obtain ⟨n, rfl⟩ : ∃ n : Nat, i = n := ⟨i.toNat, by omega⟩
  have hn : n < z.cps.toList.length := by rw [str_len]; omega
  refine ⟨z.cps.toList[n], List.getElem_mem hn, ?_, ?_, Nat.le_refl _⟩
  · show (if fits z.length = true then optO ((atI z.cps.toList (n : Int)).map fun c => D.str ⟨#[c]⟩) else .stuck) = _
    rw [if_pos (fits_of hz), atI_nat (List.getElem?_eq_getElem hn)]
    rfl
  · have h : z.cps.toList.all (· < 0x110000) = true := by rw [Array.all_toList]; exact ho
    have := List.all_eq_true.mp h _ (List.getElem_mem hn)
    show (#[z.cps.toList[n]] : Array Nat).all (· < 0x110000) = true
    simpa using this
theorem letters_tx : Tx ("abcdefghijklmnopqrstuvwxyz" : Str) 26 := ⟨by decide +kernel, by decide +kernel⟩
theorem letters_len : ("abcdefghijklmnopqrstuvwxyz" : Str).length = 26 := by decide +kernel
theorem name_ok {n : Int} (h0 : 0 ≤ n) (h1 : n < 2147483629) : ∃ x, b_law_name [.int n] = .ok (.str x) ∧ Nm x := by
  have m0 := Int.emod_nonneg n (b := 6) (by decide)
  have m1 := Int.emod_lt_of_pos n (b := 6) (by decide)
  obtain ⟨ς', hL, t, a3, rfl, ht, hk, hc⟩ := loop_rangeK (body := fun x ς => gN 3 x ς >>= fun ς' => L_law_name_0 ς') (n := (1 + n % 6).toNat)
    (P := fun k ς => ∃ (t : Str) (a3 : Option (SM × D)), ς = [some (.k, .int n), some (.k, .str "abcdefghijklmnopqrstuvwxyz"), some (.k, .str t), a3] ∧ Tx t k ∧ t.length = k ∧ ∀ c ∈ t.cps.toList, c ∈ abc.cps.toList)
    (by
      rintro k hk ς ⟨t, a3, rfl, ht, hkl, hc⟩
      have k6 : k ≤ 6 := by omega
      have M : ∀ i j : Int, i.natAbs < 2 ^ 60 → j.natAbs < 2 ^ 60 → dMul (.int i) (.int j) = .ok (.int (i * j)) := fun i j h1 h2 => dMul_of (bits_of h1) (bits_of h2) (by decide)
      have e1' := M 2 k (by decide) (by omega)
      have e2' := M n (2 * k + 3) (by omega) (by omega)
      have q1 : dMod (.int (n * (2 * k + 3))) (.int 1000003) = .ok (.int (n * (2 * k + 3) % 1000003)) := dMod_pos (by decide)
      have q2 : dMod (.int (n * (2 * k + 3) % 1000003)) (.int 26) = .ok (.int (n * (2 * k + 3) % 1000003 % 26)) := dMod_pos (by decide)
      obtain ⟨c, hcm, ex, hx⟩ := ixS (z := "abcdefghijklmnopqrstuvwxyz") (i := n * (2 * k + 3) % 1000003 % 26) (by rw [letters_len]; decide) letters_tx.ok (Int.emod_nonneg _ (by omega)) (by rw [letters_len]; exact Int.emod_lt_of_pos _ (by decide))
      have ha := add_tx ht hx (by omega)
      refine ⟨[some (.k, .int n), some (.k, .str "abcdefghijklmnopqrstuvwxyz"), some (.k, .str (t ++ ⟨#[c]⟩)), some (.k, .int k)], ?_, t ++ ⟨#[c]⟩, _, rfl, ht.app hx, by rw [len_app, hkl]; rfl, fun c' hc' => ?_⟩
      · refine r_gN (by walk_at "s") ?_
        unfold L_law_name_0
        (repeat walk_at "e")
      · have hc' : c' ∈ (t.cps ++ #[c]).toList := hc'
        rw [Array.toList_append, List.mem_append] at hc'
        rcases hc' with h | h
        · exact hc c' h
        · rw [List.mem_singleton.mp h]; exact hcm)
    [some (.k, .int n), some (.k, .str "abcdefghijklmnopqrstuvwxyz"), some (.k, .str ""), none] ⟨"", none, rfl, ⟨by decide +kernel, by decide +kernel⟩, by decide +kernel, by decide +kernel⟩
  have hr : e2 dAdd (eC (.int 1)) (e2 dMod (eVar 0) (eC (.int 6))) [some (.k, .int n), some (.k, .str "abcdefghijklmnopqrstuvwxyz"), some (.k, .str ""), none] = .ok (.int (((1 + n % 6).toNat : Nat) : Int)) := by
    rw [show (((1 + n % 6).toNat : Nat) : Int) = 1 + n % 6 by omega]
    (repeat walk_at "e")
  have hfor := sFor_of (g := gN 3) (its := itR1 (e2 dAdd (eC (.int 1)) (e2 dMod (eVar 0) (eC (.int 6))))) (T := L_law_name_0) (rng_ok (1 + n % 6).toNat hr (by omega)) hL
  refine ⟨t, ?_, ht.le (by omega), by omega, hc⟩
  rw [u_law_name]
  unfold T_law_name
  (repeat walk_at "e")
theorem built_ok {cs : List Int} (hl : cs.length ≤ 84) : ∃ s : Sm, s.ok ∧ s.parts ≤ 40 ∧ b_law_built [.lst (cs.map .int), .int 40] = .ok s.d := by
  have hlen : fLen [.lst (cs.map D.int)] = .ok (.int (cs.length : Int)) := by simp [fLen]
  obtain ⟨w1, hw1, w10, w11⟩ := mixed_ok (c := (cs.length : Int)) (k := 1) (by decide) (by decide)
  obtain ⟨x0, hx0, tx0⟩ := name_ok w10 w11
  obtain ⟨ς', hL, s, p, a4, a5, a6, a7, a8, a9, rfl, so, hp, sp⟩ := loop_range (body := fun x ς => gN 4 x ς >>= fun ς' => L_law_built_0 ς') (n := cs.length)
    (P := fun ς => ∃ (s : Sm) (p : Int) (a4 a5 a6 a7 a8 a9 : Option (SM × D)), ς = [some (.k, .lst (cs.map .int)), some (.k, .int 40), some (.k, s.d), some (.k, .int p), a4, a5, a6, a7, a8, a9] ∧ s.ok ∧ p = (s.parts : Int) ∧ s.parts ≤ 40)
    (by
      rintro k hk ς ⟨s, p, a4, a5, a6, a7, a8, a9, rfl, so, hp, sp⟩
      have hix : dIx (.lst (cs.map D.int)) (.int (k : Int)) = .ok (.int cs[k]) := ixL k (by rw [List.getElem?_map, List.getElem?_eq_getElem hk]; rfl)
      obtain ⟨n, hn, n0, n1⟩ := mixed_ok (c := cs[k]) (k := (k : Int)) (by omega) (by omega)
      have d6 : dFdiv (.int n) (.int 6) = .ok (.int (n / 6)) := dFdiv_pos (by decide) (by decide)
      have d36 : dFdiv (.int n) (.int 36) = .ok (.int (n / 36)) := dFdiv_pos (by decide) (by decide)
      have d432 : dFdiv (.int n) (.int 432) = .ok (.int (n / 432)) := dFdiv_pos (by decide) (by decide)
      have p6 : dMod (.int n) (.int 6) = .ok (.int (n % 6)) := dMod_pos (by decide)
      have p10 : dMod (.int (n / 36)) (.int 10) = .ok (.int (n / 36 % 10)) := dMod_pos (by decide)
      have p12 : dMod (.int (n / 36)) (.int 12) = .ok (.int (n / 36 % 12)) := dMod_pos (by decide)
      obtain ⟨x, hx, tx⟩ := name_ok (n := n / 6) (by omega) (by omega)
      obtain ⟨w, hw⟩ : ∃ w, w = n % 6 := ⟨_, rfl⟩
      rw [← hw] at p6
      have pmany : dMod (.int (n / 432)) (.int (1 + n / 36 % 12)) = .ok (.int (n / 432 % (1 + n / 36 % 12))) := dMod_pos (by omega)
      have m0 := Int.emod_nonneg (n / 432) (b := 1 + n / 36 % 12) (by omega)
      have m1 := Int.emod_lt_of_pos (n / 432) (b := 1 + n / 36 % 12) (by omega)
      refine (show ∃ ς', (gN 4 (D.int k) _ >>= fun ς' => L_law_built_0 ς') = Out.ok (Fl.nx ς') ∧ _ from ?_)
      unfold L_law_built_0
      have hw6 : w = 0 ∨ w = 1 ∨ w = 2 ∨ w = 3 ∨ w = 4 ∨ w = 5 := by omega
      rcases hw6 with h | h | h | h | h | h
      · by_cases hp4 : p < 40
        · refine ⟨[some (.k, .lst (cs.map .int)), some (.k, .int 40), some (.k, .tup [.str "times", .int (n / 36 % 10), s.d]), some (.k, .int (p + 1)), some (.k, .int k), some (.k, .int n), some (.k, .tup [.str "name", .str x]), some (.k, .int w), a8, a9], ?_, Sm.tm (n / 36 % 10) s, p + 1, _, _, _, _, _, _, rfl, ⟨⟨by omega, by omega⟩, so⟩, ?_, ?_⟩
          · refine r_gN (by walk_at "s") ?_
            (repeat walk_at "e")
          · show p + 1 = ((s.parts + 1 : Nat) : Int); omega
          · show s.parts + 1 ≤ 40; omega
        · refine ⟨[some (.k, .lst (cs.map .int)), some (.k, .int 40), some (.k, s.d), some (.k, .int p), some (.k, .int k), some (.k, .int n), some (.k, .tup [.str "name", .str x]), some (.k, .int w), a8, a9], ?_, s, p, _, _, _, _, _, _, rfl, so, hp, sp⟩
          refine r_gN (by walk_at "s") ?_
          (repeat walk_at "e")
      · by_cases hp4 : p < 40
        · refine ⟨[some (.k, .lst (cs.map .int)), some (.k, .int 40), some (.k, .tup [.str "share", s.d, .int (n / 432 % (1 + n / 36 % 12)), .int (1 + n / 36 % 12)]), some (.k, .int (p + 1)), some (.k, .int k), some (.k, .int n), some (.k, .tup [.str "name", .str x]), some (.k, .int w), some (.k, .int (1 + n / 36 % 12)), a9], ?_, Sm.sh s (n / 432 % (1 + n / 36 % 12)) (1 + n / 36 % 12), p + 1, _, _, _, _, _, _, rfl, ⟨⟨m0, m1⟩, by omega, so⟩, ?_, ?_⟩
          · refine r_gN (by walk_at "s") ?_
            (repeat walk_at "e")
          · show p + 1 = ((s.parts + 1 : Nat) : Int); omega
          · show s.parts + 1 ≤ 40; omega
        · refine ⟨[some (.k, .lst (cs.map .int)), some (.k, .int 40), some (.k, s.d), some (.k, .int p), some (.k, .int k), some (.k, .int n), some (.k, .tup [.str "name", .str x]), some (.k, .int w), a8, a9], ?_, s, p, _, _, _, _, _, _, rfl, so, hp, sp⟩
          refine r_gN (by walk_at "s") ?_
          (repeat walk_at "e")
      · by_cases hp4 : p + 1 < 40
        · refine ⟨[some (.k, .lst (cs.map .int)), some (.k, .int 40), some (.k, .tup [.str "plus", s.d, .tup [.str "name", .str x]]), some (.k, .int (p + 2)), some (.k, .int k), some (.k, .int n), some (.k, .tup [.str "name", .str x]), some (.k, .int w), a8, a9], ?_, Sm.pl s (Sm.nm x), p + 2, _, _, _, _, _, _, rfl, ⟨so, tx⟩, ?_, ?_⟩
          · refine r_gN (by walk_at "s") ?_
            (repeat walk_at "e")
          · show p + 2 = ((s.parts + 1 + 1 : Nat) : Int); omega
          · show s.parts + 1 + 1 ≤ 40; omega
        · refine ⟨[some (.k, .lst (cs.map .int)), some (.k, .int 40), some (.k, s.d), some (.k, .int p), some (.k, .int k), some (.k, .int n), some (.k, .tup [.str "name", .str x]), some (.k, .int w), a8, a9], ?_, s, p, _, _, _, _, _, _, rfl, so, hp, sp⟩
          refine r_gN (by walk_at "s") ?_
          (repeat walk_at "e")
      · by_cases hp4 : p + 1 < 40
        · refine ⟨[some (.k, .lst (cs.map .int)), some (.k, .int 40), some (.k, .tup [.str "plus", .tup [.str "name", .str x], s.d]), some (.k, .int (p + 2)), some (.k, .int k), some (.k, .int n), some (.k, .tup [.str "name", .str x]), some (.k, .int w), a8, a9], ?_, Sm.pl (Sm.nm x) s, p + 2, _, _, _, _, _, _, rfl, ⟨tx, so⟩, ?_, ?_⟩
          · refine r_gN (by walk_at "s") ?_
            (repeat walk_at "e")
          · show p + 2 = ((1 + s.parts + 1 : Nat) : Int); omega
          · show 1 + s.parts + 1 ≤ 40; omega
        · refine ⟨[some (.k, .lst (cs.map .int)), some (.k, .int 40), some (.k, s.d), some (.k, .int p), some (.k, .int k), some (.k, .int n), some (.k, .tup [.str "name", .str x]), some (.k, .int w), a8, a9], ?_, s, p, _, _, _, _, _, _, rfl, so, hp, sp⟩
          refine r_gN (by walk_at "s") ?_
          (repeat walk_at "e")
      · by_cases hp4 : p + 4 < 40
        · have hc : dIx (.lst [.tup [.str "plus", s.d, .tup [.str "plus", .tup [.str "name", .str x], .tup [.str "times", .int (n / 36 % 10), .tup [.str "name", .str x]]]], .tup [.str "plus", .tup [.str "plus", .tup [.str "name", .str x], .tup [.str "times", .int (n / 36 % 10), .tup [.str "name", .str x]]], s.d]]) (.int (w - 4)) = .ok (.tup [.str "plus", s.d, .tup [.str "plus", .tup [.str "name", .str x], .tup [.str "times", .int (n / 36 % 10), .tup [.str "name", .str x]]]]) := by
            rw [show w - 4 = ((0 : Nat) : Int) by omega]; exact ixL 0 rfl
          refine ⟨[some (.k, .lst (cs.map .int)), some (.k, .int 40), some (.k, .tup [.str "plus", s.d, .tup [.str "plus", .tup [.str "name", .str x], .tup [.str "times", .int (n / 36 % 10), .tup [.str "name", .str x]]]]), some (.k, .int (p + 5)), some (.k, .int k), some (.k, .int n), some (.k, .tup [.str "name", .str x]), some (.k, .int w), a8, some (.k, .tup [.str "plus", .tup [.str "name", .str x], .tup [.str "times", .int (n / 36 % 10), .tup [.str "name", .str x]]])], ?_, Sm.pl s (Sm.pl (Sm.nm x) (Sm.tm (n / 36 % 10) (Sm.nm x))), p + 5, _, _, _, _, _, _, rfl, ⟨so, tx, ⟨by omega, by omega⟩, tx⟩, ?_, ?_⟩
          · refine r_gN (by walk_at "s") ?_
            (repeat walk_at "e")
          · show p + 5 = ((s.parts + (1 + (1 + 1) + 1) + 1 : Nat) : Int); omega
          · show s.parts + (1 + (1 + 1) + 1) + 1 ≤ 40; omega
        · refine ⟨[some (.k, .lst (cs.map .int)), some (.k, .int 40), some (.k, s.d), some (.k, .int p), some (.k, .int k), some (.k, .int n), some (.k, .tup [.str "name", .str x]), some (.k, .int w), a8, a9], ?_, s, p, _, _, _, _, _, _, rfl, so, hp, sp⟩
          refine r_gN (by walk_at "s") ?_
          (repeat walk_at "e")
      · by_cases hp4 : p + 4 < 40
        · have hc : dIx (.lst [.tup [.str "plus", s.d, .tup [.str "plus", .tup [.str "name", .str x], .tup [.str "times", .int (n / 36 % 10), .tup [.str "name", .str x]]]], .tup [.str "plus", .tup [.str "plus", .tup [.str "name", .str x], .tup [.str "times", .int (n / 36 % 10), .tup [.str "name", .str x]]], s.d]]) (.int (w - 4)) = .ok (.tup [.str "plus", .tup [.str "plus", .tup [.str "name", .str x], .tup [.str "times", .int (n / 36 % 10), .tup [.str "name", .str x]]], s.d]) := by
            rw [show w - 4 = ((1 : Nat) : Int) by omega]; exact ixL 1 rfl
          refine ⟨[some (.k, .lst (cs.map .int)), some (.k, .int 40), some (.k, .tup [.str "plus", .tup [.str "plus", .tup [.str "name", .str x], .tup [.str "times", .int (n / 36 % 10), .tup [.str "name", .str x]]], s.d]), some (.k, .int (p + 5)), some (.k, .int k), some (.k, .int n), some (.k, .tup [.str "name", .str x]), some (.k, .int w), a8, some (.k, .tup [.str "plus", .tup [.str "name", .str x], .tup [.str "times", .int (n / 36 % 10), .tup [.str "name", .str x]]])], ?_, Sm.pl (Sm.pl (Sm.nm x) (Sm.tm (n / 36 % 10) (Sm.nm x))) s, p + 5, _, _, _, _, _, _, rfl, ⟨⟨tx, ⟨by omega, by omega⟩, tx⟩, so⟩, ?_, ?_⟩
          · refine r_gN (by walk_at "s") ?_
            (repeat walk_at "e")
          · show p + 5 = ((1 + (1 + 1) + 1 + s.parts + 1 : Nat) : Int); omega
          · show 1 + (1 + 1) + 1 + s.parts + 1 ≤ 40; omega
        · refine ⟨[some (.k, .lst (cs.map .int)), some (.k, .int 40), some (.k, s.d), some (.k, .int p), some (.k, .int k), some (.k, .int n), some (.k, .tup [.str "name", .str x]), some (.k, .int w), a8, a9], ?_, s, p, _, _, _, _, _, _, rfl, so, hp, sp⟩
          refine r_gN (by walk_at "s") ?_
          (repeat walk_at "e"))
    [some (.k, .lst (cs.map .int)), some (.k, .int 40), some (.k, .tup [.str "name", .str x0]), some (.k, .int 1), none, none, none, none, none, none] ⟨Sm.nm x0, 1, none, none, none, none, none, none, rfl, tx0, rfl, by show 1 ≤ 40; decide⟩
  have hlen' : eA fLen (aCons (eVar 0) aNil) [some (.k, .lst (cs.map .int)), some (.k, .int 40), some (.k, .tup [.str "name", .str x0]), some (.k, .int 1), none, none, none, none, none, none] = .ok (.int (cs.length : Int)) := by (repeat walk_at "e")
  have hfor := sFor_of (g := gN 4) (its := itR1 (eA fLen (aCons (eVar 0) aNil))) (T := L_law_built_0) (rng_ok cs.length hlen' (by omega)) hL
  refine ⟨s, so, sp, ?_⟩
  rw [u_law_built]
  unfold T_law_built
  (repeat walk_at "e")
theorem size_le {n : Nat} (h : n ≤ 1000) : decide (n < sizeLine) = true := decide_eq_true (Nat.lt_of_le_of_lt h (by decide))
theorem r_putD {i : Nat} {I E : SD → Out D} {ς ς' : SD} {kds : List (Key × D)} {d y : D} {k : Key} (a : E ς = .ok d) (e : ς[i]? = some (some (.o, .dic kds))) (a' : I ς = .ok y) (hk : dkey y = some k) (hl : kds.length ≤ 1000) (l : ς.set i (some (.o, .dic (putKD kds k d))) = ς') : sPutD i I E ς = .ok (.nx ς') := by
  unfold sPutD
  rw [a, Out.bind_ok, e]
  show (I ς >>= _) = _
  rw [a', Out.bind_ok, hk]
  show (if _ then _ else _) = _
  rw [if_pos (size_le hl), l]
theorem r_dix {A B : SD → Out D} {ς : SD} {kds : List (Key × D)} {y d : D} {k : Key} (a : A ς = .ok (.dic kds)) (a' : B ς = .ok y) (hk : dkey y = some k) (hv : valD kds k = some d) : eDix A B ς = .ok d := by
  unfold eDix
  rw [a, Out.bind_ok]
  show (B ς >>= _) = _
  rw [a', Out.bind_ok, hk]
  show optO (valD kds k) = _
  rw [hv]; rfl
abbrev dI (xs : List (Key × Int)) : List (Key × D) := xs.map fun kv => (kv.1, D.int kv.2)
def vI (xs : List (Key × Int)) (k : Key) : Option Int := (xs.find? fun kv => decide (kv.1 = k)).map (·.2)
theorem valD_dI (k : Key) : ∀ xs : List (Key × Int), valD (dI xs) k = (vI xs k).map D.int
  | [] => rfl
  | (k', v) :: r => by
    have ih := valD_dI k r
    by_cases e : k' = k
    · simp [valD, vI, e]
    · have a : valD (dI ((k', v) :: r)) k = valD (dI r) k := by simp [valD, List.find?_cons, e]
      have b : vI ((k', v) :: r) k = vI r k := by simp [vI, List.find?_cons, e]
      rw [a, b, ih]
def putI (xs : List (Key × Int)) (k : Key) (v : Int) : List (Key × Int) :=
  if (xs.any fun kv => decide (kv.1 = k)) = true then xs.map (fun kv => if kv.1 = k then (kv.1, v) else kv) else xs ++ [(k, v)]
theorem put_dI (xs : List (Key × Int)) (k : Key) (v : Int) : putKD (dI xs) k (.int v) = dI (putI xs k v) := by
  unfold putKD putI
  have ha : ((dI xs).any fun kv => decide (kv.1 = k)) = xs.any fun kv => decide (kv.1 = k) := by rw [List.any_map]; rfl
  rw [ha]
  split
  · show (List.map (fun kv : Key × Int => (kv.1, D.int kv.2)) xs).map _ = List.map (fun kv : Key × Int => (kv.1, D.int kv.2)) (xs.map _)
    rw [List.map_map, List.map_map]
    apply List.map_congr_left
    intro kv _
    show (if kv.1 = k then (kv.1, D.int v) else (kv.1, D.int kv.2)) = ((fun kv : Key × Int => (kv.1, D.int kv.2)) (if kv.1 = k then (kv.1, v) else kv))
    split <;> rfl
  · show _ = List.map (fun kv : Key × Int => (kv.1, D.int kv.2)) (xs ++ [(k, v)])
    rw [List.map_append]; rfl
def has (xs : List (Key × Int)) (k : Key) : Prop := ∃ v, (k, v) ∈ xs
theorem has_self (xs : List (Key × Int)) (k : Key) (v : Int) : has (putI xs k v) k := by
  unfold putI
  split
  · rename_i h
    obtain ⟨kv, hm, e⟩ := List.any_eq_true.mp h
    have e : kv.1 = k := of_decide_eq_true e
    exact ⟨v, List.mem_map.mpr ⟨kv, hm, by rw [if_pos e, e]⟩⟩
  · exact ⟨v, List.mem_append_right _ (List.mem_singleton.mpr rfl)⟩
theorem has_put {xs : List (Key × Int)} {j : Key} (h : has xs j) (k : Key) (v : Int) : has (putI xs k v) j := by
  obtain ⟨w, hm⟩ := h
  unfold putI
  split
  · by_cases e : j = k
    · exact ⟨v, List.mem_map.mpr ⟨(j, w), hm, by rw [if_pos (show ((j, w) : Key × Int).1 = k from e)]⟩⟩
    · exact ⟨w, List.mem_map.mpr ⟨(j, w), hm, by rw [if_neg (show ¬ ((j, w) : Key × Int).1 = k from e)]⟩⟩
  · exact ⟨w, List.mem_append_left _ hm⟩
theorem put_len (xs : List (Key × Int)) (k : Key) (v : Int) : (putI xs k v).length ≤ xs.length + 1 := by
  unfold putI
  split
  · rw [List.length_map]; omega
  · rw [List.length_append]; exact Nat.le_refl _
theorem put_all {P : Int → Prop} {xs : List (Key × Int)} (h : ∀ kv ∈ xs, P kv.2) {k : Key} {v : Int} (hv : P v) : ∀ kv ∈ putI xs k v, P kv.2 := by
  intro kv hm
  unfold putI at hm
  split at hm
  · obtain ⟨q, hq, e⟩ := List.mem_map.mp hm
    subst e
    split
    · exact hv
    · exact h q hq
  · rcases List.mem_append.mp hm with hm | hm
    · exact h kv hm
    · rw [List.mem_singleton.mp hm]; exact hv
theorem vI_has : ∀ {xs : List (Key × Int)} {k : Key}, has xs k → ∃ v, vI xs k = some v ∧ (k, v) ∈ xs
  | [], _, ⟨_, h⟩ => by cases h
  | (k', w) :: r, k, ⟨v, h⟩ => by
    by_cases e : k' = k
    · subst e
      exact ⟨w, by simp [vI], List.mem_cons_self⟩
    · rcases List.mem_cons.mp h with h | h
      · cases h; exact absurd rfl e
      · obtain ⟨u, hu, hm⟩ := vI_has ⟨v, h⟩
        exact ⟨u, by rw [← hu]; simp [vI, List.find?_cons, e], List.mem_cons_of_mem _ hm⟩
theorem ints_dI : ∀ xs : List (Key × Int), intsK (dI xs) = some xs
  | [] => rfl
  | (k, v) :: r => by
    show (intsK (dI r)).map (fun q => (k, v) :: q) = _
    rw [ints_dI r]; rfl
theorem scal_dI : ∀ xs : List (Key × Int), scalK (dI xs) = true
  | [] => rfl
  | (k, v) :: r => scal_dI r
theorem copy_ok (xs : List (Key × Int)) : dDictC (.dic (dI xs)) = .ok (.dic (dI xs)) := by
  show (if scalK (dI xs) = true then _ else _) = _
  rw [if_pos (scal_dI xs)]
theorem same_ok (xs : List (Key × Int)) : dNeD (.dic (dI xs)) (.dic (dI xs)) = .ok (.bl false) := by
  show (match intsK (dI xs), intsK (dI xs) with
    | some x, some y => if x = y then Out.ok (D.bl false) else .stuck
    | _, _ => .stuck) = _
  rw [ints_dI]
  exact if_pos rfl
def Sm.used : Sm → List Str
  | .nm x => [x]
  | .tm _ s => s.used
  | .pl s t => s.used ++ t.used
  | .sh s _ _ => s.used
theorem Sm.used_le : ∀ s : Sm, s.used.length ≤ s.parts
  | .nm _ => Nat.le_refl _
  | .tm _ s => Nat.le_trans s.used_le (Nat.le_succ _)
  | .pl s t => by
    have h1 := s.used_le
    have h2 := t.used_le
    show (s.used ++ t.used).length ≤ s.parts + t.parts + 1
    rw [List.length_append]; omega
  | .sh s _ _ => Nat.le_trans s.used_le (Nat.le_succ _)
def Sm.val (f : Str → Int) : Sm → Int
  | .nm x => f x
  | .tm k s => k * s.val f
  | .pl s t => s.val f + t.val f
  | .sh s c d => (s.val f + c) / d
def big2 (p : Nat) : Nat := 2 ^ (60 + 4 * p)
theorem big2_s (p : Nat) : big2 (p + 1) = big2 p * 16 := by
  unfold big2
  rw [show 60 + 4 * (p + 1) = (60 + 4 * p) + 4 by omega, Nat.pow_add]
theorem big2_pos (p : Nat) : 1 ≤ big2 p := Nat.one_le_two_pow
theorem big2_le {p q : Nat} (h : p ≤ q) : big2 p ≤ big2 q := Nat.pow_le_pow_right (by decide) (by omega)
theorem big2_0 : big2 0 = 2 ^ 60 := rfl
theorem val_bd {f : Str → Int} : ∀ s : Sm, s.ok → (∀ x ∈ s.used, 0 ≤ f x ∧ f x < 2 ^ 60) → 0 ≤ s.val f ∧ s.val f < (big2 s.parts : Int)
  | .nm x, _, h => by
    obtain ⟨h0, h1⟩ := h x (List.mem_singleton.mpr rfl)
    have e := big2_s 0
    rw [big2_0] at e
    refine ⟨h0, ?_⟩
    show f x < ((big2 (0 + 1) : Nat) : Int)
    rw [e]
    show f x < ((2 ^ 60 * 16 : Nat) : Int)
    omega
  | .tm k s, ho, h => by
    obtain ⟨h0, h1⟩ := val_bd s ho.2 h
    obtain ⟨k0, k9⟩ := ho.1
    have e := big2_s s.parts
    refine ⟨Int.mul_nonneg k0 h0, ?_⟩
    show k * s.val f < ((big2 (s.parts + 1) : Nat) : Int)
    rw [e]
    have := Int.mul_le_mul k9 (Int.le_refl (s.val f)) h0 (by decide)
    omega
  | .pl s t, ho, h => by
    obtain ⟨h0, h1⟩ := val_bd s ho.1 fun x hx => h x (List.mem_append_left _ hx)
    obtain ⟨g0, g1⟩ := val_bd t ho.2 fun x hx => h x (List.mem_append_right _ hx)
    have e := big2_s (s.parts + t.parts)
    have b1 := big2_le (show s.parts ≤ s.parts + t.parts by omega)
    have b2 := big2_le (show t.parts ≤ s.parts + t.parts by omega)
    refine ⟨Int.add_nonneg h0 g0, ?_⟩
    show s.val f + t.val f < ((big2 (s.parts + t.parts + 1) : Nat) : Int)
    rw [e]
    omega
  | .sh s c d, ho, h => by
    obtain ⟨h0, h1⟩ := val_bd s ho.2.2 h
    obtain ⟨⟨c0, c1⟩, d1, _⟩ := ho
    have e := big2_s s.parts
    have b := big2_pos s.parts
    refine ⟨Int.ediv_nonneg (by omega) (by omega), ?_⟩
    show (s.val f + c) / d < ((big2 (s.parts + 1) : Nat) : Int)
    rw [e]
    have := Int.ediv_le_self d (show 0 ≤ s.val f + c by omega)
    omega
theorem bits_bd {v : Int} {p : Nat} (h0 : 0 ≤ v) (h1 : v < (big2 p : Int)) : bitsI v ≤ 60 + 4 * p := bits_of (by
  have : v.natAbs < big2 p := by omega
  exact this)
def Amt (kds : List (Key × D)) (f : Str → Int) (s : Sm) : Prop := ∀ x ∈ s.used, valD kds (.inr x) = some (.int (f x)) ∧ 0 ≤ f x ∧ f x < 2 ^ 60
theorem div_mod (m d : Int) (hd : 0 < d) : (m - m % d) / d = m / d := by
  have h := Int.mul_ediv_add_emod m d
  have e : m - m % d = d * (m / d) := by omega
  rw [e, Int.mul_ediv_cancel_left _ (by omega)]
theorem small_big {d : Int} (h0 : 0 < d) (h1 : d ≤ 12) : big d = true := big_of (n := 4) (by have : (2 : Nat) ^ 4 = 16 := rfl; omega) (by decide)
theorem value_ok {kds : List (Key × D)} {f : Str → Int} : ∀ s : Sm, s.ok → s.parts ≤ 40 → Amt kds f s → ∀ n : Nat, s.dep ≤ n → R_value n [s.d, .dic kds] = .ok (.int (s.val f))
  | .nm x, h, hp, ha, n, hn => by
    have hn : 1 ≤ n := hn
    obtain ⟨m, rfl⟩ : ∃ m, n = m + 1 := ⟨n - 1, by omega⟩
    rw [v_value, u_value]
    unfold T_value
    have e0 : dIx (Sm.nm x).d (.int 0) = .ok (.str "name") := ix_tup0 _ _
    have e1' : dIx (Sm.nm x).d (.int 1) = .ok (.str x) := ix_tup1 _ _ _
    have q1 : dEq (.str "name") (.str "name") = .ok (.bl true) := streq
    have hv : eDix (eVar 1) (e2 dIx (eVar 0) (eC (.int 1))) [some (.k, (Sm.nm x).d), some (.k, .dic kds)] = .ok (.int (f x)) := r_dix (y := .str x) (k := .inr x) rfl (by (repeat walk_at "e")) rfl (ha x (List.mem_singleton.mpr rfl)).1
    show _ = Out.ok (D.int (f x))
    (repeat walk_at "e")
  | .tm k s, h, hp, ha, n, hn => by
    have hn : s.dep + 1 ≤ n := hn
    have hp : s.parts + 1 ≤ 40 := hp
    obtain ⟨m, rfl⟩ : ∃ m, n = m + 1 := ⟨n - 1, by omega⟩
    have ih := value_ok s h.2 (by omega) ha m (by omega)
    obtain ⟨b0, b1⟩ := val_bd s h.2 fun x hx => (ha x hx).2
    rw [v_value, u_value]
    unfold T_value
    have e0 : dIx (Sm.tm k s).d (.int 0) = .ok (.str "times") := ix_tup0 _ _
    have e1' : dIx (Sm.tm k s).d (.int 1) = .ok (.int k) := ix_tup1 _ _ _
    have e2' : dIx (Sm.tm k s).d (.int 2) = .ok s.d := ix_tup2 _ _ _ _
    have q1 : dEq (.str "times") (.str "name") = .ok (.bl false) := streq
    have q2 : dEq (.str "times") (.str "times") = .ok (.bl true) := streq
    have hm : dMul (.int k) (.int (s.val f)) = .ok (.int (k * s.val f)) := dMul_of (bits_of (n := 4) (by have := h.1.1; have := h.1.2; have : (2 : Nat) ^ 4 = 16 := rfl; omega)) (bits_bd b0 b1) (by omega)
    show _ = Out.ok (D.int (k * s.val f))
    (repeat walk_at "e")
  | .pl s t, h, hp, ha, n, hn => by
    have hn : max s.dep t.dep + 1 ≤ n := hn
    have hp : s.parts + t.parts + 1 ≤ 40 := hp
    obtain ⟨m, rfl⟩ : ∃ m, n = m + 1 := ⟨n - 1, by omega⟩
    have i1 := value_ok s h.1 (by omega) (fun x hx => ha x (List.mem_append_left _ hx)) m (by omega)
    have i2 := value_ok t h.2 (by omega) (fun x hx => ha x (List.mem_append_right _ hx)) m (by omega)
    rw [v_value, u_value]
    unfold T_value
    have e0 : dIx (Sm.pl s t).d (.int 0) = .ok (.str "plus") := ix_tup0 _ _
    have e1' : dIx (Sm.pl s t).d (.int 1) = .ok s.d := ix_tup1 _ _ _
    have e2' : dIx (Sm.pl s t).d (.int 2) = .ok t.d := ix_tup2 _ _ _ _
    have q1 : dEq (.str "plus") (.str "name") = .ok (.bl false) := streq
    have q2 : dEq (.str "plus") (.str "times") = .ok (.bl false) := streq
    have q3 : dEq (.str "plus") (.str "plus") = .ok (.bl true) := streq
    show _ = Out.ok (D.int (s.val f + t.val f))
    (repeat walk_at "e")
  | .sh s c d, h, hp, ha, n, hn => by
    have hn : s.dep + 1 ≤ n := hn
    have hp : s.parts + 1 ≤ 40 := hp
    obtain ⟨m, rfl⟩ : ∃ m, n = m + 1 := ⟨n - 1, by omega⟩
    have ih := value_ok s h.2.2 (by omega) ha m (by omega)
    obtain ⟨⟨c0, c1⟩, d1, so⟩ := h
    rw [v_value, u_value]
    unfold T_value
    have e0 : dIx (Sm.sh s c d).d (.int 0) = .ok (.str "share") := ix_tup0 _ _
    have e1' : dIx (Sm.sh s c d).d (.int 1) = .ok s.d := ix_tup1 _ _ _
    have e2' : dIx (Sm.sh s c d).d (.int 2) = .ok (.int c) := ix_tup2 _ _ _ _
    have e3' : dIx (Sm.sh s c d).d (.int 3) = .ok (.int d) := ixT 3 rfl
    have q1 : dEq (.str "share") (.str "name") = .ok (.bl false) := streq
    have q2 : dEq (.str "share") (.str "times") = .ok (.bl false) := streq
    have q3 : dEq (.str "share") (.str "plus") = .ok (.bl false) := streq
    have hf : dFdiv (.int (s.val f + c)) (.int d) = .ok (.int ((s.val f + c) / d)) := dFdiv_pos (by omega) (small_big (by omega) d1)
    show _ = Out.ok (D.int ((s.val f + c) / d))
    (repeat walk_at "e")
theorem lvalue_ok {kds : List (Key × D)} {f : Str → Int} : ∀ s : Sm, s.ok → s.parts ≤ 40 → Amt kds f s → ∀ n : Nat, s.dep ≤ n → R_law_value n [s.d, .dic kds] = .ok (.int (s.val f))
  | .nm x, h, hp, ha, n, hn => by
    have hn : 1 ≤ n := hn
    obtain ⟨m, rfl⟩ : ∃ m, n = m + 1 := ⟨n - 1, by omega⟩
    rw [v_law_value, u_law_value]
    unfold T_law_value
    have e0 : dIx (Sm.nm x).d (.int 0) = .ok (.str "name") := ix_tup0 _ _
    have e1' : dIx (Sm.nm x).d (.int 1) = .ok (.str x) := ix_tup1 _ _ _
    have q1 : dEq (.str "name") (.str "name") = .ok (.bl true) := streq
    have hv : eDix (eVar 1) (e2 dIx (eVar 0) (eC (.int 1))) [some (.k, (Sm.nm x).d), some (.k, .dic kds), none] = .ok (.int (f x)) := r_dix (y := .str x) (k := .inr x) rfl (by (repeat walk_at "e")) rfl (ha x (List.mem_singleton.mpr rfl)).1
    show _ = Out.ok (D.int (f x))
    (repeat walk_at "e")
  | .tm k s, h, hp, ha, n, hn => by
    have hn : s.dep + 1 ≤ n := hn
    have hp : s.parts + 1 ≤ 40 := hp
    obtain ⟨m, rfl⟩ : ∃ m, n = m + 1 := ⟨n - 1, by omega⟩
    have ih := lvalue_ok s h.2 (by omega) ha m (by omega)
    obtain ⟨b0, b1⟩ := val_bd s h.2 fun x hx => (ha x hx).2
    rw [v_law_value, u_law_value]
    unfold T_law_value
    have e0 : dIx (Sm.tm k s).d (.int 0) = .ok (.str "times") := ix_tup0 _ _
    have e1' : dIx (Sm.tm k s).d (.int 1) = .ok (.int k) := ix_tup1 _ _ _
    have e2' : dIx (Sm.tm k s).d (.int 2) = .ok s.d := ix_tup2 _ _ _ _
    have q1 : dEq (.str "times") (.str "name") = .ok (.bl false) := streq
    have q2 : dEq (.str "times") (.str "times") = .ok (.bl true) := streq
    have hm : dMul (.int k) (.int (s.val f)) = .ok (.int (k * s.val f)) := dMul_of (bits_of (n := 4) (by have := h.1.1; have := h.1.2; have : (2 : Nat) ^ 4 = 16 := rfl; omega)) (bits_bd b0 b1) (by omega)
    show _ = Out.ok (D.int (k * s.val f))
    (repeat walk_at "e")
  | .pl s t, h, hp, ha, n, hn => by
    have hn : max s.dep t.dep + 1 ≤ n := hn
    have hp : s.parts + t.parts + 1 ≤ 40 := hp
    obtain ⟨m, rfl⟩ : ∃ m, n = m + 1 := ⟨n - 1, by omega⟩
    have i1 := lvalue_ok s h.1 (by omega) (fun x hx => ha x (List.mem_append_left _ hx)) m (by omega)
    have i2 := lvalue_ok t h.2 (by omega) (fun x hx => ha x (List.mem_append_right _ hx)) m (by omega)
    rw [v_law_value, u_law_value]
    unfold T_law_value
    have e0 : dIx (Sm.pl s t).d (.int 0) = .ok (.str "plus") := ix_tup0 _ _
    have e1' : dIx (Sm.pl s t).d (.int 1) = .ok s.d := ix_tup1 _ _ _
    have e2' : dIx (Sm.pl s t).d (.int 2) = .ok t.d := ix_tup2 _ _ _ _
    have q1 : dEq (.str "plus") (.str "name") = .ok (.bl false) := streq
    have q2 : dEq (.str "plus") (.str "times") = .ok (.bl false) := streq
    have q3 : dEq (.str "plus") (.str "plus") = .ok (.bl true) := streq
    show _ = Out.ok (D.int (s.val f + t.val f))
    (repeat walk_at "e")
  | .sh s c d, h, hp, ha, n, hn => by
    have hn : s.dep + 1 ≤ n := hn
    have hp : s.parts + 1 ≤ 40 := hp
    obtain ⟨m, rfl⟩ : ∃ m, n = m + 1 := ⟨n - 1, by omega⟩
    have ih := lvalue_ok s h.2.2 (by omega) ha m (by omega)
    obtain ⟨⟨c0, c1⟩, d1, so⟩ := h
    rw [v_law_value, u_law_value]
    unfold T_law_value
    have e0 : dIx (Sm.sh s c d).d (.int 0) = .ok (.str "share") := ix_tup0 _ _
    have e1' : dIx (Sm.sh s c d).d (.int 1) = .ok s.d := ix_tup1 _ _ _
    have e2' : dIx (Sm.sh s c d).d (.int 2) = .ok (.int c) := ix_tup2 _ _ _ _
    have e3' : dIx (Sm.sh s c d).d (.int 3) = .ok (.int d) := ixT 3 rfl
    have q1 : dEq (.str "share") (.str "name") = .ok (.bl false) := streq
    have q2 : dEq (.str "share") (.str "times") = .ok (.bl false) := streq
    have q3 : dEq (.str "share") (.str "plus") = .ok (.bl false) := streq
    have hmo : dMod (.int (s.val f + c)) (.int d) = .ok (.int ((s.val f + c) % d)) := dMod_pos (by omega)
    have hf : dFdiv (.int (s.val f + c - (s.val f + c) % d)) (.int d) = .ok (.int ((s.val f + c) / d)) := by
      rw [dFdiv_pos (by omega) (small_big (by omega) d1), div_mod _ _ (by omega)]
    show _ = Out.ok (D.int ((s.val f + c) / d))
    (repeat walk_at "e")
theorem used_ok : ∀ s : Sm, s.ok → s.parts ≤ 40 → ∀ n : Nat, s.dep ≤ n → R_law_used n [s.d] = .ok (.lst (s.used.map D.str))
  | .nm x, h, hp, n, hn => by
    have hn : 1 ≤ n := hn
    obtain ⟨m, rfl⟩ : ∃ m, n = m + 1 := ⟨n - 1, by omega⟩
    rw [v_law_used, u_law_used]
    unfold T_law_used
    have e0 : dIx (Sm.nm x).d (.int 0) = .ok (.str "name") := ix_tup0 _ _
    have e1' : dIx (Sm.nm x).d (.int 1) = .ok (.str x) := ix_tup1 _ _ _
    have q1 : dEq (.str "name") (.str "name") = .ok (.bl true) := streq
    show _ = Out.ok (D.lst [.str x])
    (repeat walk_at "e")
  | .tm k s, h, hp, n, hn => by
    have hn : s.dep + 1 ≤ n := hn
    have hp : s.parts + 1 ≤ 40 := hp
    obtain ⟨m, rfl⟩ : ∃ m, n = m + 1 := ⟨n - 1, by omega⟩
    have ih := used_ok s h.2 (by omega) m (by omega)
    rw [v_law_used, u_law_used]
    unfold T_law_used
    have e0 : dIx (Sm.tm k s).d (.int 0) = .ok (.str "times") := ix_tup0 _ _
    have e2' : dIx (Sm.tm k s).d (.int 2) = .ok s.d := ix_tup2 _ _ _ _
    have q1 : dEq (.str "times") (.str "name") = .ok (.bl false) := streq
    have q2 : dEq (.str "times") (.str "plus") = .ok (.bl false) := streq
    have q3 : dEq (.str "times") (.str "times") = .ok (.bl true) := streq
    show _ = Out.ok (D.lst (s.used.map D.str))
    (repeat walk_at "e")
  | .pl s t, h, hp, n, hn => by
    have hn : max s.dep t.dep + 1 ≤ n := hn
    have hp : s.parts + t.parts + 1 ≤ 40 := hp
    obtain ⟨m, rfl⟩ : ∃ m, n = m + 1 := ⟨n - 1, by omega⟩
    have i1 := used_ok s h.1 (by omega) m (by omega)
    have i2 := used_ok t h.2 (by omega) m (by omega)
    have l1 := s.used_le
    have l2 := t.used_le
    rw [v_law_used, u_law_used]
    unfold T_law_used
    have e0 : dIx (Sm.pl s t).d (.int 0) = .ok (.str "plus") := ix_tup0 _ _
    have e1' : dIx (Sm.pl s t).d (.int 1) = .ok s.d := ix_tup1 _ _ _
    have e2' : dIx (Sm.pl s t).d (.int 2) = .ok t.d := ix_tup2 _ _ _ _
    have q1 : dEq (.str "plus") (.str "name") = .ok (.bl false) := streq
    have q2 : dEq (.str "plus") (.str "plus") = .ok (.bl true) := streq
    have hc : dCat (.lst (s.used.map D.str)) (.lst (t.used.map D.str)) = .ok (.lst ((s.used ++ t.used).map D.str)) := by
      rw [dCat_ok (by rw [List.length_map, List.length_map]; omega), List.map_append]
    show _ = Out.ok (D.lst ((s.used ++ t.used).map D.str))
    (repeat walk_at "e")
  | .sh s c d, h, hp, n, hn => by
    have hn : s.dep + 1 ≤ n := hn
    have hp : s.parts + 1 ≤ 40 := hp
    obtain ⟨m, rfl⟩ : ∃ m, n = m + 1 := ⟨n - 1, by omega⟩
    have ih := used_ok s h.2.2 (by omega) m (by omega)
    rw [v_law_used, u_law_used]
    unfold T_law_used
    have e0 : dIx (Sm.sh s c d).d (.int 0) = .ok (.str "share") := ix_tup0 _ _
    have e1' : dIx (Sm.sh s c d).d (.int 1) = .ok s.d := ix_tup1 _ _ _
    have q1 : dEq (.str "share") (.str "name") = .ok (.bl false) := streq
    have q2 : dEq (.str "share") (.str "plus") = .ok (.bl false) := streq
    have q3 : dEq (.str "share") (.str "times") = .ok (.bl false) := streq
    show _ = Out.ok (D.lst (s.used.map D.str))
    (repeat walk_at "e")
theorem dRep_ok {x : D} {m : Nat} (h : m ≤ 1000) : dRep (.lst [x]) (.int (m : Int)) = .ok (.lst (List.replicate m x)) := by
  unfold dRep
  simp only [Int.toNat_natCast, List.flatten_replicate_singleton, List.length_cons, List.length_nil]
  rw [if_pos]
  rw [Bool.and_eq_true, Bool.and_eq_true]
  exact ⟨⟨decide_eq_true (by omega), decide_eq_true (by omega)⟩, fits_of (by omega)⟩
theorem law_whole_int (i : Int) : b_law_whole [.int i] = .ok (.bl true) := by
  rw [u_law_whole]; simp [T_law_whole, bodyF, retF, sSeq, thenF, sSet, sRet, sIf, sNil, eVar, eC, e1, e2, eA, f1, aNil, aCons, tVal, tAnd', tOr', tNot', eAnd, eOr, eNot, eIf, eTup, eLst, eIsa, isaT, tyName, oNo, oSome, sPar, sUnp, setAll, gN, gT, fLen, fits_small, Out.bind_ok, Out.bind_exc, Out.bind_stuck, Out.pure_eq, D.scal, dAdd_int, dSub_int, dNeg_int, dAbs_int, dLt_int, dLe_int, dGt_int, dGe_int, dEq_int, dNe_int, List.length_cons, List.length_nil, List.map_cons, List.map_nil, List.cons_append, List.nil_append, List.append_nil, List.getElem?_cons_zero, List.getElem?_cons_succ, List.set_cons_zero, List.set_cons_succ, List.replicate, Nat.reduceAdd, Nat.reduceSub, Nat.reduceLeDiff, Nat.zero_add, Nat.add_zero, reduceIte, Bool.not_true, Bool.not_false, Bool.true_and, Bool.and_true, Bool.false_and, Bool.and_false, Bool.or_true, Bool.true_or, Bool.or_false, Bool.false_or, Bool.false_eq_true, decide_true, decide_false, decide_eq_true_eq, Bool.not_eq_true', decide_eq_false_iff_not, Int.reduceEq, Int.reduceLT, Int.reduceLE, Int.reduceNeg, Nat.reduceEqDiff, ↓reduceIte, not_true_eq_false, not_false_eq_true]
def fv (xs : List (Key × Int)) (x : Str) : Int := (vI xs (.inr x)).getD 0
theorem amt_of {xs : List (Key × Int)} {s : Sm} (hh : ∀ x ∈ s.used, has xs (.inr x)) (hb : ∀ kv ∈ xs, 0 ≤ kv.2 ∧ kv.2 < 2 ^ 60) : Amt (dI xs) (fv xs) s := by
  intro x hx
  obtain ⟨v, hv, hm⟩ := vI_has (hh x hx)
  have hf : fv xs x = v := by unfold fv; rw [hv]; rfl
  rw [valD_dI, hv, hf]
  exact ⟨rfl, hb _ hm⟩
theorem amount_ok {n : Int} (n0 : 0 ≤ n) (n1 : n < 2147483629) : ∃ v : Int, 0 ≤ v ∧ v < 1000000000000000000 ∧ dIx (.lst [.int (n % 20), .int n, .int (n * 465661287 % 1000000000000000000)]) (.int (n % 3)) = .ok (.int v) := by
  have h3 : n % 3 = 0 ∨ n % 3 = 1 ∨ n % 3 = 2 := by omega
  rcases h3 with h | h | h <;> rw [h]
  · exact ⟨n % 20, by omega, by omega, ixL 0 rfl⟩
  · exact ⟨n, by omega, by omega, ixL 1 rfl⟩
  · exact ⟨n * 465661287 % 1000000000000000000, Int.emod_nonneg _ (by decide), Int.emod_lt_of_pos _ (by decide), ixL 2 rfl⟩
theorem cell_ok (ns : List Int) (k : Nat) (hk : k < 40) : ∃ c : Int, (ns.map D.int ++ List.replicate 40 (D.int (k : Int)))[k]? = some (.int c) := by
  by_cases h : k < ns.length
  · exact ⟨ns[k], by rw [List.getElem?_append_left (by rw [List.length_map]; exact h), List.getElem?_map, List.getElem?_eq_getElem h]; rfl⟩
  · exact ⟨(k : Int), by rw [List.getElem?_append_right (by rw [List.length_map]; omega), List.getElem?_replicate, if_pos (by rw [List.length_map]; omega)]⟩
theorem fill_ok {ns : List Int} (hl : ns.length ≤ 63) {O : D} {us : List Str} (hu : us.length ≤ 40) : ∃ (xs : List (Key × Int)) (a4 a5 : Option (SM × D)), sFor (gN 4) (itR1 (eA fLen (aCons (eVar 2) aNil))) L_law_0 [some (.k, .lst (ns.map D.int)), some (.k, O), some (.k, .lst (us.map D.str)), some (.o, .dic []), none, none, none, none, none] = .ok (.nx [some (.k, .lst (ns.map D.int)), some (.k, O), some (.k, .lst (us.map D.str)), some (.o, .dic (dI xs)), a4, a5, none, none, none]) ∧ xs.length ≤ 40 ∧ (∀ kv ∈ xs, 0 ≤ kv.2 ∧ kv.2 < 1000000000000000000) ∧ ∀ x ∈ us, has xs (.inr x) := by
  have hlen : fLen [.lst (us.map D.str)] = .ok (.int (us.length : Int)) := by simp [fLen]
  obtain ⟨ς', hL, xs, a4, a5, rfl, hx, hb, hh⟩ := loop_rangeK (body := fun x ς => gN 4 x ς >>= fun ς' => L_law_0 ς') (n := us.length)
    (P := fun k ς => ∃ (xs : List (Key × Int)) (a4 a5 : Option (SM × D)), ς = [some (.k, .lst (ns.map D.int)), some (.k, O), some (.k, .lst (us.map D.str)), some (.o, .dic (dI xs)), a4, a5, none, none, none] ∧ xs.length ≤ k ∧ (∀ kv ∈ xs, 0 ≤ kv.2 ∧ kv.2 < 1000000000000000000) ∧ ∀ (i : Nat) x, i < k → us[i]? = some x → has xs (.inr x))
    (by
      rintro k hk ς ⟨xs, a4, a5, rfl, hx, hb, hh⟩
      obtain ⟨c, hc⟩ := cell_ok ns k (by omega)
      have hrep : dRep (.lst [.int (k : Int)]) (.int 40) = .ok (.lst (List.replicate 40 (D.int (k : Int)))) := dRep_ok (m := 40) (by decide)
      have hcat : dCat (.lst (ns.map D.int)) (.lst (List.replicate 40 (D.int (k : Int)))) = .ok (.lst (ns.map D.int ++ List.replicate 40 (D.int (k : Int)))) := dCat_ok (by rw [List.length_map, List.length_replicate]; omega)
      have hix : dIx (.lst (ns.map D.int ++ List.replicate 40 (D.int (k : Int)))) (.int (k : Int)) = .ok (.int c) := ixL k hc
      obtain ⟨n, hn, n0, n1⟩ := mixed_ok (c := c) (k := (k : Int) + 5) (by omega) (by omega)
      obtain ⟨v, v0, v1, hv⟩ := amount_ok n0 n1
      have hu' : us[k]? = some us[k] := List.getElem?_eq_getElem hk
      have hix2 : dIx (.lst (us.map D.str)) (.int (k : Int)) = .ok (.str us[k]) := ixL k (by rw [List.getElem?_map, hu']; rfl)
      have hm : dMul (.int n) (.int 465661287) = .ok (.int (n * 465661287)) := dMul_of (bits_of (n := 60) (by omega)) (bits_of (n := 60) (by decide)) (by decide)
      have hp : dPow (.int 10) (.int 18) = .ok (.int 1000000000000000000) := dPow_ok (by decide)
      have m20 : dMod (.int n) (.int 20) = .ok (.int (n % 20)) := dMod_pos (by decide)
      have m3 : dMod (.int n) (.int 3) = .ok (.int (n % 3)) := dMod_pos (by decide)
      have m18 : dMod (.int (n * 465661287)) (.int 1000000000000000000) = .ok (.int (n * 465661287 % 1000000000000000000)) := dMod_pos (by decide)
      refine ⟨[some (.k, .lst (ns.map D.int)), some (.k, O), some (.k, .lst (us.map D.str)), some (.o, .dic (dI (putI xs (.inr us[k]) v))), some (.k, .int (k : Int)), some (.k, .int n), none, none, none], ?_, putI xs (.inr us[k]) v, _, _, rfl, ?_, ?_, ?_⟩
      · refine r_gN (by walk_at "s") ?_
        unfold L_law_0
        refine r_seq (fl := .nx [some (.k, .lst (ns.map D.int)), some (.k, O), some (.k, .lst (us.map D.str)), some (.o, .dic (dI xs)), some (.k, .int (k : Int)), some (.k, .int n), none, none, none]) (by (repeat walk_at "e")) (r_then ?_)
        refine r_putD (kds := dI xs) (d := .int v) (y := .str us[k]) (k := .inr us[k]) (by (repeat walk_at "e")) rfl (by (repeat walk_at "e")) rfl (by rw [List.length_map]; omega) ?_
        rw [put_dI]
        walk_at "s"
      · have := put_len xs (.inr us[k]) v
        omega
      · exact put_all (P := fun z => 0 ≤ z ∧ z < 1000000000000000000) hb ⟨v0, v1⟩
      · intro i x hi he
        by_cases e : i = k
        · subst e
          rw [hu'] at he
          cases he
          exact has_self _ _ _
        · exact has_put (hh i x (by omega) he) _ _)
    [some (.k, .lst (ns.map D.int)), some (.k, O), some (.k, .lst (us.map D.str)), some (.o, .dic []), none, none, none, none, none] ⟨[], none, none, rfl, Nat.le_refl _, (fun kv h => by cases h), fun i x h => absurd h (by omega)⟩
  have hl2 : eA fLen (aCons (eVar 2) aNil) [some (.k, .lst (ns.map D.int)), some (.k, O), some (.k, .lst (us.map D.str)), some (.o, .dic []), none, none, none, none, none] = .ok (.int (us.length : Int)) := by (repeat walk_at "e")
  refine ⟨xs, a4, a5, sFor_of (g := gN 4) (its := itR1 (eA fLen (aCons (eVar 2) aNil))) (T := L_law_0) (rng_ok us.length hl2 (by omega)) hL, by omega, hb, fun x hx => ?_⟩
  obtain ⟨i, hi⟩ := List.getElem?_of_mem hx
  exact hh i x (List.getElem?_eq_some_iff.mp hi).1 hi
theorem more_loop {a0 a1 a2 a4 a5 a6 a7 : Option (SM × D)} : ∀ (ks : List Key) (xs : List (Key × Int)) (B : Int) (a8 : Option (SM × D)), (∀ k ∈ ks, has xs k) → xs.length + ks.length ≤ 100 → (∀ kv ∈ xs, 0 ≤ kv.2 ∧ kv.2 < B) →
    ∃ (ys : List (Key × Int)) (a8' : Option (SM × D)), loopD (fun x ς => gN 8 x ς >>= fun ς' => L_law_1 ς') (ks.map kD) [a0, a1, a2, some (.o, .dic (dI xs)), a4, a5, a6, a7, a8] = .ok (.nx [a0, a1, a2, some (.o, .dic (dI ys)), a4, a5, a6, a7, a8']) ∧ (∀ kv ∈ ys, 0 ≤ kv.2 ∧ kv.2 < B + ks.length) ∧ ∀ k, has xs k → has ys k
  | [], xs, B, a8, hk, hl, hb => ⟨xs, a8, rfl, fun kv h => by have := hb kv h; show 0 ≤ kv.2 ∧ kv.2 < B + ((0 : Nat) : Int); omega, fun _ h => h⟩
  | k :: ks, xs, B, a8, hk, hl, hb => by
    obtain ⟨v, hv, hm⟩ := vI_has (hk k List.mem_cons_self)
    have hvb := hb _ hm
    have hvb : 0 ≤ v ∧ v < B := hvb
    have hl : xs.length + (ks.length + 1) ≤ 100 := hl
    have hpl := put_len xs k (v + 1)
    obtain ⟨ys, a8', hL, h1, h2⟩ := more_loop (a0 := a0) (a1 := a1) (a2 := a2) (a4 := a4) (a5 := a5) (a6 := a6) (a7 := a7) ks (putI xs k (v + 1)) (B + 1) (some (.k, kD k)) (fun j hj => has_put (hk j (List.mem_cons_of_mem _ hj)) _ _) (by
        by_cases h : (xs.any fun kv => decide (kv.1 = k)) = true
        · have : (putI xs k (v + 1)).length = xs.length := by unfold putI; rw [if_pos h, List.length_map]
          omega
        · exact absurd (List.any_eq_true.mpr ⟨(k, v), hm, decide_eq_true rfl⟩) h) (put_all (P := fun z => 0 ≤ z ∧ z < B + 1) (fun kv hkv => by have := hb kv hkv; omega) (by omega))
    have hdk : dkey (kD k) = some k := by cases k <;> rfl
    have hd : eDix (eVarB 3) (eVar 8) [a0, a1, a2, some (.o, .dic (dI xs)), a4, a5, a6, a7, some (.k, kD k)] = .ok (.int v) := r_dix (y := kD k) (k := k) rfl rfl hdk (by rw [valD_dI, hv]; rfl)
    have hstep : (gN 8 (kD k) [a0, a1, a2, some (.o, .dic (dI xs)), a4, a5, a6, a7, a8] >>= fun ς' => L_law_1 ς') = .ok (.nx [a0, a1, a2, some (.o, .dic (dI (putI xs k (v + 1)))), a4, a5, a6, a7, some (.k, kD k)]) := by
      refine r_gN (by walk_at "s") ?_
      unfold L_law_1
      refine r_putD (kds := dI xs) (d := .int (v + 1)) (y := kD k) (k := k) (r_e2 hd r_C (dAdd_int _ _)) rfl rfl hdk (by rw [List.length_map]; omega) ?_
      rw [put_dI]
      walk_at "s"
    refine ⟨ys, a8', ?_, fun kv h => ?_, fun j hj => h2 j (has_put hj _ _)⟩
    · rw [List.map_cons, loopD, hstep]
      exact hL
    · have := h1 kv h
      show 0 ≤ kv.2 ∧ kv.2 < B + ((ks.length + 1 : Nat) : Int)
      omega
theorem the_law (ns : List Int) (hl : ns.length ≤ 63) (hbits : ∀ z ∈ ns, bitsI z ≤ 1048576) : b_law [.lst (ns.map .int)] = .ok (.bl true) := by
  obtain ⟨s, so, sp, hs⟩ := built_ok (cs := ns.take 84) (by rw [List.length_take]; omega)
  have hd := s.dep_le
  have hul := s.used_le
  have hsl : eSl (eVar 0) oNo (oSome (eC (.int 84))) [some (.k, .lst (ns.map D.int)), none, none, none, none, none, none, none, none] = .ok (.lst ((ns.take 84).map D.int)) := by
    refine r_sl (xs := ns.map D.int) (p := none) (q := some ((84 : Nat) : Int)) rfl rfl rfl ?_
    rw [cut_to, List.map_take]
  have hused : b_law_used [s.d] = .ok (.lst (s.used.map D.str)) := used_ok s so (by omega) 45 (by omega)
  obtain ⟨xs, a4, a5, hfill, hxl, hxb, hxh⟩ := fill_ok hl (O := s.d) (us := s.used) (by omega)
  have A1 : Amt (dI xs) (fv xs) s := amt_of hxh fun kv h => by have := hxb kv h; omega
  have v1 : b_value [s.d, .dic (dI xs)] = .ok (.int (s.val (fv xs))) := value_ok s so (by omega) A1 45 (by omega)
  have w1 : b_law_value [s.d, .dic (dI xs)] = .ok (.int (s.val (fv xs))) := lvalue_ok s so (by omega) A1 45 (by omega)
  obtain ⟨ys, a8, hmore, hyb, hyh⟩ := more_loop (a0 := some (.k, .lst (ns.map D.int))) (a1 := some (.k, s.d)) (a2 := some (.k, .lst (s.used.map D.str))) (a4 := a4) (a5 := a5) (a6 := some (.k, .dic (dI xs))) (a7 := some (.k, .int (s.val (fv xs)))) (xs.map (·.1)) xs 1000000000000000000 none
    (fun k hk => by obtain ⟨kv, hm, e⟩ := List.mem_map.mp hk; exact ⟨kv.2, by rw [← e]; exact hm⟩) (by rw [List.length_map]; omega) hxb
  rw [List.length_map] at hyb
  have A2 : Amt (dI ys) (fv ys) s := amt_of (fun x hx => hyh _ (hxh x hx)) fun kv h => by have := hyb kv h; omega
  have v2 : b_value [s.d, .dic (dI ys)] = .ok (.int (s.val (fv ys))) := value_ok s so (by omega) A2 45 (by omega)
  have w2 : b_law_value [s.d, .dic (dI ys)] = .ok (.int (s.val (fv ys))) := lvalue_ok s so (by omega) A2 45 (by omega)
  have c1 := copy_ok xs
  have c2 := copy_ok ys
  have c3 := same_ok xs
  have hw := law_whole_int (s.val (fv xs))
  have hld : dListD (.dic (dI xs)) = .ok (.lst ((xs.map (·.1)).map kD)) := by
    show Out.ok (D.lst ((dI xs).map fun kv => kD kv.1)) = _
    rw [List.map_map, List.map_map]; rfl
  have hit : itL (e1 dListD (eVarB 3)) [some (.k, .lst (ns.map D.int)), some (.k, s.d), some (.k, .lst (s.used.map D.str)), some (.o, .dic (dI xs)), a4, a5, some (.k, .dic (dI xs)), some (.k, .int (s.val (fv xs))), none] = .ok ((xs.map (·.1)).map kD) := r_itL (r_e1 (r_varB rfl) hld)
  have hfor := sFor_of (g := gN 8) (T := L_law_1) hit hmore
  have ne1 : dNe (.int (s.val (fv xs))) (.int (s.val (fv xs))) = .ok (.bl false) := by rw [dNe_int]; simp
  have eq1 : dEq (.int (s.val (fv ys))) (.int (s.val (fv ys))) = .ok (.bl true) := by rw [dEq_int]; simp
  have hdic : eDic0 [some (.k, .lst (ns.map D.int)), some (.k, s.d), some (.k, .lst (s.used.map D.str)), none, none, none, none, none, none] = .ok (.dic []) := rfl
  rw [u_law]
  unfold T_law
  (repeat (first | with_reducible exact hdic | walk_at "e"))
end My
set_option Elab.async false
set_option linter.all false
set_option maxRecDepth 100000
set_option maxHeartbeats 4000000
namespace My
open PySem PySem.Spec L2 DL
theorem all_mk {l : PySem.W.OpenLaw} {w : World} {K : PySem.W.Frag} {h : Heap} {mg : Str → Option Value} {fa : Addr} (X : K.In h) (G : h.Ns mainGlobals mg) (hfa : mg "law" = some (.ref fa))
    {f_law_name : Addr} {od_law_name an_law_name : Option Addr} {sl_law_name : Array (Option Value)} {oc_law_name kV_law_name dc_law_name pm_law_name cd_law_name ct_law_name : Value} {f_law_mixed : Addr} {od_law_mixed an_law_mixed : Option Addr} {sl_law_mixed : Array (Option Value)} {oc_law_mixed kV_law_mixed dc_law_mixed pm_law_mixed cd_law_mixed ct_law_mixed : Value} {f_law_built : Addr} {od_law_built an_law_built : Option Addr} {sl_law_built : Array (Option Value)} {oc_law_built kV_law_built dc_law_built pm_law_built cd_law_built ct_law_built : Value} {f_law_used : Addr} {od_law_used an_law_used : Option Addr} {sl_law_used : Array (Option Value)} {oc_law_used kV_law_used dc_law_used pm_law_used cd_law_used ct_law_used : Value} {f_value : Addr} {od_value an_value : Option Addr} {sl_value : Array (Option Value)} {oc_value kV_value dc_value pm_value cd_value ct_value : Value} {f_law_value : Addr} {od_law_value an_law_value : Option Addr} {sl_law_value : Array (Option Value)} {oc_law_value kV_law_value dc_law_value pm_law_value cd_law_value ct_law_value : Value} {f_law_whole : Addr} {od_law_whole an_law_whole : Option Addr} {sl_law_whole : Array (Option Value)} {oc_law_whole kV_law_whole dc_law_whole pm_law_whole cd_law_whole ct_law_whole : Value} {f_law : Addr} {od_law an_law : Option Addr} {sl_law : Array (Option Value)} {oc_law kV_law dc_law pm_law cd_law ct_law : Value}
    (a_law_name : PySem.W.nsIn K mainGlobals "_law_name" = some (some (.ref f_law_name)))
    (l_law_name : K.lookup f_law_name = some ⟨oc_law_name, od_law_name, .func (PySem.W.fnOf "_law_name" "_law_name" (defArgs s_law_name) (defBody s_law_name) (defScope s_law_name) .none kV_law_name dc_law_name pm_law_name an_law_name cd_law_name ct_law_name), sl_law_name⟩)
    (c_law_name : PySem.W.codeIn K cd_law_name "_law_name" = true)
    (k_law_name : PySem.W.keepIn K (.ref f_law_name) = true)
    (a_law_mixed : PySem.W.nsIn K mainGlobals "_law_mixed" = some (some (.ref f_law_mixed)))
    (l_law_mixed : K.lookup f_law_mixed = some ⟨oc_law_mixed, od_law_mixed, .func (PySem.W.fnOf "_law_mixed" "_law_mixed" (defArgs s_law_mixed) (defBody s_law_mixed) (defScope s_law_mixed) .none kV_law_mixed dc_law_mixed pm_law_mixed an_law_mixed cd_law_mixed ct_law_mixed), sl_law_mixed⟩)
    (c_law_mixed : PySem.W.codeIn K cd_law_mixed "_law_mixed" = true)
    (k_law_mixed : PySem.W.keepIn K (.ref f_law_mixed) = true)
    (a_law_built : PySem.W.nsIn K mainGlobals "_law_built" = some (some (.ref f_law_built)))
    (l_law_built : K.lookup f_law_built = some ⟨oc_law_built, od_law_built, .func (PySem.W.fnOf "_law_built" "_law_built" (defArgs s_law_built) (defBody s_law_built) (defScope s_law_built) .none kV_law_built dc_law_built pm_law_built an_law_built cd_law_built ct_law_built), sl_law_built⟩)
    (c_law_built : PySem.W.codeIn K cd_law_built "_law_built" = true)
    (k_law_built : PySem.W.keepIn K (.ref f_law_built) = true)
    (a_law_used : PySem.W.nsIn K mainGlobals "_law_used" = some (some (.ref f_law_used)))
    (l_law_used : K.lookup f_law_used = some ⟨oc_law_used, od_law_used, .func (PySem.W.fnOf "_law_used" "_law_used" (defArgs s_law_used) (defBody s_law_used) (defScope s_law_used) .none kV_law_used dc_law_used pm_law_used an_law_used cd_law_used ct_law_used), sl_law_used⟩)
    (c_law_used : PySem.W.codeIn K cd_law_used "_law_used" = true)
    (k_law_used : PySem.W.keepIn K (.ref f_law_used) = true)
    (a_value : PySem.W.nsIn K mainGlobals "value" = some (some (.ref f_value)))
    (l_value : K.lookup f_value = some ⟨oc_value, od_value, .func (PySem.W.fnOf "value" "value" (defArgs s_value) (defBody s_value) (defScope s_value) .none kV_value dc_value pm_value an_value cd_value ct_value), sl_value⟩)
    (c_value : PySem.W.codeIn K cd_value "value" = true)
    (k_value : PySem.W.keepIn K (.ref f_value) = true)
    (a_law_value : PySem.W.nsIn K mainGlobals "_law_value" = some (some (.ref f_law_value)))
    (l_law_value : K.lookup f_law_value = some ⟨oc_law_value, od_law_value, .func (PySem.W.fnOf "_law_value" "_law_value" (defArgs s_law_value) (defBody s_law_value) (defScope s_law_value) .none kV_law_value dc_law_value pm_law_value an_law_value cd_law_value ct_law_value), sl_law_value⟩)
    (c_law_value : PySem.W.codeIn K cd_law_value "_law_value" = true)
    (k_law_value : PySem.W.keepIn K (.ref f_law_value) = true)
    (a_law_whole : PySem.W.nsIn K mainGlobals "_law_whole" = some (some (.ref f_law_whole)))
    (l_law_whole : K.lookup f_law_whole = some ⟨oc_law_whole, od_law_whole, .func (PySem.W.fnOf "_law_whole" "_law_whole" (defArgs s_law_whole) (defBody s_law_whole) (defScope s_law_whole) .none kV_law_whole dc_law_whole pm_law_whole an_law_whole cd_law_whole ct_law_whole), sl_law_whole⟩)
    (c_law_whole : PySem.W.codeIn K cd_law_whole "_law_whole" = true)
    (k_law_whole : PySem.W.keepIn K (.ref f_law_whole) = true)
    (a_law : PySem.W.nsIn K mainGlobals "law" = some (some (.ref f_law)))
    (l_law : K.lookup f_law = some ⟨oc_law, od_law, .func (PySem.W.fnOf "law" "law" (defArgs s_law) (defBody s_law) (defScope s_law) .none kV_law dc_law pm_law an_law cd_law ct_law), sl_law⟩)
    (c_law : PySem.W.codeIn K cd_law "law" = true)
    (k_law : PySem.W.keepIn K (.ref f_law) = true)
    (z_range : PySem.W.nsIn K mainGlobals "range" = some none)
    (z_len : PySem.W.nsIn K mainGlobals "len" = some none)
    (z_isinstance : PySem.W.nsIn K mainGlobals "isinstance" = some none)
    (z_int : PySem.W.nsIn K mainGlobals "int" = some none)
    (z_bool : PySem.W.nsIn K mainGlobals "bool" = some none)
    (z_dict : PySem.W.nsIn K mainGlobals "dict" = some none)
    (z_list : PySem.W.nsIn K mainGlobals "list" = some none) :
    ∃ fd : FuncData, (∀ (s : Shared) (v : Value), BindsTo s fd ⟨[v], []⟩ [("_law_script", v)]) ∧ ∀ base : Heap, K.In base → base.Ns mainGlobals mg → FnOk l.prog w K mg base CX0 47 fa fd ["_law_script"] (SpD K (ctOf K) false b_law) := by
  have ee := hfa.symm.trans (PySem.W.mg_of X G a_law)
  cases ee
  have F_law_name := funV_mk (st := s_law_name) l_law_name c_law_name k_law_name
  have B_law_name := F_law_name.binds (ps := ["_law_number"]) fun _ _ _ _ _ _ us hl => match us, hl with | [_], _ => rfl
  have F_law_mixed := funV_mk (st := s_law_mixed) l_law_mixed c_law_mixed k_law_mixed
  have B_law_mixed := F_law_mixed.binds (ps := ["_law_cell", "_law_k"]) fun _ _ _ _ _ _ us hl => match us, hl with | [_, _], _ => rfl
  have F_law_built := funV_mk (st := s_law_built) l_law_built c_law_built k_law_built
  have B_law_built := F_law_built.binds (ps := ["_law_cells", "_law_most"]) fun _ _ _ _ _ _ us hl => match us, hl with | [_, _], _ => rfl
  have F_law_used := funV_mk (st := s_law_used) l_law_used c_law_used k_law_used
  have B_law_used := F_law_used.binds (ps := ["_law_one"]) fun _ _ _ _ _ _ us hl => match us, hl with | [_], _ => rfl
  have F_value := funV_mk (st := s_value) l_value c_value k_value
  have B_value := F_value.binds (ps := ["one", "amounts"]) fun _ _ _ _ _ _ us hl => match us, hl with | [_, _], _ => rfl
  have F_law_value := funV_mk (st := s_law_value) l_law_value c_law_value k_law_value
  have B_law_value := F_law_value.binds (ps := ["_law_one", "_law_amounts"]) fun _ _ _ _ _ _ us hl => match us, hl with | [_, _], _ => rfl
  have F_law_whole := funV_mk (st := s_law_whole) l_law_whole c_law_whole k_law_whole
  have B_law_whole := F_law_whole.binds (ps := ["_law_found"]) fun _ _ _ _ _ _ us hl => match us, hl with | [_], _ => rfl
  have F_law := funV_mk (st := s_law) l_law c_law k_law
  have B_law := F_law.binds (ps := ["_law_script"]) fun _ _ _ _ _ _ us hl => match us, hl with | [_], _ => rfl
  have zz_range : mg "range" = none := PySem.W.mg_none_of X G z_range
  have zz_len : mg "len" = none := PySem.W.mg_none_of X G z_len
  have zz_isinstance : mg "isinstance" = none := PySem.W.mg_none_of X G z_isinstance
  have zz_int : mg "int" = none := PySem.W.mg_none_of X G z_int
  have zz_bool : mg "bool" = none := PySem.W.mg_none_of X G z_bool
  have zz_dict : mg "dict" = none := PySem.W.mg_none_of X G z_dict
  have zz_list : mg "list" = none := PySem.W.mg_none_of X G z_list
  refine ⟨PySem.W.fnOf "law" "law" (defArgs s_law) (defBody s_law) (defScope s_law) .none kV_law dc_law pm_law an_law cd_law ct_law, fun s v => .of_eq rfl, fun base _ _ => ?_⟩
  have K_law_name : FnOk l.prog w K mg base CX0 1 _ _ ["_law_number"] (SpD K (ctOf K) false b_law_name) := d_law_name F_law_name zz_range
  have H_law_name : DefOk l.prog w K mg base (ctOf K) "_law_name" 1 false [] b_law_name := ⟨_, _, _, _, K_law_name, PySem.W.mg_of X G a_law_name, k_law_name, B_law_name, .nil⟩
  have K_law_mixed : FnOk l.prog w K mg base CX0 1 _ _ ["_law_cell", "_law_k"] (SpD K (ctOf K) false b_law_mixed) := d_law_mixed F_law_mixed 
  have H_law_mixed : DefOk l.prog w K mg base (ctOf K) "_law_mixed" 1 false [] b_law_mixed := ⟨_, _, _, _, K_law_mixed, PySem.W.mg_of X G a_law_mixed, k_law_mixed, B_law_mixed, .nil⟩
  have K_law_built : FnOk l.prog w K mg base CX0 2 _ _ ["_law_cells", "_law_most"] (SpD K (ctOf K) false b_law_built) := d_law_built F_law_built H_law_name H_law_mixed zz_len zz_range
  have H_law_built : DefOk l.prog w K mg base (ctOf K) "_law_built" 2 false [] b_law_built := ⟨_, _, _, _, K_law_built, PySem.W.mg_of X G a_law_built, k_law_built, B_law_built, .nil⟩
  have Hr_law_used : ∀ n : Nat, DefOk l.prog w K mg base (ctOf K) "_law_used" (1 + n) true [] (R_law_used n) := by
    intro n
    induction n with
    | zero => exact ⟨_, _, _, _, FnOk.as (fnV (P := l.prog) (w := w) (mg := mg) (base := base) (CT := ctOf K) (fr := true) (k := 0) (T := sNever) F_law_used sc_law_used (fun _ _ _ _ _ _ _ _ => dss_never)) (fun _ => Or.inl rfl), PySem.W.mg_of X G a_law_used, k_law_used, B_law_used, .nil⟩
    | succ n ih => exact ⟨_, _, _, _, d_law_used (n := 1 + n) F_law_used (by omega) ih, PySem.W.mg_of X G a_law_used, k_law_used, B_law_used, .nil⟩
  have H_law_used : DefOk l.prog w K mg base (ctOf K) "_law_used" 46 true [] b_law_used := Hr_law_used 45
  have Hr_value : ∀ n : Nat, DefOk l.prog w K mg base (ctOf K) "value" (1 + n) false [] (R_value n) := by
    intro n
    induction n with
    | zero => exact ⟨_, _, _, _, FnOk.as (fnV (P := l.prog) (w := w) (mg := mg) (base := base) (CT := ctOf K) (fr := false) (k := 0) (T := sNever) F_value sc_value (fun _ _ _ _ _ _ _ _ => dss_never)) (fun _ => Or.inl rfl), PySem.W.mg_of X G a_value, k_value, B_value, .nil⟩
    | succ n ih => exact ⟨_, _, _, _, d_value (n := 1 + n) F_value (by omega) ih, PySem.W.mg_of X G a_value, k_value, B_value, .nil⟩
  have H_value : DefOk l.prog w K mg base (ctOf K) "value" 46 false [] b_value := Hr_value 45
  have Hr_law_value : ∀ n : Nat, DefOk l.prog w K mg base (ctOf K) "_law_value" (1 + n) false [] (R_law_value n) := by
    intro n
    induction n with
    | zero => exact ⟨_, _, _, _, FnOk.as (fnV (P := l.prog) (w := w) (mg := mg) (base := base) (CT := ctOf K) (fr := false) (k := 0) (T := sNever) F_law_value sc_law_value (fun _ _ _ _ _ _ _ _ => dss_never)) (fun _ => Or.inl rfl), PySem.W.mg_of X G a_law_value, k_law_value, B_law_value, .nil⟩
    | succ n ih => exact ⟨_, _, _, _, d_law_value (n := 1 + n) F_law_value (by omega) ih, PySem.W.mg_of X G a_law_value, k_law_value, B_law_value, .nil⟩
  have H_law_value : DefOk l.prog w K mg base (ctOf K) "_law_value" 46 false [] b_law_value := Hr_law_value 45
  have K_law_whole : FnOk l.prog w K mg base CX0 1 _ _ ["_law_found"] (SpD K (ctOf K) false b_law_whole) := d_law_whole F_law_whole zz_isinstance zz_int zz_bool
  have H_law_whole : DefOk l.prog w K mg base (ctOf K) "_law_whole" 1 false [] b_law_whole := ⟨_, _, _, _, K_law_whole, PySem.W.mg_of X G a_law_whole, k_law_whole, B_law_whole, .nil⟩
  have K_law : FnOk l.prog w K mg base CX0 47 _ _ ["_law_script"] (SpD K (ctOf K) false b_law) := d_law F_law H_law_built H_law_used H_law_mixed H_value H_law_whole H_law_value zz_range zz_len zz_dict zz_list
  exact K_law
theorem walk {l : PySem.W.OpenLaw} {q : Program} {loose : List Str} {XP : (Str → Option Value) → Heap → Prop} {YP : World → Heap → Prop} {d : DefRec} {K : Params → PySem.W.Frag} (hn : l.most = some 63) (hdf : d.params.defaults = [])
    (hY : ∀ (w : World) (h : Heap), YP w h → (K w.params).In h) (hlaw : ∀ ns : List Int, ns.length ≤ 63 → (∀ z ∈ ns, bitsI z ≤ 1048576) → b_law [.lst (ns.map .int)] = .ok (.bl true))
    (F : ∀ (w : World) (mg : Str → Option Value) (fa : Addr) (h : Heap), (K w.params).In h → h.Ns mainGlobals mg → mg d.name = some (.ref fa) →
      ∃ fd : FuncData, (∀ (s : Shared) (u : Value), BindsTo s fd ⟨[u], []⟩ [("_law_script", u)]) ∧ ∀ base : Heap, (K w.params).In base → base.Ns mainGlobals mg → FnOk l.prog w (K w.params) mg base CX0 47 fa fd ["_law_script"] (SpD (K w.params) (ctOf (K w.params)) false b_law)) :
    PySem.W.WalkO q loose XP YP l.row.toRowW d [] (fun f vs => PySem.call f vs) :=
  DL.walk_of (n := 63) (k := 47) (x := "_law_script") (CX := fun _ => CX0) (sp := fun w => SpD (K w.params) (ctOf (K w.params)) false b_law) hn (by decide) hdf ⟨rfl, by decide, by decide⟩ hY F
    (fun w H a ns hl hbits _ hS => ⟨[.lst (ns.map .int)], H, Same.refl H, ⟨.ref a, [], rfl, ⟨a, _, rfl, hS, RepL.map_int ns⟩, rfl⟩, by rw [hlaw ns hl hbits]; exact fun v H' G' _ _ _ _ r => r⟩) fun _ _ _ _ _ z => z
end My
open PySem PySem.W PyProof.Rows
set_option maxRecDepth 100000 in
set_option maxHeartbeats 0 in
theorem PySem.Challenge.cw_dockethall_k73_value_holds : PySem.Challenge.rw_dockethall_k73_value.Holds := by
  w_on; o_law; k_head; (case hw => w_witness2)
  k_fill
  refine My.walk (l := PySem.Challenge.rw_dockethall_k73_value) rfl rfl (fun w h Y => PySem.W.kIn_of Y) My.the_law ?F
  case F =>
    intro w mg fa h KX G hmg
    refine' My.all_mk KX G hmg ?a_law_name ?l_law_name ?c_law_name ?k_law_name ?a_law_mixed ?l_law_mixed ?c_law_mixed ?k_law_mixed ?a_law_built ?l_law_built ?c_law_built ?k_law_built ?a_law_used ?l_law_used ?c_law_used ?k_law_used ?a_value ?l_value ?c_value ?k_value ?a_law_value ?l_law_value ?c_law_value ?k_law_value ?a_law_whole ?l_law_whole ?c_law_whole ?k_law_whole ?a_law ?l_law ?c_law ?k_law ?z_range ?z_len ?z_isinstance ?z_int ?z_bool ?z_dict ?z_list
    (case a_law_name => k_is)
    (case l_law_name => k_is)
    (case c_law_name => k_is)
    (case k_law_name => k_is)
    (case a_law_mixed => k_is)
    (case l_law_mixed => k_is)
    (case c_law_mixed => k_is)
    (case k_law_mixed => k_is)
    (case a_law_built => k_is)
    (case l_law_built => k_is)
    (case c_law_built => k_is)
    (case k_law_built => k_is)
    (case a_law_used => k_is)
    (case l_law_used => k_is)
    (case c_law_used => k_is)
    (case k_law_used => k_is)
    (case a_value => k_is)
    (case l_value => k_is)
    (case c_value => k_is)
    (case k_value => k_is)
    (case a_law_value => k_is)
    (case l_law_value => k_is)
    (case c_law_value => k_is)
    (case k_law_value => k_is)
    (case a_law_whole => k_is)
    (case l_law_whole => k_is)
    (case c_law_whole => k_is)
    (case k_law_whole => k_is)
    (case a_law => k_is)
    (case l_law => k_is)
    (case c_law => k_is)
    (case k_law => k_is)
    (case z_range => k_is)
    (case z_len => k_is)
    (case z_isinstance => k_is)
    (case z_int => k_is)
    (case z_bool => k_is)
    (case z_dict => k_is)
    (case z_list => k_is)
