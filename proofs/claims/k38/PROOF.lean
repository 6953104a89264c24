import PyProof.Rows.All
import Wide.All
import OpenK.AllK
import Wide.FinOn
import Lean
import PyProof.EqAt
import PyProof.EqKinds
import PyProof.TupleCall
import PySem.Challenge.RW_corehouse_k38_how_cells_are_shown
set_option Elab.async false
set_option linter.all false
set_option maxRecDepth 100000
namespace L2
open PySem PySem.Spec PyProof.Rows
abbrev Key := Sum Int Str
def keyIs : Key → Value → Bool
  | .inl k, v => Value.isInt k v
  | .inr x, v => Value.isStrOf x v
def keyH (w : World) : Key → Int
  | .inl k => hashInt k
  | .inr x => hashStr w x
theorem keyIs_shape : ∀ {k : Key} {v : Value}, keyIs k v = true → (∃ i t, k = Sum.inl i ∧ v = Value.int i t) ∨ (∃ x t, k = Sum.inr x ∧ v = Value.str x t)
  | .inl i, v, h => by
    obtain ⟨t, e⟩ := Value.isInt_shape (k := i) (v := v) h
    exact .inl ⟨i, t, rfl, e⟩
  | .inr x, v, h => by
    obtain ⟨t, e⟩ := Value.isStrOf_shape (x := x) (v := v) h
    exact .inr ⟨x, t, rfl, e⟩
theorem key_ll (a b : Int) : decide ((Sum.inl a : Key) = Sum.inl b) = (a == b) := by
  by_cases e : a = b
  · subst e; simp
  · have h : ¬ (Sum.inl a : Key) = Sum.inl b := fun q => e (Sum.inl.inj q)
    rw [decide_eq_false h]
    exact (beq_eq_false_iff_ne.mpr e).symm
theorem key_rr (a b : Str) : decide ((Sum.inr a : Key) = Sum.inr b) = decide (a = b) := by
  by_cases e : a = b
  · subst e; simp
  · have h : ¬ (Sum.inr a : Key) = Sum.inr b := fun q => e (Sum.inr.inj q)
    rw [decide_eq_false h, decide_eq_false e]
theorem key_lr (a : Int) (b : Str) : decide ((Sum.inl a : Key) = Sum.inr b) = false := decide_eq_false (fun q => nomatch q)
theorem key_rl (a : Str) (b : Int) : decide ((Sum.inr a : Key) = Sum.inl b) = false := decide_eq_false (fun q => nomatch q)
def mixKind (prog : Program) (w : World) : PySem.KeyKind prog w Key where
  is := keyIs
  hash := keyH w
  inj := fun v a b ha hb => by
    rcases keyIs_shape ha with ⟨i, t, rfl, rfl⟩ | ⟨x, t, rfl, rfl⟩
    · rcases keyIs_shape hb with ⟨j, u, rfl, e⟩ | ⟨y, u, rfl, e⟩
      · injection e with e1 _; rw [e1]
      · exact nomatch e
    · rcases keyIs_shape hb with ⟨j, u, rfl, e⟩ | ⟨y, u, rfl, e⟩
      · exact nomatch e
      · injection e with e1 _; rw [e1]
  byValue := fun k v h => by
    rcases keyIs_shape h with ⟨i, t, rfl, rfl⟩ | ⟨x, t, rfl, rfl⟩ <;> rfl
  pyHash := fun hv h => by
    rcases keyIs_shape hv with ⟨i, t, rfl, rfl⟩ | ⟨x, t, rfl, rfl⟩
    · exact wpAny_pyHash_int h
    · exact wpAny_pyHash_str h
  eqBool := fun hu hv h => by
    rcases keyIs_shape hu with ⟨i, t, rfl, rfl⟩ | ⟨x, t, rfl, rfl⟩
    · rcases keyIs_shape hv with ⟨j, u, rfl, rfl⟩ | ⟨y, u, rfl, rfl⟩
      · rw [key_ll] at h; exact wpAny_eqBool_int h
      · rw [key_lr] at h; exact SeqAt.EqAt.int_str i t y u _ _ _ _ h
    · rcases keyIs_shape hv with ⟨j, u, rfl, rfl⟩ | ⟨y, u, rfl, rfl⟩
      · rw [key_rl] at h; exact SeqAt.EqAt.str_int x t j u _ _ _ _ h
      · rw [key_rr] at h; exact wpAny_eqBool_str h
  «strs» := fun k x t v h => by
    rcases keyIs_shape h with ⟨i, u, rfl, e⟩ | ⟨y, u, rfl, e⟩
    · exact nomatch e
    · injection e with e1 _
      subst e1
      cases v <;> rfl
end L2
namespace L2
open PySem PySem.Spec PyProof.Rows
inductive V where
  | non | bl (b : Bool) | int (i : Int) | str (x : Str) | byt (b : Array UInt8) | flt (b : UInt64) | ref (a : Addr) | ty (n : String)
  deriving DecidableEq
def RelV : V → Value → Prop
  | .non, u => u = Value.none
  | .bl b, u => u = Value.bool b
  | .int i, u => ∃ t, u = Value.int i t
  | .str x, u => ∃ t, u = Value.str x t
  | .byt b, u => ∃ t, u = Value.bytes b t
  | .flt b, u => ∃ t, u = Value.float b t
  | .ref a, u => u = Value.ref a
  | .ty n, u => u = Value.type n
abbrev Vals : List V → List Value → Prop := Paired RelV
theorem Vals.length {xs : List V} {us : List Value} (r : Vals xs us) : xs.length = us.length := Paired.length r
theorem Vals.get : ∀ {xs : List V} {us : List Value} {i : Nat} {x : V}, Vals xs us → xs[i]? = some x → ∃ u, us[i]? = some u ∧ RelV x u
  | _, _, _, _, .nil, e => by simp at e
  | _, _, 0, _, .cons r _, e => by simp at e; subst e; exact ⟨_, rfl, r⟩
  | _, _, i + 1, x, .cons _ t, e => by
    obtain ⟨u, h1, h2⟩ := Vals.get (i := i) (x := x) t (by simpa using e)
    exact ⟨u, by simpa using h1, h2⟩
theorem Vals.set {x : V} {u : Value} (r : RelV x u) : ∀ {xs : List V} {us : List Value} (i : Nat), Vals xs us → Vals (xs.set i x) (us.set i u)
  | _, _, _, .nil => .nil
  | _, _, 0, .cons _ t => .cons r t
  | _, _, i + 1, .cons q t => .cons q (Vals.set r i t)
theorem Vals.append : ∀ {xs ys : List V} {us ws : List Value}, Vals xs us → Vals ys ws → Vals (xs ++ ys) (us ++ ws)
  | _, _, _, _, .nil, s => s
  | _, _, _, _, .cons r t, s => .cons r (Vals.append t s)
theorem Vals.take : ∀ {xs : List V} {us : List Value} (n : Nat), Vals xs us → Vals (xs.take n) (us.take n)
  | _, _, 0, _ => .nil
  | _, _, _ + 1, .nil => .nil
  | _, _, n + 1, .cons r t => .cons r (Vals.take n t)
theorem Vals.drop : ∀ {xs : List V} {us : List Value} (n : Nat), Vals xs us → Vals (xs.drop n) (us.drop n)
  | _, _, 0, r => r
  | _, _, _ + 1, .nil => .nil
  | _, _, n + 1, .cons _ t => Vals.drop n t
def RelO : Option V → Option Value → Prop
  | some v, some u => RelV v u
  | none, none => True
  | _, _ => False
def KV {κ : Type} : List (κ × V) → List (κ × Value) → Prop := Paired fun (p : κ × V) (q : κ × Value) => p.1 = q.1 ∧ RelV p.2 q.2
def kV : Key → V
  | .inl i => .int i
  | .inr x => .str x
inductive HO where
  /-- a list -/
  | lst (xs : List V)
  /-- a tuple (never changes) -/
  | tup (xs : List V)
  /-- a dict whose keys are ints and texts; one whose keys are tuples of ints and texts (the empty one is both) -/
  | dK (kvs : List (Key × V)) | dT (kvs : List (List Key × V))
  /-- a set of ints: its members, its size -/
  | set (S : Int → Bool) (n : Nat)
  /-- an instance of the class at C, its dict at dx, its attributes -/
  | ins (C dx : Addr) (fs : List (Str × V))
  /-- the dict of the instance at x -/
  | own (x : Addr)
  /-- the dict of an exception -/
  | xd (fs : List (Str × V))
  /-- a bound method, f of x -/
  | met (f x : Addr)
  /-- a range object lo, lo + 1, .. below hi -/
  | rng (lo hi : Int)
  /-- a thing that is known to the object (the script; a dict while a loop walks it): read, never written while it is so -/
  | frz (o : Obj) (u : HO)
  /-- a code object's table -/
  | tbl (ps : Array Value)
  /-- any other thing, by what is true of its one object (a def of one's own: SetO a S n := HO.ext fun h => ..) -/
  | ext (φ : Heap → Prop)
abbrev Hp := Addr → Option HO
def upd (H : Hp) (a : Addr) (o : HO) : Hp := fun b => if b = a then some o else H b
theorem upd_same {H : Hp} {a : Addr} {o : HO} : upd H a o a = some o := by unfold upd; rw [if_pos rfl]
theorem upd_ne {H : Hp} {a b : Addr} {o : HO} (h : b ≠ a) : upd H a o b = H b := by unfold upd; rw [if_neg h]
theorem ne_of_none {H : Hp} {a b : Addr} {o : HO} (h : H a = some o) (h' : H b = none) : a ≠ b := by
  intro e; subst e; rw [h] at h'; cases h'
section
variable (P : Program) (w : World)
def ObjOk (H : Hp) (h : Heap) (a : Addr) : HO → Prop
  | .lst xs => xs.length ≤ sizeLine ∧ ∃ (its : List Value) (n : Nat), Vals xs its ∧ h.get? a = some { cls := .type "list", data := .seq its.toArray n }
  | .tup xs => xs.length ≤ sizeLine ∧ ∃ its : List Value, Vals xs its ∧ IsTup h a its.toArray
  | .dK kvs => kvs.length ≤ sizeLine ∧ (a == sysModules) = false ∧ ∃ vs, KV kvs vs ∧ h.DictOf (mixKind P w) a vs
  | .dT kvs => kvs.length ≤ sizeLine ∧ (a == sysModules) = false ∧ ∃ xs : List (List Key × Addr × Value),
      Paired (fun (p : List Key × V) (q : List Key × Addr × Value) => p.1 = q.1 ∧ H q.2.1 = some (.tup (p.1.map kV)) ∧ RelV p.2 q.2.2) kvs xs ∧
      ∃ o es ep, h.get? a = some o ∧ o.ExactDict ∧ o.data = .dict es ep ∧ es.toList = xs.map (entryOfKey (tupleKind (mixKind P w))) ∧ (xs.map (·.1)).Nodup
  | .set S n => h.SetOf (intKind P w) a S n
  | .ins C dx fs => H dx = some (.own a) ∧ fs.length ≤ 1000 ∧ dx ≠ a ∧ h.get? a = some (PySem.W.instObj C dx) ∧
      ∃ mA, h.Ns1 dx mA ∧ (∀ f, RelO (fs.lookup f) (mA f)) ∧ PySem.Within mA (fs.map (·.1))
  | .own _ => ∃ o, h.get? a = some o
  | .xd fs => ∃ mA, h.Ns1 a mA ∧ ∀ f, RelO (fs.lookup f) (mA f)
  | .rng lo hi => ∃ t u v, h.get? a = some { cls := .type "range", data := .fields #[.int lo t, .int hi u, .int 1 v] }
  | .frz o u => h.get? a = some o ∧ ObjOk H h a u
  | .tbl ps => h.get? a = some { cls := .none, data := .fields ps }
  | .met f x => h.get? a = some (PySem.W.methodObj (.ref f) (.ref x))
  | .ext φ => φ h ∧ (∃ o, h.get? a = some o) ∧ ∀ h1 h2 : Heap, φ h1 → (∀ o, h1.get? a = some o → h2.get? a = some o) → φ h2
def HOk (H : Hp) (h : Heap) : Prop := ∀ a o, H a = some o → ObjOk P w H h a o
end
section
variable {P : Program} {w : World} {H H' : Hp} {h h' : Heap} {a : Addr} {o : HO}
theorem ObjOk.lt (x : ObjOk P w H h a o) : a < h.objs.size := by
  cases o with
  | lst xs => obtain ⟨_, _, _, _, e⟩ := x; exact Heap.lt_size e
  | tup xs => obtain ⟨_, _, _, p⟩ := x; exact p.lt
  | dK kvs => obtain ⟨_, _, _, _, o, _, _, e, _⟩ := x; exact Heap.lt_size e
  | dT kvs => obtain ⟨_, _, _, _, o, _, _, e, _⟩ := x; exact Heap.lt_size e
  | set S n => obtain ⟨o, _, _, _, e, _⟩ := x; exact Heap.lt_size e
  | ins C dx fs => obtain ⟨_, _, _, e, _⟩ := x; exact Heap.lt_size e
  | own y => obtain ⟨_, e⟩ := x; exact Heap.lt_size e
  | xd fs => obtain ⟨_, ⟨_, _, _, e, _⟩, _⟩ := x; exact Heap.lt_size e
  | rng lo hi => obtain ⟨_, _, _, e⟩ := x; exact Heap.lt_size e
  | frz ob u => obtain ⟨e, _⟩ := x; exact Heap.lt_size e
  | tbl ps => exact Heap.lt_size (show h.get? a = some _ from x)
  | met f y => exact Heap.lt_size (show h.get? a = some _ from x)
  | ext φ => obtain ⟨_, ⟨_, e⟩, _⟩ := x; exact Heap.lt_size e
theorem Paired.mapP {α β : Type} {F G : α → β → Prop} : ∀ {l₁ : List α} {l₂ : List β}, Paired F l₁ l₂ → (∀ a b, F a b → G a b) → Paired G l₁ l₂
  | _, _, .nil, _ => .nil
  | _, _, .cons r t, f => .cons (f _ _ r) (Paired.mapP t f)
theorem ObjOk.stay (x : ObjOk P w H h a o) (k : ∀ b u, (b = a ∨ H b = some (.own a)) → h.get? b = some u → h'.get? b = some u)
    (ho : ∀ b, H b = some (.own a) → H' b = some (.own a)) (ht : ∀ b xs, H b = some (.tup xs) → H' b = some (.tup xs)) : ObjOk P w H' h' a o := by
  induction o with
  | lst xs => obtain ⟨z, its, n, r, e⟩ := x; exact ⟨z, its, n, r, k _ _ (.inl rfl) e⟩
  | tup xs => obtain ⟨z, its, r, ob, e, c⟩ := x; exact ⟨z, its, r, ob, k _ _ (.inl rfl) e, c⟩
  | dK kvs => obtain ⟨z, y, vs, r, ob, es, ep, e, c⟩ := x; exact ⟨z, y, vs, r, ob, es, ep, k _ _ (.inl rfl) e, c⟩
  | dT kvs =>
    obtain ⟨z, y, xs, r, ob, es, ep, e, c⟩ := x
    exact ⟨z, y, xs, Paired.mapP r fun p q z => ⟨z.1, ht _ _ z.2.1, z.2.2⟩, ob, es, ep, k _ _ (.inl rfl) e, c⟩
  | set S n => obtain ⟨ob, es, ep, t, e, c⟩ := x; exact ⟨ob, es, ep, t, k _ _ (.inl rfl) e, c⟩
  | ins C dx fs =>
    obtain ⟨d, z, ne, e, mA, ⟨od, es, ep, e2, c⟩, r⟩ := x
    exact ⟨ho _ d, z, ne, k _ _ (.inl rfl) e, mA, ⟨od, es, ep, k _ _ (.inr d) e2, c⟩, r⟩
  | own y => obtain ⟨ob, e⟩ := x; exact ⟨ob, k _ _ (.inl rfl) e⟩
  | xd fs => obtain ⟨mA, ⟨od, es, ep, e, c⟩, r⟩ := x; exact ⟨mA, ⟨od, es, ep, k _ _ (.inl rfl) e, c⟩, r⟩
  | rng lo hi => obtain ⟨t, u, v, e⟩ := x; exact ⟨t, u, v, k _ _ (.inl rfl) e⟩
  | frz ob u ih => obtain ⟨e, q⟩ := x; exact ⟨k _ _ (.inl rfl) e, ih q⟩
  | tbl ps =>
    have e : h.get? a = some { cls := .none, data := .fields ps } := x
    show h'.get? a = some { cls := .none, data := .fields ps }
    exact k a _ (.inl rfl) e
  | met f y =>
    have e : h.get? a = some (PySem.W.methodObj (.ref f) (.ref y)) := x
    show h'.get? a = some (PySem.W.methodObj (.ref f) (.ref y))
    exact k a _ (.inl rfl) e
  | ext φ => obtain ⟨p, ⟨o, e⟩, st⟩ := x; exact ⟨st _ _ p fun o q => k _ _ (.inl rfl) q, ⟨o, k _ _ (.inl rfl) e⟩, st⟩
theorem HOk.lt (x : HOk P w H h) (e : H a = some o) : a < h.objs.size := (x a o e).lt
theorem HOk.fresh (x : HOk P w H h) (e : h.objs.size ≤ a) : H a = none := by
  cases q : H a with
  | none => rfl
  | some u => exact absurd (Nat.lt_of_lt_of_le (x.lt q) e) (Nat.lt_irrefl _)
theorem HOk.kept (x : HOk P w H h) (k : ∀ b u, h.get? b = some u → h'.get? b = some u) : HOk P w H h' := fun a o e =>
  (x a o e).stay (fun b u _ q => k b u q) (fun _ q => q) fun _ _ q => q
theorem HOk.laid (x : HOk P w H h) (k : ∀ b u, h.get? b = some u → h'.get? b = some u) (hp : h.objs.size ≤ a) (new : ObjOk P w (upd H a o) h' a o) : HOk P w (upd H a o) h' := fun b u e => by
  have hn := x.fresh hp
  by_cases hb : b = a
  · subst hb; rw [upd_same] at e; cases e; exact new
  · rw [upd_ne hb] at e
    exact (x b u e).stay (fun c v _ q => k c v q) (fun c q => by rw [upd_ne (ne_of_none q hn)]; exact q) fun c xs q => by rw [upd_ne (ne_of_none q hn)]; exact q
end
def Rd (H : Hp) (a : Addr) (u : HO) : Prop := H a = some u ∨ ∃ o, H a = some (.frz o u)
theorem Rd.of {H : Hp} {a : Addr} {u : HO} (h : H a = some u) : Rd H a u := .inl h
theorem Rd.ok {P : Program} {w : World} {H : Hp} {h : Heap} {a : Addr} {u : HO} (r : Rd H a u) (x : HOk P w H h) : ObjOk P w H h a u := by
  rcases r with r | ⟨o, r⟩
  · exact x a u r
  · obtain ⟨_, q⟩ := x a _ r
    exact q
def Mut : Option HO → Prop
  | some (.lst _) => True
  | some (.dK _) => True
  | some (.dT _) => True
  | some (.set _ _) => True
  | some (.ins _ _ _) => True
  | some (.ext _) => True
  | _ => False
section
variable {P : Program} {w : World} {H : Hp} {h h' : Heap} {x e : Addr} {o' : HO}
theorem HOk.write (ok : HOk P w H h) (mu : Mut (H x)) (he : e = x ∨ H e = some (.own x)) (k : ∀ b u, b ≠ e → h.get? b = some u → h'.get? b = some u) (heo : ∃ u, h'.get? e = some u)
    (new : ObjOk P w (upd H x o') h' x o') : HOk P w (upd H x o') h' := fun b u q => by
  have nown : ∀ c y, H c = some (.own y) → c ≠ x := fun c y r z => by subst z; rw [r] at mu; exact mu
  have ntup : ∀ c xs, H c = some (.tup xs) → c ≠ x := fun c xs r z => by subst z; rw [r] at mu; exact mu
  by_cases hb : b = x
  · subst hb; rw [upd_same] at q; cases q; exact new
  · rw [upd_ne hb] at q
    by_cases hbe : b = e
    · have q' : H b = some (.own x) := by
        rcases he with z | z
        · exact absurd (hbe.trans z) hb
        · rw [hbe]; exact z
      rw [q] at q'; cases q'
      obtain ⟨v, hv⟩ := heo
      exact ⟨v, by rw [hbe]; exact hv⟩
    · refine (ok b u q).stay (fun c v hc r => k c v ?_ r) (fun c r => by rw [upd_ne (nown c b r)]; exact r) fun c xs r => by rw [upd_ne (ntup c xs r)]; exact r
      rcases hc with rfl | hc
      · exact hbe
      · rintro rfl
        rcases he with z | z
        · exact nown c b hc z
        · rw [hc] at z; cases z; exact hb rfl
end
structure Un (fs ex : List Addr) (H H' : Hp) (h h' : Heap) : Prop where
  keep : ∀ b o, h.get? b = some o → H b = none → b ∉ fs → b ∉ ex → h'.get? b = some o
  slot : ∀ b o, h.get? b = some o → H b = none → b ∈ fs → b ∉ ex → ∃ sl, h'.get? b = some { o with slots := sl }
  free : ∀ b o, h.get? b = some o → H b = none → b ∉ ex → H' b = none
  there : ∀ b o, h.get? b = some o → b ∉ ex → ∃ o', h'.get? b = some o'
  tups : ∀ b xs, H b = some (.tup xs) → H' b = some (.tup xs)
  frzs : ∀ b o u, H b = some (.frz o u) → H' b = some (.frz o u)
  tbls : ∀ b ps, H b = some (.tbl ps) → ∃ more, H' b = some (.tbl (ps ++ more))
section
variable {fs fs' ex ex' : List Addr} {H H1 H2 : Hp} {h h1 h2 h' : Heap} {a x e : Addr} {o : HO}
theorem Un.any (u : Un fs ex H H1 h h1) {b : Addr} {ob : Obj} (q : h.get? b = some ob) (n : H b = none) (hx : b ∉ ex) : ∃ sl, h1.get? b = some { ob with slots := sl } := by
  by_cases hb : b ∈ fs
  · exact u.slot b ob q n hb hx
  · exact ⟨ob.slots, u.keep b ob q n hb hx⟩
theorem Un.trans (a : Un fs ex H H1 h h1) (b : Un fs ex H1 H2 h1 h2) : Un fs ex H H2 h h2 where
  keep := fun c ob q n hc hx => b.keep c ob (a.keep c ob q n hc hx) (a.free c ob q n hx) hc hx
  slot := fun c ob q n hc hx => by
    obtain ⟨sl, e1⟩ := a.slot c ob q n hc hx
    obtain ⟨sl', e2⟩ := b.slot c _ e1 (a.free c ob q n hx) hc hx
    exact ⟨sl', e2⟩
  free := fun c ob q n hx => by
    obtain ⟨o', e1⟩ := a.there c ob q hx
    exact b.free c o' e1 (a.free c ob q n hx) hx
  there := fun c ob q hx => by
    obtain ⟨o', e1⟩ := a.there c ob q hx
    exact b.there c o' e1 hx
  tups := fun c xs q => b.tups c xs (a.tups c xs q)
  frzs := fun c ob xs q => b.frzs c ob xs (a.frzs c ob xs q)
  tbls := fun c ps q => by
    obtain ⟨m1, e1⟩ := a.tbls c ps q
    obtain ⟨m2, e2⟩ := b.tbls c _ e1
    exact ⟨m1 ++ m2, by rw [e2, Array.append_assoc]⟩
theorem Un.kept (k : ∀ b u, h.get? b = some u → h'.get? b = some u) : Un fs ex H H h h' :=
  ⟨fun b ob q _ _ _ => k b ob q, fun b ob q _ _ _ => ⟨ob.slots, k b ob q⟩, fun _ _ _ n _ => n, fun b ob q _ => ⟨ob, k b ob q⟩, fun _ _ q => q, fun _ _ _ q => q, fun _ ps q => ⟨#[], by rw [q]; simp⟩⟩
theorem Un.refl : Un fs ex H H h h := Un.kept fun _ _ q => q
theorem Un.laid (k : ∀ b u, h.get? b = some u → h'.get? b = some u) (hp : h.objs.size ≤ a) (hn : H a = none) : Un fs ex H (upd H a o) h h' where
  keep := fun b u q _ _ _ => k b u q
  slot := fun b u q _ _ _ => ⟨u.slots, k b u q⟩
  free := fun b u q n _ => by rw [upd_ne (Nat.ne_of_lt (Nat.lt_of_lt_of_le (Heap.lt_size q) hp))]; exact n
  there := fun b u q _ => ⟨u, k b u q⟩
  tups := fun b xs q => by rw [upd_ne (ne_of_none q hn)]; exact q
  frzs := fun b u xs q => by rw [upd_ne (ne_of_none q hn)]; exact q
  tbls := fun b ps q => ⟨#[], by rw [upd_ne (ne_of_none q hn), q]; simp⟩
theorem Un.write (mu : Mut (H x)) (he : e = x ∨ H e = some (.own x)) (k : ∀ b u, b ≠ e → h.get? b = some u → h'.get? b = some u) (heo : ∃ u, h'.get? e = some u) : Un fs ex H (upd H x o) h h' := by
  have hx : ∀ b, H b = none → b ≠ x := fun b n z => by subst z; rw [n] at mu; exact mu
  have hb : ∀ b, H b = none → b ≠ e := fun b n z => by
    subst z
    rcases he with r | r
    · exact hx b n r
    · rw [n] at r; cases r
  have hm : ∀ b u, H b = some u → ¬ Mut (some u) → b ≠ x := fun b u q nm z => by subst z; rw [q] at mu; exact nm mu
  refine ⟨fun b u q n _ _ => k b u (hb b n) q, fun b u q n _ _ => ⟨u.slots, k b u (hb b n) q⟩, fun b u q n _ => by rw [upd_ne (hx b n)]; exact n, fun b u q _ => ?_,
    fun b xs q => by rw [upd_ne (hm b _ q fun z => z)]; exact q, fun b u xs q => by rw [upd_ne (hm b _ q fun z => z)]; exact q, fun b ps q => ⟨#[], by rw [upd_ne (hm b _ q fun z => z), q]; simp⟩⟩
  by_cases hbe : b = e
  · subst hbe; exact heo
  · exact ⟨u, k b u hbe q⟩
theorem Un.mono (u : Un fs ex H H1 h h1) (hs : ∀ b ∈ fs, b ∈ fs') (hx : ∀ b ∈ ex, b ∈ ex') : Un fs' ex' H H1 h h1 :=
  ⟨fun b ob q n hb he => u.keep b ob q n (fun z => hb (hs b z)) fun z => he (hx b z), fun _ _ q n _ he => u.any q n fun z => he (hx _ z), fun b ob q n he => u.free b ob q n fun z => he (hx b z), fun b ob q he => u.there b ob q fun z => he (hx b z), u.tups, u.frzs, u.tbls⟩
end
def trk (h : Heap) (H : Hp) : List Addr := (List.range h.objs.size).filter fun a => (H a).isSome
def hidT (h : Heap) (H : Hp) : Heap := PySem.W.hideAll h (trk h H)
theorem hidT_size (h : Heap) (H : Hp) : (hidT h H).objs.size = h.objs.size := PySem.W.hideAll_size _ _
theorem hidT_get {h : Heap} {H : Hp} {b : Addr} {o : Obj} (e : h.get? b = some o) (n : H b = none) : (hidT h H).get? b = some o :=
  PySem.W.hideAll_get _ e fun hm => by
    have q : (H b).isSome = true := (List.mem_filter.mp hm).2
    rw [n] at q; simp at q
theorem of_hidT {h : Heap} {H : Hp} {b : Addr} {o : Obj} (e : (hidT h H).get? b = some o) : h.get? b = some o ∧ H b = none := by
  have e' : h.get? b = some o := PySem.W.of_hideAll (trk h H) e
  refine ⟨e', ?_⟩
  cases q : H b with
  | none => rfl
  | some x =>
    have hm : b ∈ trk h H := List.mem_filter.mpr ⟨List.mem_range.mpr (Heap.lt_size e'), by simp [q]⟩
    have z : (hidT h H).get? b = none := PySem.W.hideAll_none (trk h H) hm
    rw [z] at e; cases e
def allNews (g h : Heap) (L : Addr) : List (Addr × Obj) := (List.range h.objs.size).filterMap fun a => if a = L ∨ (g.get? a).isSome = true then none else (h.get? a).map fun o => (a, o)
def rest (g h : Heap) (L d : Addr) : List (Addr × Obj) := (allNews g h L).filter fun p => decide (p.1 ≠ d)
end L2
namespace L2
open PySem PySem.Spec PyProof.Rows
structure Mod (K : PySem.W.Frag) (mg : Str → Option Value) (base : Heap) : Prop where
  kin : K.In base
  glob : base.Ns mainGlobals mg
  blt : ∃ mb, base.Ns builtinsNs mb ∧ ∀ x : Str, x ≠ "__name__" → mb x = bootBuiltins x
  nolimit : base.NoLimit
structure Cx where
  prog : Program
  w : World
  K : PySem.W.Frag
  mg : Str → Option Value
  base : Heap
  A : Around
  N : List Str
  s₀ : Shared
  H₀ : Hp
  env : Env
  outer : List Env
  stack : List Env
  ex : List Addr
  fn : Str → Bool
  calm : Bool
  pn : List (Addr × Obj)
  xe : Value → Shared → Prop
def frs (l : List Env) : List Addr := l.filterMap (·.frame)
abbrev Cx.fs (X : Cx) : List Addr := frs X.outer
def Vis (sc : Scope) (x : Str) : Prop := sc.names.lookup x = some .local ∨ sc.names.lookup x = some .cell ∨ sc.names.lookup x = some .free
def Loc (sc : Scope) (x : Str) : Prop := sc.names.lookup x = some .local ∨ sc.names.lookup x = some .cell
def Look (env : Env) (h : Heap) (m : Str → Option Value) (x : Str) (u : Value) : Prop :=
  (env.kindOf x = some .local ∧ m x = some u) ∨ ((env.kindOf x = some .cell ∨ env.kindOf x = some .free) ∧ ∃ c, env.cells.lookup x = some c ∧ h.IsCell c (some u))
structure Cx.Ok (X : Cx) : Prop where
  mod : Mod X.K X.mg X.base
  kind : X.env.scope.kind = .function
  glob : X.env.globals = mainGlobals
  blt : X.env.builtins = builtinsNs
  above : X.s₀.heap.objs.size ≤ X.env.locals
  inj : ∀ x y c, X.env.cells.lookup x = some c → X.env.cells.lookup y = some c → x = y
  has : ∀ x, (X.env.kindOf x = some .cell ∨ X.env.kindOf x = some .free) → ∃ c, X.env.cells.lookup x = some c
  cab : ∀ x c, X.fn x = true → X.env.cells.lookup x = some c → X.s₀.heap.objs.size ≤ c
  hd : X.calm = true → X.A.handled = none
  frames : X.A.frames = some X.stack
  stk : X.stack = X.outer ∨ (X.stack = X.env :: X.outer ∧ X.env.frame = some X.env.locals)
  exf : ∀ b ∈ X.ex, b ≠ X.env.locals ∧ ∀ x c, X.env.cells.lookup x = some c → c ≠ b
  bs : ∀ b o, X.base.get? b = some o → X.s₀.heap.get? b = some o ∧ X.H₀ b = none
  bsz : X.base.objs.size ≤ X.s₀.heap.objs.size
  noex : ∀ b o, X.base.get? b = some o → b ∉ X.ex
  exfs : ∀ b ∈ X.ex, b ∉ X.fs
  funs : X.s₀.heap.FunFrames X.base X.outer
  frf : ∀ b ∈ X.fs, X.H₀ b = none
structure Inv (X : Cx) (pins : List (Addr × Obj)) (σ : List (Option V)) (H : Hp) (s : Shared) : Prop where
  ok : X.Ok
  os : s.os = X.s₀.os
  bare : AllBare s.gens
  base : Un X.fs X.ex X.H₀ H X.s₀.heap s.heap
  loc : ∃ m, s.heap.Ns X.env.locals m ∧ ∀ (i : Nat) (x : Str) (v : V), X.N[i]? = some x → σ[i]? = some (some v) → Vis X.env.scope x → ∃ u, RelV v u ∧ Look X.env s.heap m x u
  cell : ∀ x c, X.env.cells.lookup x = some c → ∃ v, s.heap.IsCell c v
  free : H X.env.locals = none
  freeC : ∀ x c, X.env.cells.lookup x = some c → H c = none
  pin : ∀ p ∈ X.pn ++ pins, s.heap.get? p.1 = some p.2 ∧ H p.1 = none ∧ p.1 ≠ X.env.locals ∧ p.1 ∉ X.fs ∧ ∀ v, p.2.data ≠ .cell v
  hok : HOk X.prog X.w H s.heap
  len : σ.length = X.N.length
section
variable {X : Cx} {pins : List (Addr × Obj)} {σ : List (Option V)} {H H' : Hp} {s : Shared} {h' : Heap}
theorem Cx.Ok.nofr (ok : X.Ok) {b : Addr} {o : Obj} (e : X.base.get? b = some o) : b ∉ X.fs := fun hb => by
  have := (ok.funs.mem hb).1
  rw [e] at this; cases this
theorem Inv.bs (I : Inv X pins σ H s) : ∀ b o, X.base.get? b = some o → s.heap.get? b = some o ∧ H b = none := fun b o e =>
  ⟨I.base.keep b o (I.ok.bs b o e).1 (I.ok.bs b o e).2 (I.ok.nofr e) (I.ok.noex b o e), I.base.free b o (I.ok.bs b o e).1 (I.ok.bs b o e).2 (I.ok.noex b o e)⟩
theorem Inv.bk (I : Inv X pins σ H s) : ∀ b o, X.base.get? b = some o → s.heap.get? b = some o := fun b o e => (I.bs b o e).1
theorem Inv.mod (I : Inv X pins σ H s) : Mod X.K X.mg X.base := I.ok.mod
theorem Inv.kIn (I : Inv X pins σ H s) : X.K.In s.heap := I.ok.mod.kin.keeps I.bk
theorem Inv.nolimit (I : Inv X pins σ H s) : s.heap.NoLimit := I.ok.mod.nolimit.keeps I.bk
theorem Inv.fr (I : Inv X pins σ H s) : ∃ m, Fr X.base X.env.locals s.heap m :=
  let ⟨m, hn, _⟩ := I.loc
  ⟨m, hn, I.bk, Nat.le_trans I.ok.bsz I.ok.above⟩
theorem Inv.lt (I : Inv X pins σ H s) : X.env.locals < s.heap.objs.size := let ⟨_, hn, _⟩ := I.loc; hn.lt
theorem Inv.sz (I : Inv X pins σ H s) : X.s₀.heap.objs.size ≤ s.heap.objs.size := Nat.le_trans I.ok.above (Nat.le_of_lt I.lt)
theorem Inv.nofs (I : Inv X pins σ H s) {a : Addr} (h : s.heap.objs.size ≤ a) : a ∉ X.fs := fun hb => by
  obtain ⟨_, o, ho, _⟩ := I.ok.funs.mem hb
  exact absurd (Nat.lt_of_lt_of_le (Heap.lt_size ho) (Nat.le_trans I.sz h)) (Nat.lt_irrefl _)
theorem Inv.cne (I : Inv X pins σ H s) : ∀ x c, X.env.cells.lookup x = some c → c ≠ X.env.locals := fun x c e z => by
  obtain ⟨v, o, ho, hd⟩ := I.cell x c e
  obtain ⟨m, ⟨o', es, ep, ho', hd', _⟩, _⟩ := I.loc
  rw [z, ho'] at ho; cases ho; rw [hd'] at hd; cases hd
theorem Inv.funs (I : Inv X pins σ H s) : s.heap.FunFrames X.base X.outer := by
  have all : ∀ (l : List Env), (∀ b ∈ frs l, b ∈ X.fs) → X.s₀.heap.FunFrames X.base l → s.heap.FunFrames X.base l := by
    intro l
    induction l with
    | nil => intro _ _; trivial
    | cons env r ih =>
      intro hs hl
      obtain ⟨hk, ⟨L, o, hf, hn, ho, hd⟩, hr⟩ := hl
      have hL : L ∈ X.fs := hs L (by unfold frs; rw [List.filterMap_cons, hf]; exact List.mem_cons_self)
      obtain ⟨sl, e⟩ := I.base.slot L o ho (I.ok.frf L hL) hL fun z => I.ok.exfs L z hL
      exact ⟨hk, ⟨L, _, hf, hn, e, hd⟩, ih (fun b hb => hs b (by unfold frs; rw [List.filterMap_cons, hf]; exact List.mem_cons_of_mem _ hb)) hr⟩
  exact all X.outer (fun _ hb => hb) I.ok.funs
theorem Inv.stack (I : Inv X pins σ H s) : s.heap.FunFrames X.base X.stack := by
  rcases I.ok.stk with e | ⟨e, hf⟩
  · rw [e]; exact I.funs
  · rw [e]
    obtain ⟨m, hn, _⟩ := I.loc
    refine .cons (by rw [I.ok.kind]; decide) hf hn ?_ I.funs
    exact Heap.get?_none_of_le (Nat.le_trans I.ok.bsz I.ok.above)
theorem Inv.stkSub (I : Inv X pins σ H s) : ∀ b ∈ frs X.stack, b ∈ X.env.locals :: X.fs := fun b hb => by
  rcases I.ok.stk with e | ⟨e, hf⟩
  · rw [e] at hb; exact List.mem_cons_of_mem _ hb
  · rw [e] at hb
    unfold frs at hb
    rw [List.filterMap_cons, hf] at hb
    exact hb
theorem Inv.stkFree (I : Inv X pins σ H s) : ∀ b ∈ frs X.stack, H b = none := fun b hb => by
  rcases List.mem_cons.mp (I.stkSub b hb) with e | hb
  · rw [e]; exact I.free
  · obtain ⟨_, o, ho, _⟩ := I.ok.funs.mem hb
    exact I.base.free b o ho (I.ok.frf b hb) fun z => I.ok.exfs b z hb
theorem Inv.step {g' : Array GenState} {t' : Nat} {d' : Drawn} {ch : List Addr} (I : Inv X pins σ H s)
    (hch : ∀ b ∈ ch, (b ∈ X.ex ∨ X.s₀.heap.objs.size ≤ b) ∧ b ≠ X.env.locals ∧ (∀ x c, X.env.cells.lookup x = some c → c ≠ b) ∧ ∀ p ∈ X.pn ++ pins, p.1 ≠ b)
    (keep : ∀ b o, b ≠ X.env.locals → b ∉ X.fs → b ∉ ch → s.heap.get? b = some o → H b = none → h'.get? b = some o)
    (slot : ∀ b o, b ≠ X.env.locals → b ∈ X.fs → b ∉ ch → s.heap.get? b = some o → H b = none → ∃ sl, h'.get? b = some { o with slots := sl }) (free : ∀ b o, b ∉ ch → s.heap.get? b = some o → H b = none → H' b = none)
    (there : ∀ b o, b ∉ ch → s.heap.get? b = some o → ∃ o', h'.get? b = some o')
    (tups : ∀ b xs, H b = some (.tup xs) → H' b = some (.tup xs)) (frzs : ∀ b o u, H b = some (.frz o u) → H' b = some (.frz o u)) (tbls : ∀ b ps, H b = some (.tbl ps) → ∃ more, H' b = some (.tbl (ps ++ more)))
    (ns : ∀ m, s.heap.Ns X.env.locals m → h'.Ns X.env.locals m) (hok : HOk X.prog X.w H' h') (hg : AllBare g') :
    Inv X pins σ H' { s with heap := h', gens := g', drawn := d', toks := t' } := by
  have neL : ∀ b o, X.s₀.heap.get? b = some o → b ≠ X.env.locals := fun b o e => Nat.ne_of_lt (Nat.lt_of_lt_of_le (Heap.lt_size e) I.ok.above)
  have neC : ∀ b o, X.s₀.heap.get? b = some o → b ∉ X.ex → b ∉ ch := fun b o e hx hb => by
    rcases (hch b hb).1 with z | z
    · exact hx z
    · exact absurd (Nat.lt_of_lt_of_le (Heap.lt_size e) z) (Nat.lt_irrefl _)
  have cellK : ∀ x c, X.env.cells.lookup x = some c → ∀ v, s.heap.IsCell c v → h'.IsCell c v := fun x c e v ⟨o, ho, hd⟩ => by
    have nch : c ∉ ch := fun z => (hch c z).2.2.1 x c e rfl
    by_cases hc : c ∈ X.fs
    · obtain ⟨sl, q⟩ := slot c o (I.cne x c e) hc nch ho (I.freeC x c e)
      exact ⟨_, q, hd⟩
    · exact ⟨o, keep c o (I.cne x c e) hc nch ho (I.freeC x c e), hd⟩
  refine ⟨I.ok, I.os, hg, ⟨fun b o e n hb hx => ?_, fun b o e n hb hx => ?_, fun b o e n hx => ?_, fun b o e hx => ?_, fun b xs e => tups b xs (I.base.tups b xs e), fun b o xs e => frzs b o xs (I.base.frzs b o xs e), fun b ps e => ?_⟩, ?_, fun x c e => ?_, ?_, fun x c e => ?_, fun p hp => ?_, hok, I.len⟩
  · exact keep b o (neL b o e) hb (neC b o e hx) (I.base.keep b o e n hb hx) (I.base.free b o e n hx)
  · obtain ⟨sl, e1⟩ := I.base.slot b o e n hb hx
    obtain ⟨sl', e2⟩ := slot b _ (neL b o e) hb (neC b o e hx) e1 (I.base.free b o e n hx)
    exact ⟨sl', e2⟩
  · obtain ⟨o', e1⟩ := I.base.there b o e hx
    exact free b o' (neC b o e hx) e1 (I.base.free b o e n hx)
  · obtain ⟨o', e1⟩ := I.base.there b o e hx
    exact there b o' (neC b o e hx) e1
  · obtain ⟨m1, e1⟩ := I.base.tbls b ps e
    obtain ⟨m2, e2⟩ := tbls b _ e1
    exact ⟨m1 ++ m2, by rw [e2, Array.append_assoc]⟩
  · obtain ⟨m, hn, hl⟩ := I.loc
    refine ⟨m, ns m hn, fun i x v e1 e2 e3 => ?_⟩
    obtain ⟨u, r, l⟩ := hl i x v e1 e2 e3
    refine ⟨u, r, ?_⟩
    rcases l with l | ⟨k, c, e, z⟩
    · exact .inl l
    · exact .inr ⟨k, c, e, cellK x c e _ z⟩
  · obtain ⟨v, z⟩ := I.cell x c e
    exact ⟨v, cellK x c e v z⟩
  · obtain ⟨m, ⟨o, _, _, ho, _⟩, _⟩ := I.loc
    exact free _ o (fun z => (hch _ z).2.1 rfl) ho I.free
  · obtain ⟨v, o, ho, hd⟩ := I.cell x c e
    exact free c o (fun z => (hch c z).2.2.1 x c e rfl) ho (I.freeC x c e)
  · obtain ⟨e, n, ne, nf, d⟩ := I.pin p hp
    have nch : p.1 ∉ ch := fun z => (hch p.1 z).2.2.2 p hp rfl
    exact ⟨keep p.1 p.2 ne nf nch e n, free p.1 p.2 nch e n, ne, nf, d⟩
theorem Inv.un {t' : Nat} (I : Inv X pins σ H s) (u : Un X.fs [] H H' s.heap h') (hok : HOk X.prog X.w H' h') : Inv X pins σ H' { s with heap := h', toks := t' } := by
  obtain ⟨m, ⟨o, es, ep, ho, r⟩, _⟩ := id I.loc
  obtain ⟨sl, hL⟩ := u.any ho I.free (by simp)
  exact I.step (g' := s.gens) (d' := s.drawn) (ch := []) (fun _ z => nomatch z) (fun b o _ hb _ e n => u.keep b o e n hb (by simp)) (fun b o _ hb _ e n => u.slot b o e n hb (by simp)) (fun b o _ e n => u.free b o e n (by simp)) (fun b o _ e => u.there b o e (by simp)) u.tups u.frzs u.tbls (fun m' hm => by
    obtain ⟨o', es', ep', ho', r'⟩ := hm
    rw [ho] at ho'; cases ho'
    exact ⟨_, es', ep', hL, r'⟩) hok I.bare
theorem Inv.call {g' : Array GenState} {t' : Nat} {d' : Drawn} {ch : List Addr} (I : Inv X pins σ H s) (u : Un (frs X.stack) ch H H' s.heap h') (hok : HOk X.prog X.w H' h') (hg : AllBare g')
    (hch : ∀ b ∈ ch, (b ∈ X.ex ∨ X.s₀.heap.objs.size ≤ b) ∧ b ≠ X.env.locals ∧ (∀ x c, X.env.cells.lookup x = some c → c ≠ b) ∧ ∀ p ∈ X.pn ++ pins, p.1 ≠ b) :
    Inv X pins σ H' { s with heap := h', gens := g', drawn := d', toks := t' } := by
  obtain ⟨m, ⟨o, es, ep, ho, r⟩, _⟩ := id I.loc
  obtain ⟨sl, hL⟩ := u.any ho I.free fun z => (hch _ z).2.1 rfl
  exact I.step (ch := ch) hch (fun b o hL hb hc e n => u.keep b o e n (fun z => (List.mem_cons.mp (I.stkSub b z)).elim hL hb) hc) (fun b o _ _ hc e n => u.any e n hc) (fun b o hc e n => u.free b o e n hc) (fun b o hc e => u.there b o e hc) u.tups u.frzs u.tbls (fun m' hm => by
    obtain ⟨o', es', ep', ho', r'⟩ := hm
    rw [ho] at ho'; cases ho'
    exact ⟨_, es', ep', hL, r'⟩) hok hg
theorem Inv.turned {t' : Nat} {it : Addr} (I : Inv X pins σ H s) (k : ∀ b o, b ≠ it → s.heap.get? b = some o → h'.get? b = some o) (hn : H it = none) (hL : it ≠ X.env.locals)
    (h1 : it ∈ X.ex ∨ X.s₀.heap.objs.size ≤ it) (h2 : ∀ x c, X.env.cells.lookup x = some c → c ≠ it) (h3 : ∀ p ∈ X.pn ++ pins, p.1 ≠ it) : Inv X pins σ H { s with heap := h', toks := t' } := by
  have nit : ∀ b u, H b = some u → b ≠ it := fun b u e z => by rw [z, hn] at e; cases e
  refine I.step (g' := s.gens) (d' := s.drawn) (ch := [it]) (fun b hb => ?_) (fun b o _ _ hc e _ => k b o (fun z => hc (by simp [z])) e) (fun b o _ _ hc e _ => ⟨o.slots, k b o (fun z => hc (by simp [z])) e⟩) (fun _ _ _ _ n => n)
    (fun b o hc e => ⟨o, k b o (fun z => hc (by simp [z])) e⟩) (fun _ _ e => e) (fun _ _ _ e => e) (fun b ps e => ⟨#[], by rw [e]; simp⟩) (fun m hm => ?_) (fun b u e => ?_) I.bare
  · have e : b = it := by simpa using hb
    subst e
    exact ⟨h1, hL, h2, h3⟩
  · obtain ⟨o, es, ep, ho, r⟩ := hm
    exact ⟨o, es, ep, k _ o (Ne.symm hL) ho, r⟩
  · refine (I.hok b u e).stay (fun c v hc q => k c v ?_ q) (fun _ q => q) fun _ _ q => q
    rcases hc with z | z
    · rw [z]; exact nit b u e
    · exact nit c _ z
theorem Inv.tok (I : Inv X pins σ H s) (t : Nat) : Inv X pins σ H { s with toks := t } := I.un (h' := s.heap) (t' := t) Un.refl I.hok
theorem Inv.kept {t' : Nat} (I : Inv X pins σ H s) (k : ∀ b u, s.heap.get? b = some u → h'.get? b = some u) : Inv X pins σ H { s with heap := h', toks := t' } := I.un (Un.kept k) (I.hok.kept k)
theorem Inv.laid {a : Addr} {o : HO} {t' : Nat} (I : Inv X pins σ H s) (k : ∀ b u, s.heap.get? b = some u → h'.get? b = some u) (hp : s.heap.objs.size ≤ a) (new : ObjOk X.prog X.w (upd H a o) h' a o) :
    Inv X pins σ (upd H a o) { s with heap := h', toks := t' } := I.un (Un.laid k hp (I.hok.fresh hp)) (I.hok.laid k hp new)
theorem Inv.write {x e : Addr} {o : HO} {t' : Nat} (I : Inv X pins σ H s) (mu : Mut (H x)) (he : e = x ∨ H e = some (.own x)) (k : ∀ b u, b ≠ e → s.heap.get? b = some u → h'.get? b = some u) (heo : ∃ u, h'.get? e = some u)
    (new : ObjOk X.prog X.w (upd H x o) h' x o) : Inv X pins σ (upd H x o) { s with heap := h', toks := t' } := I.un (Un.write mu he k heo) (I.hok.write mu he k heo new)
theorem Inv.pins_of {pins' : List (Addr × Obj)} (I : Inv X pins σ H s) (h : ∀ p ∈ pins', s.heap.get? p.1 = some p.2 ∧ H p.1 = none ∧ p.1 ≠ X.env.locals ∧ p.1 ∉ X.fs ∧ ∀ v, p.2.data ≠ .cell v) : Inv X pins' σ H s :=
  ⟨I.ok, I.os, I.bare, I.base, I.loc, I.cell, I.free, I.freeC, fun p hp => (List.mem_append.mp hp).elim (fun z => I.pin p (List.mem_append_left _ z)) (h p), I.hok, I.len⟩
theorem nodup_ix {N : List Str} (hN : N.Nodup) {i j : Nat} {x : Str} (a : N[i]? = some x) (b : N[j]? = some x) : i = j := by
  obtain ⟨h1, e1⟩ := List.getElem?_eq_some_iff.mp a
  obtain ⟨h2, e2⟩ := List.getElem?_eq_some_iff.mp b
  exact (List.getElem_inj hN).mp (e1.trans e2.symm)
theorem store_ok2 {M : Model} {A : Around} {E : Value → Shared → Prop} {i : Nat} {x : Str} {v : V} {u : Value} {Q : Unit → Shared → Prop} (I : Inv X pins σ H s) (hN : X.N.Nodup) (hi : X.N[i]? = some x) (hx : Loc X.env.scope x) (r : RelV v u)
    (h : ∀ s', Inv X pins (σ.set i (some v)) H s' → (∃ a, Heap.SameBut a s.heap s'.heap ∧ (a = X.env.locals ∨ X.env.cells.lookup x = some a)) → Q () s') (hf : X.fn x = true ∨ X.env.scope.names.lookup x = some .local := by first | exact .inl rfl | exact .inr rfl | assumption) : wpAny M A (storeName X.env x u) Q E s := by
  obtain ⟨m, hn, hl⟩ := id I.loc
  have hcls : (X.env.scope.kind == .class || (X.env.scope.kind == .module && X.env.locals != X.env.globals)) = false := by rw [I.ok.kind]; rfl
  have hiσ : i < σ.length := by rw [I.len]; exact (List.getElem?_eq_some_iff.mp hi).1
  have cne := I.cne
  have tracked : ∀ {a : Addr} {h' : Heap}, (∃ o, s.heap.get? a = some o ∧ H a = none) → Heap.SameBut a s.heap h' → HOk X.prog X.w H h' := fun {a h'} ha hs b ob e => by
    obtain ⟨_, _, hfree⟩ := ha
    refine (I.hok b ob e).stay (fun c w' hc q => (hs.2 c ?_).trans q) (fun _ q => q) fun _ _ q => q
    rintro rfl
    rcases hc with rfl | hc
    · rw [hfree] at e; cases e
    · rw [hfree] at hc; cases hc
  rcases hx with hk | hk
  · refine wpAny_storeName_local hk hn (fun h' hn' hs => ?_) hcls
    obtain ⟨oL, _, _, hoL, _⟩ := id hn
    refine h _ ⟨I.ok, I.os, I.bare, ⟨fun b o e n hb hx => ?_, fun b o e n hb hx => ?_, I.base.free, fun b o e hx => ?_, I.base.tups, I.base.frzs, I.base.tbls⟩, ⟨_, hn', fun j y v' e1 e2 e3 => ?_⟩, fun y c e => ?_, I.free, I.freeC, fun p hp => ?_, tracked ⟨oL, hoL, I.free⟩ hs, by simpa using I.len⟩ ⟨_, hs, .inl rfl⟩
    · exact (hs.2 b (Nat.ne_of_lt (Nat.lt_of_lt_of_le (Heap.lt_size e) I.ok.above))).trans (I.base.keep b o e n hb hx)
    · obtain ⟨sl, e1⟩ := I.base.slot b o e n hb hx
      exact ⟨sl, (hs.2 b (Nat.ne_of_lt (Nat.lt_of_lt_of_le (Heap.lt_size e) I.ok.above))).trans e1⟩
    · obtain ⟨o', e1⟩ := I.base.there b o e hx
      exact ⟨o', (hs.2 b (Nat.ne_of_lt (Nat.lt_of_lt_of_le (Heap.lt_size e) I.ok.above))).trans e1⟩
    · by_cases hj : j = i
      · subst hj
        rw [hi] at e1; cases e1
        rw [List.getElem?_set_self hiσ] at e2
        cases e2
        exact ⟨u, r, .inl ⟨hk, by simp⟩⟩
      · rw [List.getElem?_set_ne (Ne.symm hj)] at e2
        obtain ⟨u', r', q⟩ := hl j y v' e1 e2 e3
        refine ⟨u', r', ?_⟩
        rcases q with ⟨k, e⟩ | ⟨k, c, e, z⟩
        · refine .inl ⟨k, ?_⟩
          have : y ≠ x := fun e => hj (nodup_ix hN e1 (e ▸ hi))
          simp [this, e]
        · exact .inr ⟨k, c, e, z.sameBut hs (cne y c e)⟩
    · obtain ⟨w', z⟩ := I.cell y c e
      exact ⟨w', z.sameBut hs (cne y c e)⟩
    · obtain ⟨e, n, ne, nf, d⟩ := I.pin p hp
      exact ⟨(hs.2 p.1 ne).trans e, n, ne, nf, d⟩
  · have hfn : X.fn x = true := by
      rcases hf with z | z
      · exact z
      · rw [z] at hk; cases hk
    obtain ⟨c, hc⟩ := I.ok.has x (.inl hk)
    obtain ⟨w', z⟩ := I.cell x c hc
    refine wpAny_storeName_cell I.ok.kind hk hc z (fun h' hc' hs => ?_)
    obtain ⟨oc, hoc, hocd⟩ := id z
    refine h { s with heap := h' } ⟨I.ok, I.os, I.bare, ⟨fun b o e n hb hx => ?_, fun b o e n hb hx => ?_, I.base.free, fun b o e hx => ?_, I.base.tups, I.base.frzs, I.base.tbls⟩, ⟨m, hn.sameBut hs (Ne.symm (cne x c hc)), fun j y v' e1 e2 e3 => ?_⟩, fun y c' e => ?_, I.free, I.freeC, fun p hp => ?_, tracked ⟨oc, hoc, I.freeC x c hc⟩ hs, by simpa using I.len⟩ ⟨c, hs, .inr hc⟩
    · exact (hs.2 b (Nat.ne_of_lt (Nat.lt_of_lt_of_le (Heap.lt_size e) (I.ok.cab x c hfn hc)))).trans (I.base.keep b o e n hb hx)
    · obtain ⟨sl, e1⟩ := I.base.slot b o e n hb hx
      exact ⟨sl, (hs.2 b (Nat.ne_of_lt (Nat.lt_of_lt_of_le (Heap.lt_size e) (I.ok.cab x c hfn hc)))).trans e1⟩
    · obtain ⟨o', e1⟩ := I.base.there b o e hx
      exact ⟨o', (hs.2 b (Nat.ne_of_lt (Nat.lt_of_lt_of_le (Heap.lt_size e) (I.ok.cab x c hfn hc)))).trans e1⟩
    · by_cases hj : j = i
      · subst hj
        rw [hi] at e1; cases e1
        rw [List.getElem?_set_self hiσ] at e2
        cases e2
        exact ⟨u, r, .inr ⟨.inl hk, c, hc, hc'⟩⟩
      · rw [List.getElem?_set_ne (Ne.symm hj)] at e2
        obtain ⟨u', r', q⟩ := hl j y v' e1 e2 e3
        refine ⟨u', r', ?_⟩
        rcases q with q | ⟨k, c', e, z'⟩
        · exact .inl q
        · refine .inr ⟨k, c', e, z'.sameBut hs ?_⟩
          rintro rfl
          exact hj (nodup_ix hN e1 (I.ok.inj _ _ _ e hc ▸ hi))
    · by_cases hcc : c' = c
      · subst hcc; exact ⟨_, hc'⟩
      · obtain ⟨w2, z2⟩ := I.cell y c' e
        exact ⟨w2, z2.sameBut hs hcc⟩
    · obtain ⟨e, n, ne, nf, d⟩ := I.pin p hp
      refine ⟨(hs.2 p.1 ?_).trans e, n, ne, nf, d⟩
      intro q
      rw [q, hoc] at e
      have q' : oc = p.2 := Option.some.inj e
      exact d w' (by rw [← q']; exact hocd)
theorem store_ok {M : Model} {A : Around} {E : Value → Shared → Prop} {i : Nat} {x : Str} {v : V} {u : Value} {Q : Unit → Shared → Prop} (I : Inv X pins σ H s) (hN : X.N.Nodup) (hi : X.N[i]? = some x) (hx : Loc X.env.scope x) (r : RelV v u)
    (h : ∀ s', Inv X pins (σ.set i (some v)) H s' → Q () s') (hf : X.fn x = true ∨ X.env.scope.names.lookup x = some .local := by first | exact .inl rfl | exact .inr rfl | assumption) : wpAny M A (storeName X.env x u) Q E s :=
  store_ok2 I hN hi hx r (fun s' I' _ => h s' I') hf
theorem Inv.call' {s' : Shared} {ch : List Addr} (I : Inv X pins σ H s) (ho : s'.os = s.os) (u : Un (frs X.stack) ch H H' s.heap s'.heap) (hok : HOk X.prog X.w H' s'.heap) (hg : AllBare s'.gens)
    (hch : ∀ b ∈ ch, (b ∈ X.ex ∨ X.s₀.heap.objs.size ≤ b) ∧ b ≠ X.env.locals ∧ (∀ x c, X.env.cells.lookup x = some c → c ≠ b) ∧ ∀ p ∈ X.pn ++ pins, p.1 ≠ b) : Inv X pins σ H' s' := by
  obtain ⟨h', g', d', t', o'⟩ := s'
  have e : o' = s.os := ho
  subst e
  exact I.call (g' := g') (t' := t') (d' := d') u hok hg hch
end
abbrev XK := Value → Option Addr → Hp → Prop
abbrev St := List (Option V)
abbrev VK := V → Hp → Prop
abbrev TE := St → Hp → VK → Prop
abbrev TT := St → Hp → (Bool → Hp → Prop) → Prop
abbrev TA := St → Hp → (List V → Hp → Prop) → Prop
structure Ends where
  nx : St → Hp → Prop
  rt : VK
  bk : St → Hp → Prop := fun _ _ => False
  ct : St → Hp → Prop := fun _ _ => False
abbrev TS := Ends → St → Hp → Prop
def EP (X : Cx) (pins : List (Addr × Obj)) (σ : St) (Q : VK) (u : Value) (s' : Shared) : Prop := ∃ v H', Inv X pins σ H' s' ∧ RelV v u ∧ Q v H'
def TP (X : Cx) (pins : List (Addr × Obj)) (σ : St) (Q : Bool → Hp → Prop) (b : Bool) (s' : Shared) : Prop := ∃ H', Inv X pins σ H' s' ∧ Q b H'
def AP (X : Cx) (pins : List (Addr × Obj)) (σ : St) (Q : List V → Hp → Prop) (us : List Value) (s' : Shared) : Prop := ∃ vs H', Inv X pins σ H' s' ∧ Vals vs us ∧ Q vs H'
def SP (X : Cx) (pins : List (Addr × Obj)) (D : Ends) (f : Flow) (s' : Shared) : Prop :=
  match f with
  | .next => ∃ σ' H', Inv X pins σ' H' s' ∧ D.nx σ' H'
  | .brk => ∃ σ' H', Inv X pins σ' H' s' ∧ D.bk σ' H'
  | .cont => ∃ σ' H', Inv X pins σ' H' s' ∧ D.ct σ' H'
  | .ret u => ∃ v σ' H', Inv X pins σ' H' s' ∧ RelV v u ∧ D.rt v H'
def PE (X : Cx) (e : Expr) (t : TE) : Prop :=
  ∀ (pins : List (Addr × Obj)) (s : Shared) (σ : St) (H : Hp) (Q : VK), Inv X pins σ H s → t σ H Q → wpAny (model X.prog X.w) X.A (eval e X.env) (EP X pins σ Q) X.xe s
def PT (X : Cx) (e : Expr) (t : TT) : Prop :=
  ∀ (pins : List (Addr × Obj)) (s : Shared) (σ : St) (H : Hp) (Q : Bool → Hp → Prop), Inv X pins σ H s → t σ H Q → wpAny (model X.prog X.w) X.A (isTrue e X.env (eval e X.env)) (TP X pins σ Q) X.xe s
def PW (X : Cx) (e : Expr) (t : TT) : Prop :=
  ∀ (whole : Sem Value) (pins : List (Addr × Obj)) (s : Shared) (σ : St) (H : Hp) (Q : Bool → Hp → Prop), Inv X pins σ H s → t σ H Q → wpAny (model X.prog X.w) X.A (isTrue e X.env whole) (TP X pins σ Q) X.xe s
theorem PW.pt {X : Cx} {e : Expr} {t : TT} (h : PW X e t) : PT X e t := h _
def PA (X : Cx) (es : List Expr) (t : TA) : Prop :=
  ∀ (pos : Pos) (pins : List (Addr × Obj)) (s : Shared) (σ : St) (H : Hp) (Q : List V → Hp → Prop), Inv X pins σ H s → t σ H Q → wpAny (model X.prog X.w) X.A (spliced (backTo pos (starEach es X.env))) (AP X pins σ Q) X.xe s
def PS (X : Cx) (st : Stmt) (t : TS) : Prop :=
  ∀ (pins : List (Addr × Obj)) (s : Shared) (σ : St) (H : Hp) (D : Ends), Inv X pins σ H s → t D σ H → wpAny (model X.prog X.w) X.A (exec st X.env) (SP X pins D) X.xe s
def PSs (X : Cx) (st : List Stmt) (t : TS) : Prop :=
  ∀ (pins : List (Addr × Obj)) (s : Shared) (σ : St) (H : Hp) (D : Ends), Inv X pins σ H s → t D σ H → wpAny (model X.prog X.w) X.A (execs st X.env) (SP X pins D) X.xe s
theorem thn {α : Type} {t : Sem α} {Q Q' : α → Shared → Prop} {M : Model} {A : Around} {E : Value → Shared → Prop} {s : Shared} (h : wpAny M A t Q E s) (hQ : ∀ a s, Q a s → Q' a s) : wpAny M A t Q' E s := wpAny_mono h hQ fun _ _ x => x
end L2
namespace L2
open PySem PySem.Spec PyProof.Rows
section
variable {X : Cx}
theorem bin {a b : Expr} {ta tb : TE} (ha : PE X a ta) (hb : PE X b tb) {pins : List (Addr × Obj)} {s : Shared} {σ : St} {H : Hp} {R : V → V → Hp → Prop} (I : Inv X pins σ H s) (h : ta σ H fun x H1 => tb σ H1 fun y H2 => R x y H2)
    {α : Type} {Q : α → Shared → Prop} {f : Value → Value → Sem α}
    (hf : ∀ v u s2 x y H2, Inv X pins σ H2 s2 → RelV x v → RelV y u → R x y H2 → wpAny (model X.prog X.w) X.A (f v u) Q X.xe s2) :
    wpAny (model X.prog X.w) X.A (eval a X.env) (fun v s₁ => wpAny (model X.prog X.w) X.A (eval b X.env) (fun u s₂ => wpAny (model X.prog X.w) X.A (f v u) Q X.xe s₂) X.xe s₁) X.xe s := by
  refine thn (ha pins s σ H _ I h) fun v s1 ⟨x, H1, I1, r1, q1⟩ => ?_
  refine thn (hb pins s1 σ H1 _ I1 q1) fun u s2 ⟨y, H2, I2, r2, q2⟩ => ?_
  exact hf v u s2 x y H2 I2 r1 r2 q2
def tVar (i : Nat) : TE := fun σ H Q => ∃ v, σ[i]? = some (some v) ∧ Q v H
def tC (v : V) : TE := fun _ H Q => Q v H
theorem pe_var {i : Nat} {x : Str} {pos : Pos} (hN : X.N[i]? = some x) (hv : Vis X.env.scope x) (hd : (x == ("__debug__" : Str)) = false := by decide) (hcd : (x == ("__classdict__" : Str)) = false := by decide) : PE X (.Name x pos) (tVar i) := by
  intro pins s σ H Q I h
  obtain ⟨v, e, h⟩ := h
  obtain ⟨m, hn, hl⟩ := I.loc
  obtain ⟨u, r, l⟩ := hl i x v hN e hv
  have fin : EP X pins σ Q u s := ⟨v, H, I, r, h⟩
  rcases l with ⟨hk, hm⟩ | ⟨hk, c, hc, hcell⟩
  · exact wpAny_Name (wpAny_loadName_local I.ok.kind hk hn hm fin) hd
  · rcases hk with hk | hk
    · exact wpAny_Name (wpAny_loadName_cell I.ok.kind hk hc hcell fin) hd
    · exact wpAny_Name (wpAny_loadName_free I.ok.kind hk hc hcell fin hcd) hd
theorem pe_int {i j pos} : PE X (.Constant (.int i) j pos) (tC (.int i)) := fun _ _ _ H _ I h => wpAny_Constant_int ⟨.int i, H, I.tok _, ⟨_, rfl⟩, h⟩
theorem pe_non {j pos} : PE X (.Constant .none j pos) (tC .non) := fun _ _ _ H _ I h => Constant_none ⟨.non, H, I, rfl, h⟩
theorem pe_str {x j pos} : PE X (.Constant (.str x) j pos) (tC (.str x)) := fun _ _ _ H _ I h => Calls.Constant_str ⟨.str x, H, I.tok _, ⟨_, rfl⟩, h⟩
def Gl (X : Cx) (x : Str) : Prop := X.env.kindOf x = some .globalImplicit
theorem ld_glob {E : Value → Shared → Prop} {pins : List (Addr × Obj)} {s : Shared} {σ : St} {H : Hp} {x : Str} {u : Value} {pos : Pos} {Q : Value → Shared → Prop} (I : Inv X pins σ H s) (hg : Gl X x) (hm : X.mg x = some u) (h : Q u s)
    (hd : (x == ("__debug__" : Str)) = false := by decide) : wpAny (model X.prog X.w) X.A (eval (.Name x pos) X.env) Q E s :=
  Calls.Name_function_global I.ok.kind hg (Calls.loadGlobal_global (by rw [I.ok.glob]; exact I.mod.glob.keeps I.bk) hm h) hd
theorem ld_blt {E : Value → Shared → Prop} {pins : List (Addr × Obj)} {s : Shared} {σ : St} {H : Hp} {x : Str} {u : Value} {pos : Pos} {Q : Value → Shared → Prop} (I : Inv X pins σ H s) (hg : Gl X x) (hm : X.mg x = none) (hv : bootBuiltins x = some u) (h : Q u s)
    (hn : x ≠ "__name__" := by decide) (hd : (x == ("__debug__" : Str)) = false := by decide) : wpAny (model X.prog X.w) X.A (eval (.Name x pos) X.env) Q E s := by
  obtain ⟨mb, h1, h2⟩ := I.mod.blt
  exact Calls.Name_function_global I.ok.kind hg (Calls.loadGlobal_builtin (by rw [I.ok.glob]; exact I.mod.glob.keeps I.bk) hm (by rw [I.ok.blt]; exact h1.keeps I.bk) ((h2 x hn).trans hv) h) hd
theorem pe_glob {x : Str} {v : V} {u : Value} {pos : Pos} (hg : Gl X x) (hm : X.mg x = some u) (r : RelV v u) (hd : (x == ("__debug__" : Str)) = false := by decide) : PE X (.Name x pos) (tC v) :=
  fun _ _ _ H _ I h => ld_glob I hg hm ⟨v, H, I, r, h⟩ hd
variable {a b : Expr} {ta tb : TE} {pos : Pos}
def tB (t : TE) : TT := fun σ H Q => t σ H fun x H1 => ∃ c, x = .bl c ∧ Q c H1
theorem pt_val {e : Expr} {t : TE} (h : PE X e t) (he : ∀ whole, isTrue e X.env whole = (do let v ← whole; standAt e.pos; holding [v] (truthy v)) := by intro _; rfl) : PT X e (tB t) := by
  intro pins s σ H Q I hw
  refine isTrue_plain (thn (h pins s σ H _ I hw) fun v s1 ⟨x, H1, I1, r1, q1⟩ => ?_) (he _)
  obtain ⟨d, rfl, q⟩ := q1
  cases r1
  exact wpAny_truthy_bool ⟨H1, I1, q⟩
variable {tA tB' : TT} {rest : List Expr}
def tAnd (t u : TT) : TT := fun σ H Q => t σ H fun c H1 => if c = true then u σ H1 Q else Q false H1
def tOr (t u : TT) : TT := fun σ H Q => t σ H fun c H1 => if c = true then Q true H1 else u σ H1 Q
def tNot (t : TT) : TT := fun σ H Q => t σ H fun c H1 => Q (!c) H1
theorem pw_and1 (ha : PT X a tA) : PW X (.BoolOp .And [a] pos) tA := by
  intro wh pins s σ H Q I h
  refine isTrue_and (thn (ha pins s σ H Q I h) fun c s1 e => ?_)
  cases c with
  | true => exact isTrue_and_nil e
  | false => exact e
theorem pw_or1 (ha : PT X a tA) : PW X (.BoolOp .Or [a] pos) tA := by
  intro wh pins s σ H Q I h
  refine isTrue_or (thn (ha pins s σ H Q I h) fun c s1 e => ?_)
  cases c with
  | false => exact isTrue_or_nil e
  | true => exact e
theorem pw_and (ha : PT X a tA) (hb : PW X (.BoolOp .And (b :: rest) pos) tB') : PW X (.BoolOp .And (a :: b :: rest) pos) (tAnd tA tB') := by
  intro wh pins s σ H Q I h
  refine isTrue_and (thn (ha pins s σ H _ I h) fun c s1 ⟨H1, I1, q1⟩ => ?_)
  cases c with
  | true => exact hb wh pins s1 σ H1 Q I1 q1
  | false => exact ⟨H1, I1, q1⟩
theorem pw_or (ha : PT X a tA) (hb : PW X (.BoolOp .Or (b :: rest) pos) tB') : PW X (.BoolOp .Or (a :: b :: rest) pos) (tOr tA tB') := by
  intro wh pins s σ H Q I h
  refine isTrue_or (thn (ha pins s σ H _ I h) fun c s1 ⟨H1, I1, q1⟩ => ?_)
  cases c with
  | true => exact ⟨H1, I1, q1⟩
  | false => exact hb wh pins s1 σ H1 Q I1 q1
def tAndV (ta tb : TE) : TE := fun σ H Q => ta σ H fun x H1 => ∃ c, x = .bl c ∧ if c = true then tb σ H1 Q else Q (.bl false) H1
def tOrV (ta tb : TE) : TE := fun σ H Q => ta σ H fun x H1 => ∃ c, x = .bl c ∧ if c = true then Q (.bl true) H1 else tb σ H1 Q
def tNotV (ta : TE) : TE := fun σ H Q => ta σ H fun x H1 => ∃ c, x = .bl c ∧ Q (.bl (!c)) H1
def tIf (t : TT) (ta tb : TE) : TE := fun σ H Q => t σ H fun c H1 => if c = true then ta σ H1 Q else tb σ H1 Q
end
end L2
namespace L2
open PySem PySem.Spec PyProof.Rows
def SqL (K : PySem.W.Frag) (H : Hp) (a : Addr) (xs : List V) : Prop :=
  Rd H a (.lst xs) ∨
    ∃ (o : Obj) (its : Array Value) (n : Nat), K.lookup a = some o ∧ o.cls = .type "list" ∧ o.dict = none ∧ o.data = .seq its n ∧ its.size ≤ sizeLine ∧ Vals xs its.toList
def SqT (K : PySem.W.Frag) (H : Hp) (a : Addr) (xs : List V) : Prop :=
  Rd H a (.tup xs) ∨
    ∃ (o : Obj) (its : Array Value) (n : Nat), K.lookup a = some o ∧ o.cls = .type "tuple" ∧ o.data = .seq its n ∧ its.size ≤ sizeLine ∧ Vals xs its.toList
def absV : Value → Option V
  | .none => some .non
  | .bool b => some (.bl b)
  | .int i _ => some (.int i)
  | .str x _ => some (.str x)
  | .bytes b _ => some (.byt b)
  | .float b _ => some (.flt b)
  | .ref a => some (.ref a)
  | .type n => some (.ty n)
  | _ => none
theorem RelV.abs {x : V} {u : Value} (r : RelV x u) : absV u = some x := by
  cases x with
  | non => cases r; rfl
  | bl _ => cases r; rfl
  | int _ => obtain ⟨t, rfl⟩ := r; rfl
  | str _ => obtain ⟨t, rfl⟩ := r; rfl
  | byt _ => obtain ⟨t, rfl⟩ := r; rfl
  | flt _ => obtain ⟨t, rfl⟩ := r; rfl
  | ref _ => cases r; rfl
  | ty _ => cases r; rfl
theorem RelV.inj {x y : V} {u : Value} (r : RelV x u) (q : RelV y u) : x = y := Option.some.inj (r.abs.symm.trans q.abs)
theorem Vals.inj : ∀ {xs ys : List V} {us : List Value}, Vals xs us → Vals ys us → xs = ys
  | _, _, _, .nil, .nil => rfl
  | _, _, _, .cons r t, .cons r' t' => by rw [r.inj r', Vals.inj t t']
section
variable {X : Cx} {pins : List (Addr × Obj)} {σ : St} {H : Hp} {s : Shared} {a : Addr} {xs ys : List V}
theorem SqL.of {K : PySem.W.Frag} (h : H a = some (.lst xs)) : SqL K H a xs := .inl (.inl h)
theorem SqT.of {K : PySem.W.Frag} (h : H a = some (.tup xs)) : SqT K H a xs := .inl (.inl h)
theorem Inv.list (I : Inv X pins σ H s) (h : SqL X.K H a xs) : ∃ its : List Value, Vals xs its ∧ PlainL s.heap a its.toArray ∧ xs.length ≤ sizeLine := by
  rcases h with h | ⟨o, its, n, hk, hc, hd, hs, hz, r⟩
  · obtain ⟨z, its, n, r, e⟩ := h.ok I.hok
    exact ⟨its, r, ⟨_, n, e, rfl, rfl, rfl⟩, z⟩
  · refine ⟨its.toList, r, ⟨o, n, I.kIn a o hk, hc, hd, by simpa using hs⟩, ?_⟩
    have e := r.length
    simp only [Array.length_toList] at e
    omega
theorem Inv.tuple (I : Inv X pins σ H s) (h : SqT X.K H a xs) : ∃ its : List Value, Vals xs its ∧ IsTup s.heap a its.toArray ∧ xs.length ≤ sizeLine := by
  rcases h with h | ⟨o, its, n, hk, hc, hs, hz, r⟩
  · obtain ⟨z, its, r, p⟩ := h.ok I.hok
    exact ⟨its, r, p, z⟩
  · refine ⟨its.toList, r, ⟨o, I.kIn a o hk, hc, n, by simpa using hs⟩, ?_⟩
    have e := r.length
    simp only [Array.length_toList] at e
    omega
theorem Inv.list_inj (I : Inv X pins σ H s) (h : SqL X.K H a xs) (h' : SqL X.K H a ys) : xs = ys := by
  obtain ⟨its, r, ⟨o, n, e, _, _, d⟩, _⟩ := I.list h
  obtain ⟨its', r', ⟨o', n', e', _, _, d'⟩, _⟩ := I.list h'
  rw [e] at e'; cases e'
  rw [d] at d'
  injection d' with d1 _
  have : its = its' := by simpa using congrArg Array.toList d1
  subst this
  exact r.inj r'
end
abbrev Cx.wish (X : Cx) (E : Value → Shared → Prop) : Cx := { X with xe := E }
abbrev Cx.nox (X : Cx) : Cx := X.wish fun _ _ => False
theorem Cx.Ok.wish {X : Cx} (ok : X.Ok) (E : Value → Shared → Prop) : (X.wish E).Ok :=
  ⟨ok.mod, ok.kind, ok.glob, ok.blt, ok.above, ok.inj, ok.has, ok.cab, ok.hd, ok.frames, ok.stk, ok.exf, ok.bs, ok.bsz, ok.noex, ok.exfs, ok.funs, ok.frf⟩
theorem Cx.Ok.unwish {X : Cx} {E : Value → Shared → Prop} (ok : (X.wish E).Ok) : X.Ok :=
  ⟨ok.mod, ok.kind, ok.glob, ok.blt, ok.above, ok.inj, ok.has, ok.cab, ok.hd, ok.frames, ok.stk, ok.exf, ok.bs, ok.bsz, ok.noex, ok.exfs, ok.funs, ok.frf⟩
section
variable {X : Cx} {pins : List (Addr × Obj)} {σ : St} {H : Hp} {s : Shared} {E : Value → Shared → Prop}
theorem Inv.wish (I : Inv X pins σ H s) (E : Value → Shared → Prop) : Inv (X.wish E) pins σ H s := ⟨I.ok.wish E, I.os, I.bare, I.base, I.loc, I.cell, I.free, I.freeC, I.pin, I.hok, I.len⟩
theorem Inv.unwish (I : Inv (X.wish E) pins σ H s) : Inv X pins σ H s := ⟨I.ok.unwish, I.os, I.bare, I.base, I.loc, I.cell, I.free, I.freeC, I.pin, I.hok, I.len⟩
theorem SP.unwish {D : Ends} {f : Flow} {s' : Shared} (h : SP (X.wish E) pins D f s') : SP X pins D f s' := by
  cases f with
  | next => obtain ⟨σ', H', I, q⟩ := h; exact ⟨σ', H', I.unwish, q⟩
  | brk => obtain ⟨σ', H', I, q⟩ := h; exact ⟨σ', H', I.unwish, q⟩
  | cont => obtain ⟨σ', H', I, q⟩ := h; exact ⟨σ', H', I.unwish, q⟩
  | ret u => obtain ⟨v, σ', H', I, r, q⟩ := h; exact ⟨v, σ', H', I.unwish, r, q⟩
theorem PE.nox {e : Expr} {t : TE} (h : PE X.nox e t) : PE X e t := fun pins s σ H Q I hw =>
  wpAny_mono (h pins s σ H Q (I.wish _) hw) (fun _ _ ⟨v, H', I', r, q⟩ => ⟨v, H', I'.unwish, r, q⟩) fun _ _ z => False.elim z
theorem PT.nox {e : Expr} {t : TT} (h : PT X.nox e t) : PT X e t := fun pins s σ H Q I hw =>
  wpAny_mono (h pins s σ H Q (I.wish _) hw) (fun _ _ ⟨H', I', q⟩ => ⟨H', I'.unwish, q⟩) fun _ _ z => False.elim z
theorem PSs.nox {st : List Stmt} {t : TS} (h : PSs X.nox st t) : PSs X st t := fun pins s σ H D I hw =>
  wpAny_mono (h pins s σ H D (I.wish _) hw) (fun _ _ q => q.unwish) fun _ _ z => False.elim z
end
section
variable {X : Cx} {st : Stmt} {rest : List Stmt} {t u : TS} {e : Expr} {te : TE} {pos : Pos}
def tNext : TS := fun D σ H => D.nx σ H
def tSeq (t u : TS) : TS := fun D σ H => t { D with nx := u D } σ H
theorem pss_nil : PSs X [] tNext := fun _ _ σ H _ I h => wpAny_execs_nil ⟨σ, H, I, h⟩
theorem pss_cons (h1 : PS X st t) (h2 : PSs X rest u) : PSs X (st :: rest) (tSeq t u) := by
  intro pins s σ H D I h
  refine wpAny_execs_cons (thn (h1 pins s σ H { D with nx := u D } I h) fun f s1 q => ?_)
  cases f with
  | next =>
    obtain ⟨σ', H', I', q⟩ := q
    exact h2 pins s1 σ' H' D I' q
  | ret v => exact q
  | brk => exact q
  | cont => exact q
theorem pss_one (h1 : PS X st t) : PSs X [st] t := by
  intro pins s σ H D I h
  refine wpAny_execs_cons (thn (h1 pins s σ H D I h) fun f s1 q => ?_)
  cases f with
  | next => exact wpAny_execs_nil q
  | ret v => exact q
  | brk => exact q
  | cont => exact q
theorem Inv.quiet {pins : List (Addr × Obj)} {σ : St} {H : Hp} {s : Shared} (I : Inv X pins σ H s) : interactive X.env = false := by simp [interactive, I.ok.kind]
def tDrop (te : TE) : TS := fun D σ H => te σ H fun _ H1 => D.nx σ H1
theorem ps_expr (he : PE X e te) (hs : swapsWith e none pos.line X.env = pure false := by rfl) : PS X (.Expr e pos) (tDrop te) := by
  intro pins s σ H D I h
  exact wpAny_Expr_any (thn (he pins s σ H _ I h) fun v s1 ⟨x, H1, I1, r1, q1⟩ => ⟨σ, H1, I1, q1⟩) I.quiet hs
def tRet (te : TE) : TS := fun D σ H => te σ H D.rt
theorem ps_ret (he : PE X e te) : PS X (.Return (some e) pos) (tRet te) := by
  intro pins s σ H D I h
  exact wpAny_Return_some (thn (he pins s σ H _ I h) fun v s1 ⟨x, H1, I1, r1, q1⟩ => ⟨x, σ, H1, I1, r1, q1⟩)
def tRetN : TS := fun D _ H => D.rt .non H
def tIfS (c : TT) (t u : TS) : TS := fun D σ H => c σ H fun b H1 => if b = true then t D σ H1 else u D σ H1
theorem ps_if {c : Expr} {a b : List Stmt} {tc : TT} (hc : PT X c tc) (ha : PSs X a t) (hb : PSs X b u) : PS X (.If c a b pos) (tIfS tc t u) := by
  intro pins s σ H D I h
  refine wpAny_If (thn (hc pins s σ H _ I h) fun d s1 ⟨H1, I1, q1⟩ => ?_)
  cases d with
  | true => exact ha pins s1 σ H1 D I1 q1
  | false => exact hb pins s1 σ H1 D I1 q1
end
abbrev TG := V → St → Hp → (St → Hp → Prop) → Prop
abbrev TGs := List V → St → Hp → (St → Hp → Prop) → Prop
def PG (X : Cx) (target : Expr) (t : TG) : Prop :=
  ∀ (pins : List (Addr × Obj)) (s : Shared) (σ : St) (H : Hp) (v : V) (u : Value) (Q : St → Hp → Prop), Inv X pins σ H s → RelV v u → t v σ H Q →
    wpAny (model X.prog X.w) X.A (assign target X.env u) (fun _ s' => ∃ σ' H', Inv X pins σ' H' s' ∧ Q σ' H') X.xe s
def PGs (X : Cx) (ts : List Expr) (t : TGs) : Prop :=
  ∀ (pins : List (Addr × Obj)) (s : Shared) (σ : St) (H : Hp) (vs : List V) (us : List Value) (Q : St → Hp → Prop), Inv X pins σ H s → Vals vs us → t vs σ H Q →
    wpAny (model X.prog X.w) X.A (assignInOrder ((assignEach ts X.env).map (·.2)) us) (fun _ s' => ∃ σ' H', Inv X pins σ' H' s' ∧ Q σ' H') X.xe s
abbrev TSet := V → V → V → Hp → (Hp → Prop) → Prop
def PSet (X : Cx) (t : TSet) : Prop :=
  ∀ (pins : List (Addr × Obj)) (s : Shared) (σ : St) (H : Hp) (o i v : V) (ov iv u : Value) (Q : Hp → Prop), Inv X pins σ H s → RelV o ov → RelV i iv → RelV v u → t o i v H Q →
    wpAny (model X.prog X.w) X.A (setItem ov iv u) (fun _ s' => ∃ H', Inv X pins σ H' s' ∧ Q H') X.xe s
section
variable {X : Cx} {pos : Pos}
def gName (i : Nat) : TG := fun v σ H Q => Q (σ.set i (some v)) H
theorem pg_name {i : Nat} {x : Str} (hN : X.N.Nodup) (hi : X.N[i]? = some x) (hx : Loc X.env.scope x) (hf : X.fn x = true ∨ X.env.scope.names.lookup x = some .local := by first | exact .inl rfl | exact .inr rfl | assumption) : PG X (.Name x pos) (gName i) := by
  intro pins s σ H v u Q I r h
  exact wpAny_assign_Name (store_ok I hN hi hx r (fun s' I' => ⟨_, H, I', h⟩) hf)
def gNil : TGs := fun vs σ H Q => vs = [] ∧ Q σ H
def gCons (t : TG) (u : TGs) : TGs := fun vs σ H Q => ∃ v r, vs = v :: r ∧ t v σ H fun σ' H' => u r σ' H' Q
theorem pgs_nil : PGs X [] gNil := by
  intro pins s σ H vs us Q I r h
  obtain ⟨e, h⟩ := h
  subst e
  cases r
  exact assignInOrder_nil ⟨σ, H, I, h⟩
theorem pgs_cons {e : Expr} {es : List Expr} {t : TG} {u : TGs} (h1 : PG X e t) (h2 : PGs X es u)
    (hs : (assignEach (e :: es) X.env).map (·.2) = assign e X.env :: (assignEach es X.env).map (·.2) := by rfl) : PGs X (e :: es) (gCons t u) := by
  intro pins s σ H vs us Q I r h
  obtain ⟨v, vr, e1, h⟩ := h
  subst e1
  cases r with
  | cons r rr =>
    rw [hs]
    refine assignInOrder_cons (thn (h1 pins s σ H _ _ _ I r h) fun _ s1 ⟨σ1, H1, I1, q1⟩ => ?_)
    exact h2 pins s1 σ1 H1 _ _ Q I1 rr q1
def gTup (K : PySem.W.Frag) (n : Nat) (t : TGs) : TG := fun v σ H Q => ∃ a xs, v = .ref a ∧ SqT K H a xs ∧ xs.length = n ∧ t xs σ H Q
theorem pg_tup {es : List Expr} {k : Nat} {t : TGs} {n : Nat} (hc : X.calm = true) (h : PGs X es t)
    (hn : (assignEach es X.env).length = n := by rfl) (hst : (assignEach es X.env).findIdx? (·.1) = none := by rfl) : PG X (.Tuple es k pos) (gTup X.K n t) := by
  intro pins s σ H v u Q I r hw
  obtain ⟨a, xs, e1, hq, hl, hw⟩ := hw
  subst e1
  cases r
  obtain ⟨its, rv, ht, hz⟩ := I.tuple hq
  refine assign_Tuple_tuple (I.ok.hd hc) ht (by simp [hn, ← hl, rv.length]) hst fun h' hx => ?_
  have I1 : Inv X pins σ H { s with heap := h' } := I.kept (t' := s.toks) fun b o e => hx b o (Nat.ne_of_lt (Heap.lt_size e)) e
  exact h pins _ σ H xs _ Q I1 (by simpa using rv) hw
def gSub (to ti : TE) (t : TSet) : TG := fun v σ H Q => to σ H fun o H1 => ti σ H1 fun i H2 => t o i v H2 fun H3 => Q σ H3
theorem pg_sub {o i : Expr} {to ti : TE} {t : TSet} (ho : PE X o to) (hi : PE X i ti) (hs : PSet X t)
    (ha : ∀ v, assign (.Subscript o i pos) X.env v = (do
      let ov ← holding [v] (eval o X.env)
      let iv ← holding [v, ov] (eval i X.env)
      standAt pos
      holding [v, ov, iv] (setItem ov iv v)
      release [v, ov, iv] []) := by intro _; rfl) : PG X (.Subscript o i pos) (gSub to ti t) := by
  intro pins s σ H v u Q I r h
  rw [ha]
  refine wpAny_bind (wpAny_holding (thn (ho pins s σ H _ I h) fun ov s1 ⟨x, H1, I1, r1, q1⟩ => ?_))
  refine wpAny_bind (wpAny_holding (thn (hi pins s1 σ H1 _ I1 q1) fun iv s2 ⟨y, H2, I2, r2, q2⟩ => ?_))
  refine wpAny_bind (wpAny_standAt (wpAny_bind (wpAny_holding (thn (hs pins s2 σ H2 x y v ov iv u _ I2 r1 r2 r q2) fun _ s3 ⟨H3, I3, q3⟩ => ?_))))
  exact wpAny_release ⟨σ, H3, I3, q3⟩
def tAsg (te : TE) (g : TG) : TS := fun D σ H => te σ H fun x H1 => g x σ H1 D.nx
theorem ps_asg {tg e : Expr} {te : TE} {g : TG} (he : PE X e te) (hg : PG X tg g) (hs : swapsWithSole [tg] e pos.line X.env = pure false := by rfl) (hw : swappedStores [tg] e X.env = pure none := by rfl)
    (h1 : (assignEach [tg] X.env).map (·.2) = [assign tg X.env] := by rfl) : PS X (.Assign [tg] e pos) (tAsg te g) := by
  intro pins s σ H D I h
  refine wpAny_Assign_stores (thn (he pins s σ H _ I h) fun v s1 ⟨x, H1, I1, r1, q1⟩ => ?_) hs hw
  rw [h1]
  exact thn (hg pins s1 σ H1 x v _ I1 r1 q1) fun _ s2 q => q
theorem ps_set {i : Nat} {x : Str} {e : Expr} {te : TE} {pos' : Pos} (hN : X.N.Nodup) (hi : X.N[i]? = some x) (hx : Loc X.env.scope x) (he : PE X e te) (hs : swapsWith e (some (.Name x pos')) pos.line X.env = pure false := by rfl) (hf : X.fn x = true ∨ X.env.scope.names.lookup x = some .local := by first | exact .inl rfl | exact .inr rfl | assumption) :
    PS X (.Assign [.Name x pos'] e pos) (tAsg te (gName i)) := by
  intro pins s σ H D I h
  refine wpAny_Assign_Name (thn (he pins s σ H _ I h) fun v s1 ⟨y, H1, I1, r1, q1⟩ => ?_) hs
  exact store_ok I1 hN hi hx r1 (fun s2 I2 => ⟨_, H1, I2, q1⟩) hf
end
section
variable {X : Cx} {pos : Pos}
end
structure It where
  go : Nat → Hp → Prop
  yld : Nat → Hp → V → Hp → Prop
  stop : Nat → Hp → Prop
def FpOk (X : Cx) (pins : List (Addr × Obj)) (H : Hp) (b : Addr) : Prop :=
  H b = none ∧ b ≠ X.env.locals ∧ b ∉ X.fs ∧ (b ∈ X.ex ∨ X.s₀.heap.objs.size ≤ b) ∧ (∀ x c, X.env.cells.lookup x = some c → c ≠ b) ∧ ∀ p ∈ X.pn ++ pins, p.1 ≠ b
theorem Inv.fpOk {X : Cx} {pins : List (Addr × Obj)} {σ : St} {H H' : Hp} {s : Shared} {b : Addr} (I : Inv X pins σ H s) (hb : s.heap.objs.size ≤ b) (hn : H' b = none) : FpOk X pins H' b := by
  refine ⟨hn, Nat.ne_of_gt (Nat.lt_of_lt_of_le I.lt hb), I.nofs hb, .inr (Nat.le_trans I.sz hb), fun x c e z => ?_, fun p hp z => ?_⟩
  · obtain ⟨v, q⟩ := I.cell x c e
    exact absurd (Nat.lt_of_lt_of_le q.lt (by rw [z]; exact hb)) (Nat.lt_irrefl _)
  · exact absurd (Nat.lt_of_lt_of_le (Heap.lt_size (I.pin p hp).1) (by rw [z]; exact hb)) (Nat.lt_irrefl _)
structure Turn (P : Program) (w : World) (K : PySem.W.Frag) (tg : Expr) (J : It) (fp : List Addr) (it : Addr) (tn : Nat → Heap → Prop) : Prop where
  mem : it ∈ fp
  obj : ∀ i h, tn i h → ∀ b ∈ fp, ∃ o, h.get? b = some o ∧ ∀ v, o.data ≠ .cell v
  keep : ∀ i h h', tn i h → (∀ b ∈ fp, ∀ o, h.get? b = some o → h'.get? b = some o) → tn i h'
  item : ∀ (X : Cx), X.prog = P → X.w = w → X.K = K → X.calm = true → ∀ (i : Nat) (pins : List (Addr × Obj)) (s : Shared) (σ : St) (H : Hp) (E : Value → Shared → Prop), Inv X pins σ H s → (∀ b ∈ fp, FpOk X pins H b) → tn i s.heap → J.go i H →
    wpAny (model P w) X.A (pyNext (.ref it)) (fun r s1 => ∃ u, r = some u ∧
      wpAny (model P w) X.A (letOwnedTupleGo tg (.ref it) u) (fun _ s2 => ∃ x H', Inv X pins σ H' s2 ∧ RelV x u ∧ J.yld i H x H' ∧ tn (i + 1) s2.heap ∧ ∀ b ∈ fp, H' b = none) E s1) E s
  done : ∀ (X : Cx), X.prog = P → X.w = w → X.K = K → X.calm = true → ∀ (i : Nat) (pins : List (Addr × Obj)) (s : Shared) (σ : St) (H : Hp) (E : Value → Shared → Prop), Inv X pins σ H s → (∀ b ∈ fp, FpOk X pins H b) → tn i s.heap → J.stop i H →
    wpAny (model P w) X.A (pyNext (.ref it)) (fun r s1 => r = none ∧ Inv X pins σ H s1) E s
  self : ∀ (A : Around) (i : Nat) (s : Shared) (Q : Value → Shared → Prop) (E : Value → Shared → Prop), tn i s.heap → Q (.ref it) s → wpAny (model P w) A (pyIter (.ref it)) Q E s
abbrev TI := St → Hp → (It → Hp → Prop) → Prop
def PIE (X : Cx) (pins : List (Addr × Obj)) (σ : St) (tg : Expr) (R : It → Hp → Prop) (itv : Value) (s2 : Shared) : Prop :=
  ∃ (it : Addr) (fp : List Addr) (tn : Nat → Heap → Prop) (J : It) (H' : Hp), itv = .ref it ∧ Inv X pins σ H' s2 ∧ Turn X.prog X.w X.K tg J fp it tn ∧ tn 0 s2.heap ∧ (∀ b ∈ fp, FpOk X pins H' b) ∧ R J H'
def PI (X : Cx) (tg iter : Expr) (wi : TI) : Prop :=
  ∀ (pins : List (Addr × Obj)) (s : Shared) (σ : St) (H : Hp) (R : It → Hp → Prop), Inv X pins σ H s → wi σ H R →
    wpAny (model X.prog X.w) X.A (eval iter X.env) (fun v s1 => wpAny (model X.prog X.w) X.A (pyIter v) (PIE X pins σ tg R) X.xe s1) X.xe s
theorem go_of {M : Model} {A : Around} {E : Value → Shared → Prop} {s : Shared} {tg : Expr} {it : Addr} {u : Value} {o : Obj} {n : String} {vs : Array Value} {Q : Unit → Shared → Prop} (ho : s.heap.get? it = some o) (hc : o.cls = .type n) (hd : o.data = .fields vs)
    (hn : ["enumerate", "zip", "dict_itemiterator", "dict_reverseitemiterator", "odict_iterator", "itertools.zip_longest", "itertools.pairwise"].contains n = false) (hQ : Q () s) : wpAny M A (letOwnedTupleGo tg (.ref it) u) Q E s := by
  unfold letOwnedTupleGo
  cases tg <;> first
    | exact wpAny_pure hQ
    | (cases u <;> first
        | exact wpAny_pure hQ
        | (refine wpAny_bind (wpAny_load ho ?_)
           rw [hc, hd]
           show wpAny M A (if (["enumerate", "zip", "dict_itemiterator", "dict_reverseitemiterator", "odict_iterator", "itertools.zip_longest", "itertools.pairwise"].contains n && vs[0]? == some (rawInt _)) = true then _ else _) Q E s
           rw [if_neg (by intro h; rw [hn, Bool.false_and] at h; cases h)]
           exact wpAny_pure hQ))
def Itl (K : PySem.W.Frag) (a : Addr) : It :=
  ⟨fun i H => ∃ xs x, SqL K H a xs ∧ xs[i]? = some x, fun i H x H' => H' = H ∧ ∀ xs, SqL K H a xs → xs[i]? = some x, fun i H => ∃ xs, SqL K H a xs ∧ xs.length ≤ i⟩
def Itt (K : PySem.W.Frag) (a : Addr) : It :=
  ⟨fun i H => ∃ xs x, SqT K H a xs ∧ xs[i]? = some x, fun i H x H' => H' = H ∧ ∀ xs, SqT K H a xs → xs[i]? = some x, fun i H => ∃ xs, SqT K H a xs ∧ xs.length ≤ i⟩
def Itr (lo : Int) (n : Nat) : It := ⟨fun i _ => i < n, fun i H x H' => H' = H ∧ x = .int (lo + i), fun i _ => n ≤ i⟩
theorem turn_range {P : Program} {w : World} {K : PySem.W.Frag} {tg : Expr} (it : Addr) (lo : Int) (n : Nat) : Turn P w K tg (Itr lo n) [it] it (fun i h => IsRangeIter h it (lo + (i : Nat) * 1) ((n : Int) - (i : Nat)) 1) where
  mem := by simp
  obj := fun i h st b hb => by
    have e : b = it := by simpa using hb
    subst e
    exact ⟨_, st, fun v z => by
      have z' : Data.fields _ = Data.cell v := z
      cases z'⟩
  keep := fun i h h' st k => k it (by simp) _ st
  item := by
    intro X hP hw hK hc i pins s σ H E I hf st hg
    subst hP hw hK
    obtain ⟨f0, f1, f2, f3, f4, f5⟩ := hf it (by simp)
    have W := Walks.range (prog := X.prog) (w := X.w) (I.ok.hd hc) it lo 1 n
    refine W.item i s _ _ hg st fun v h' tk hv st' kk => ?_
    obtain ⟨t, rfl⟩ := hv
    have I1 : Inv X pins σ H { s with heap := h', toks := tk } := I.turned (fun b o hb e => kk b o (by simpa using hb) e) f0 f1 f3 f4 f5
    refine ⟨_, rfl, go_of (s := { s with heap := h', toks := tk }) (n := "range_iterator") st' rfl rfl (by decide) ⟨.int (lo + i), H, I1, ⟨t, ?_⟩, ⟨rfl, rfl⟩, st', fun b hb => (hf b hb).1⟩⟩
    rw [Int.mul_one]
  done := by
    intro X hP hw hK hc i pins s σ H E I hf st hg
    subst hP hw hK
    obtain ⟨f0, f1, f2, f3, f4, f5⟩ := hf it (by simp)
    exact wpAny_pyNext_range_end (I.ok.hd hc) st (by have : n ≤ i := hg; omega) fun h' eb => ⟨rfl, I.turned (t' := s.toks) (fun b o hb e => eb b o hb e) f0 f1 f3 f4 f5⟩
  self := fun _ _ _ _ _ st h => wpAny_pyIter_rangeiter st h
end L2
namespace L2
open PySem PySem.Spec PyProof.Rows
section
variable {X : Cx} {tg : Expr}
def iList (K : PySem.W.Frag) (tl : TE) : TI := fun σ H R => tl σ H fun x H1 => ∃ a, x = .ref a ∧ (∃ xs, SqL K H1 a xs) ∧ R (Itl K a) H1
def iTup (K : PySem.W.Frag) (tl : TE) : TI := fun σ H R => tl σ H fun x H1 => ∃ a, x = .ref a ∧ (∃ xs, SqT K H1 a xs) ∧ R (Itt K a) H1
theorem range_it {pins : List (Addr × Obj)} {σ : St} {H : Hp} {s : Shared} {R : It → Hp → Prop} {E : Value → Shared → Prop} {lo hi : Int} {t u v : Tok} {tk : Nat} (I : Inv X pins σ H s) (h1 : -(2 ^ 62) ≤ lo) (h2 : lo < 2 ^ 62) (h3 : -(2 ^ 62) ≤ hi) (h4 : hi < 2 ^ 62)
    (q : R (Itr lo (hi - lo).toNat) H) : wpAny (model X.prog X.w) X.A (pyIter (.ref s.heap.objs.size)) (PIE X pins σ tg R) E { s with heap := s.heap.push { cls := .type "range", data := .fields #[.int lo t, .int hi u, .int 1 v] }, toks := tk } := by
  refine wpAny_pyIter_range (IsRange.new ..) (small_one h1 h2 h3 h4) ?_
  have I1 : Inv X pins σ H { s with heap := s.heap.push { cls := .type "range", data := .fields #[.int lo t, .int hi u, .int 1 v] }, toks := tk } := I.kept fun b o e => Heap.get?_push_of_some _ e
  refine ⟨(s.heap.push { cls := .type "range", data := .fields #[.int lo t, .int hi u, .int 1 v] }).objs.size, [(s.heap.push { cls := .type "range", data := .fields #[.int lo t, .int hi u, .int 1 v] }).objs.size], _, _, H, rfl,
    I1.kept (t' := tk) fun b o e => Heap.get?_push_of_some _ e, turn_range _ lo (hi - lo).toNat, ?_, fun b hb => ?_, q⟩
  · have e1 : lo + ((0 : Nat) : Int) * 1 = lo := by simp
    have e2 : (((hi - lo).toNat : Nat) : Int) - ((0 : Nat) : Int) = Builtin.Range.rangeSize lo hi 1 := by rw [rangeSize_one]; split <;> omega
    show IsRangeIter _ _ (lo + ((0 : Nat) : Int) * 1) ((((hi - lo).toNat : Nat) : Int) - ((0 : Nat) : Int)) 1
    rw [e1, e2]
    exact Heap.get?_push_size _ rfl
  · have e : b = (s.heap.push { cls := .type "range", data := .fields #[.int lo t, .int hi u, .int 1 v] }).objs.size := by simpa using hb
    subst e
    exact I1.fpOk (Nat.le_refl _) (I1.hok.fresh (Nat.le_refl _))
def iRng1 (ta : TA) : TI := fun σ H R => ta σ H fun vs H1 => ∃ j : Int, vs = [.int j] ∧ -(2 ^ 62) ≤ j ∧ j < 2 ^ 62 ∧ R (Itr 0 j.toNat) H1
def iRng2 (ta : TA) : TI := fun σ H R => ta σ H fun vs H1 => ∃ i j : Int, vs = [.int i, .int j] ∧ (-(2 ^ 62) ≤ i ∧ i < 2 ^ 62 ∧ -(2 ^ 62) ≤ j ∧ j < 2 ^ 62) ∧ R (Itr i (j - i).toNat) H1
theorem pi_range1 {a : Expr} {ta : TA} {p pos : Pos} (hg : Gl X "range") (hm : X.mg "range" = none) (ha : PA X [a] ta) (hs : starEach [a] X.env = [(false, eval a X.env)] := by rfl) : PI X tg (.Call (.Name "range" p) [a] [] pos) (iRng1 ta) := by
  intro pins s σ H R I h
  refine Call_ (ld_blt I hg hm boot_range (PyProof.Rows.callWith_type1 (thn (ha pos pins s σ H _ I h) fun us s1 ⟨vs, H1, I1, r1, q1⟩ => ?_) hs rfl))
  obtain ⟨j, e, q1, q2, q⟩ := q1
  subst e
  cases r1 with
  | cons r rr =>
    cases rr
    obtain ⟨t, rfl⟩ := r
    exact call_range_1 (range_it I1 (by omega) (by omega) q1 q2 (by simpa using q))
def tFor (wi : TI) (g : TG) (tb : TS) : TS := fun D σ H => wi σ H fun J H1 => ∃ W : Nat → Nat → St → Hp → Prop, (∃ m, W 0 m σ H1) ∧ ∀ i m σ H, W i m σ H →
  (J.stop i H ∧ D.nx σ H) ∨ (J.go i H ∧ ∃ N : St → Hp → Prop, (∀ σ' H', N σ' H' → ∃ m', m' < m ∧ W (i + 1) m' σ' H') ∧ ∀ x H', J.yld i H x H' → g x σ H' fun σ2 H2 => tb { D with nx := N, ct := N, bk := D.nx } σ2 H2)
def pinsAt (fp : List Addr) (h : Heap) : List (Addr × Obj) := fp.filterMap fun b => (h.get? b).map fun o => (b, o)
theorem mem_pinsAt {fp : List Addr} {h : Heap} {b : Addr} {o : Obj} (hb : b ∈ fp) (e : h.get? b = some o) : (b, o) ∈ pinsAt fp h := List.mem_filterMap.mpr ⟨b, hb, by rw [e]; rfl⟩
theorem of_pinsAt {fp : List Addr} {h : Heap} {p : Addr × Obj} (hp : p ∈ pinsAt fp h) : p.1 ∈ fp ∧ h.get? p.1 = some p.2 := by
  obtain ⟨b, hb, e⟩ := List.mem_filterMap.mp hp
  cases q : h.get? b with
  | none => rw [q] at e; cases e
  | some o =>
    rw [q] at e
    have e' : (b, o) = p := Option.some.inj e
    subst e'
    exact ⟨hb, q⟩
theorem Inv.pinned {pins : List (Addr × Obj)} {σ : St} {H : Hp} {s : Shared} {fp : List Addr} (I : Inv X pins σ H s) (hf : ∀ b ∈ fp, FpOk X pins H b) (ho : ∀ b ∈ fp, ∃ o, s.heap.get? b = some o ∧ ∀ v, o.data ≠ .cell v) : Inv X (pins ++ pinsAt fp s.heap) σ H s :=
  I.pins_of fun p hp => (List.mem_append.mp hp).elim (fun z => I.pin p (List.mem_append_right _ z)) fun z => by
    obtain ⟨hb, e⟩ := of_pinsAt z
    obtain ⟨f0, f1, f2, _⟩ := hf p.1 hb
    obtain ⟨o, e', d⟩ := ho p.1 hb
    rw [e] at e'; cases e'
    exact ⟨e, f0, f1, f2, d⟩
theorem Inv.unpinned {pins pl : List (Addr × Obj)} {σ : St} {H : Hp} {s : Shared} (I : Inv X (pins ++ pl) σ H s) : Inv X pins σ H s := I.pins_of fun p hp => I.pin p (List.mem_append_right _ (List.mem_append_left _ hp))
theorem ps_for {iter : Expr} {body : List Stmt} {wi : TI} {g : TG} {tb : TS} {pos : Pos} (hp : PassesOwn (model X.prog X.w) X.A X.env X.xe) (hc : X.calm = true) (hi : PI X tg iter wi) (hg : PG X tg g) (hb : PSs X body tb)
    (hs : ∀ x, foldedSetIterable iter X.env x = pure x := by intro _; rfl) : PS X (.For tg iter body [] pos) (tFor wi g tb) := by
  intro pins s σ H D I h
  refine wpAny_For (thn (hi pins s σ H _ I h) fun v s1 h1 => thn h1 fun itv s2 h2 => ?_) hs
  obtain ⟨it, fp, tn, J, H2, e, I2, T, st2, f2, W, ⟨m0, w0⟩, turn⟩ := h2
  subst e
  -- what stays true of the iterator's objects through the loop
  have stat : ∀ {H' : Hp}, (∀ b ∈ fp, H' b = none) → ∀ b ∈ fp, FpOk X pins H' b := fun hn b hb => ⟨hn b hb, (f2 b hb).2⟩
  refine codeAny_forLoop_any (fun n s' => ∃ i σ' H', Inv X pins σ' H' s' ∧ tn i s'.heap ∧ (∀ b ∈ fp, H' b = none) ∧ W i n σ' H') ?_ m0 ⟨0, σ, H2, I2, st2, fun b hb => (f2 b hb).1, w0⟩
  rintro n s3 ⟨i, σ3, H3, I3, st3, fr3, w3⟩
  rcases turn i n σ3 H3 w3 with ⟨stop, qn⟩ | ⟨go, N, hN, step⟩
  · refine wpAny_passesOwn hp (thn (T.done X rfl rfl rfl hc i pins s3 σ3 H3 X.xe I3 (stat fr3) st3 stop) fun r s4 ⟨hr, I4⟩ => ?_)
    subst hr
    exact wpAny_execs_nil ⟨σ3, H3, I4, qn⟩
  · refine wpAny_passesOwn hp (thn (T.item X rfl rfl rfl hc i pins s3 σ3 H3 X.xe I3 (stat fr3) st3 go) fun r s4 ⟨u, hr, h4⟩ => ?_)
    subst hr
    refine wpAny_passesOwn hp (thn h4 fun _ s5 ⟨x, H5, I5, r5, y5, st5, fr5⟩ => ?_)
    have I5' := I5.pinned (stat fr5) (T.obj _ _ st5)
    refine wpAny_passesOwn hp (thn (hg _ s5 σ3 H5 x u _ I5' r5 (step x H5 y5)) fun _ s6 ⟨σ6, H6, I6, q6⟩ => ?_)
    refine wpAny_passesOwn hp (thn (hb _ s6 σ6 H6 _ I6 q6) fun f s7 q7 => ?_)
    have again : ∀ {σ7 : St} {H7 : Hp}, Inv X (pins ++ pinsAt fp s5.heap) σ7 H7 s7 → N σ7 H7 → ∃ m, m < n ∧ ∃ i σ' H', Inv X pins σ' H' s7 ∧ tn i s7.heap ∧ (∀ b ∈ fp, H' b = none) ∧ W i m σ' H' := fun {σ7 H7} I7 n7 => by
      obtain ⟨m', hm, w7⟩ := hN σ7 H7 n7
      refine ⟨m', hm, i + 1, σ7, H7, I7.unpinned, T.keep _ _ _ st5 fun b hb o e => (I7.pin (b, o) (List.mem_append_right _ (List.mem_append_right _ (mem_pinsAt hb e)))).1, fun b hb => ?_, w7⟩
      obtain ⟨o, e, d⟩ := T.obj _ _ st5 b hb
      exact (I7.pin (b, o) (List.mem_append_right _ (List.mem_append_right _ (mem_pinsAt hb e)))).2.1
    cases f with
    | next => obtain ⟨σ7, H7, I7, n7⟩ := q7; exact again I7 n7
    | cont => obtain ⟨σ7, H7, I7, n7⟩ := q7; exact again I7 n7
    | brk => obtain ⟨σ7, H7, I7, q7⟩ := q7; exact ⟨σ7, H7, I7.unpinned, q7⟩
    | ret v => obtain ⟨x7, σ7, H7, I7, r7, q7⟩ := q7; exact ⟨x7, σ7, H7, I7.unpinned, r7, q7⟩
end
end L2
namespace L2
open PySem PySem.Spec PyProof.Rows
abbrev R2 := V → V → Hp → VK → Prop
def OpR (X : Cx) (f : Value → Value → Sem Value) (r : R2) : Prop :=
  ∀ (pins : List (Addr × Obj)) (s : Shared) (σ : St) (H : Hp) (x y : V) (v u : Value) (Q : VK), Inv X pins σ H s → RelV x v → RelV y u → r x y H Q →
    wpAny (model X.prog X.w) X.A (f v u) (EP X pins σ Q) X.xe s
def CallR (X : Cx) (f : Value) (r : List V → Hp → VK → Prop) : Prop :=
  ∀ (pins : List (Addr × Obj)) (s : Shared) (σ : St) (H : Hp) (xs : List V) (us : List Value) (Q : VK), Inv X pins σ H s → Vals xs us → r xs H Q →
    wpAny (model X.prog X.w) X.A (call f us) (EP X pins σ Q) X.xe s
def tOp (r : R2) (ta tb : TE) : TE := fun σ H Q => ta σ H fun x H1 => tb σ H1 fun y H2 => r x y H2 Q
def tUn (r : V → Hp → VK → Prop) (ta : TE) : TE := fun σ H Q => ta σ H fun x H1 => r x H1 Q
def rI (C : Int → Int → Prop) (g : Int → Int → V) : R2 := fun x y H Q => ∃ i j, x = .int i ∧ y = .int j ∧ C i j ∧ Q (g i j) H
def rI0 (g : Int → Int → V) : R2 := fun x y H Q => ∃ i j, x = .int i ∧ y = .int j ∧ Q (g i j) H
section
variable {X : Cx} {a b c : Expr} {ta tb tc : TE} {pos : Pos}
theorem binT (ha : PE X a ta) (hb : PE X b tb) {pins : List (Addr × Obj)} {s : Shared} {σ : St} {H : Hp} {R : V → V → Hp → Prop} (I : Inv X pins σ H s)
    (h : ta σ H fun x H1 => tb σ H1 fun y H2 => R x y H2) {Q : Value → Shared → Prop} {f : Value → Value → Sem Value}
    (hf : ∀ v u s2 x y H2, Inv X pins σ H2 s2 → RelV x v → RelV y u → R x y H2 → wpAny (model X.prog X.w) X.A (f v u) Q X.xe s2) :
    wpAny (model X.prog X.w) X.A (eval a X.env) (fun v s₁ => wpAny (model X.prog X.w) X.A (eval b X.env) (fun u s₂ => wpAny (model X.prog X.w) X.A (f v u) Q X.xe s₂) X.xe s₁) X.xe s := by
  refine thn (ha pins s σ H _ I h) fun v s1 ⟨x, H1, I1, r1, q1⟩ => ?_
  refine thn (hb pins s1 σ H1 _ I1 q1) fun u s2 ⟨y, H2, I2, r2, q2⟩ => ?_
  exact hf v u s2 x y H2 I2 r1 r2 q2
theorem pe_op {op : Operator} {r : R2} (ho : OpR X (binaryOp op) r) (ha : PE X a ta) (hb : PE X b tb) : PE X (.BinOp a op b pos) (tOp r ta tb) := by
  intro pins s σ H Q I h
  exact wpAny_BinOp (binT ha hb I h fun v u s2 x y H2 I2 rx ry q => ho pins s2 σ H2 x y v u Q I2 rx ry q)
theorem opI {f : Value → Value → Sem Value} {C : Int → Int → Prop} {g : Int → Int → Int}
    (rule : ∀ (i j : Int) (t u : Tok) (s : Shared) (Q : Value → Shared → Prop) (E : Value → Shared → Prop), C i j → Q (.int (g i j) s.toks) { s with toks := s.toks + 1 } → wpAny (model X.prog X.w) X.A (f (.int i t) (.int j u)) Q E s) :
    OpR X f (rI C fun i j => .int (g i j)) := by
  intro pins s σ H x y v u Q I rx ry h
  obtain ⟨i, j, rfl, rfl, hc, q⟩ := h
  obtain ⟨t, rfl⟩ := rx
  obtain ⟨t', rfl⟩ := ry
  exact rule i j t t' s _ _ hc ⟨.int (g i j), H, I.tok _, ⟨_, rfl⟩, q⟩
theorem opI0 {f : Value → Value → Sem Value} {g : Int → Int → Int}
    (rule : ∀ (i j : Int) (t u : Tok) (s : Shared) (Q : Value → Shared → Prop) (E : Value → Shared → Prop), Q (.int (g i j) s.toks) { s with toks := s.toks + 1 } → wpAny (model X.prog X.w) X.A (f (.int i t) (.int j u)) Q E s) :
    OpR X f (rI0 fun i j => .int (g i j)) := by
  intro pins s σ H x y v u Q I rx ry h
  obtain ⟨i, j, rfl, rfl, q⟩ := h
  obtain ⟨t, rfl⟩ := rx
  obtain ⟨t', rfl⟩ := ry
  exact rule i j t t' s _ _ ⟨.int (g i j), H, I.tok _, ⟨_, rfl⟩, q⟩
theorem opB0 {f : Value → Value → Sem Value} {g : Int → Int → Bool}
    (rule : ∀ (i j : Int) (t u : Tok) (s : Shared) (Q : Value → Shared → Prop) (E : Value → Shared → Prop), Q (.bool (g i j)) s → wpAny (model X.prog X.w) X.A (f (.int i t) (.int j u)) Q E s) :
    OpR X f (rI0 fun i j => .bl (g i j)) := by
  intro pins s σ H x y v u Q I rx ry h
  obtain ⟨i, j, rfl, rfl, q⟩ := h
  obtain ⟨t, rfl⟩ := rx
  obtain ⟨t', rfl⟩ := ry
  exact rule i j t t' s _ _ ⟨.bl (g i j), H, I, rfl, q⟩
def CDiv (i j : Int) : Prop := 0 < j ∧ j < 1073741824
def CMul (i j : Int) : Prop := (-(2 ^ 64) < i ∧ i < 2 ^ 64) ∨ (-(2 ^ 64) < j ∧ j < 2 ^ 64)
theorem CMul.ok {i j : Int} (h : CMul i j) : IntMulOk i j := by
  rcases h with ⟨h1, h2⟩ | ⟨h1, h2⟩
  · exact .of_left (intBits_le_64 h1 h2)
  · exact .of_right (intBits_le_64 h1 h2)
theorem op_add : OpR X (binaryOp .Add) (rI0 fun i j => .int (i + j)) := opI0 fun _ _ _ _ _ _ _ q => add_int q
theorem op_sub : OpR X (binaryOp .Sub) (rI0 fun i j => .int (i - j)) := opI0 fun _ _ _ _ _ _ _ q => sub_int q
theorem op_mul : OpR X (binaryOp .Mult) (rI CMul fun i j => .int (i * j)) := opI fun _ _ _ _ _ _ _ hc q => mul_int q hc.ok
theorem op_fdiv : OpR X (binaryOp .FloorDiv) (rI CDiv fun i j => .int (i / j)) := opI fun i j _ _ _ _ _ hc q => by
  have h1 : (0 : Int) < j := hc.1
  have h2 : j < 1073741824 := hc.2
  exact floordiv_int (by omega) (by rw [Int.fdiv_eq_ediv_of_nonneg i (by omega)]; exact q) (.inl (PyProof.noPylong_small (by omega)))
theorem op_mod : OpR X (binaryOp .Mod) (rI (fun _ j => 0 < j) fun i j => .int (i % j)) := opI fun i j _ _ _ _ _ hc q => by
  have h1 : (0 : Int) < j := hc
  exact mod_int' (by omega) (by rw [Int.fmod_eq_emod_of_nonneg i (by omega)]; exact q)
end
def scal : V → V → Bool
  | .non, .non => true | .non, .int _ => true | .int _, .non => true | .non, .bl _ => true | .bl _, .non => true | .non, .str _ => true | .str _, .non => true
  | .int _, .int _ => true | .bl _, .bl _ => true | .str _, .str _ => true | .byt _, .byt _ => true
  | .int _, .str _ => true | .str _, .int _ => true | .bl _, .str _ => true | .str _, .bl _ => true
  | _, _ => false
def rEq : R2 := fun x y H Q => scal x y = true ∧ Q (.bl (decide (x = y))) H
def rNe : R2 := fun x y H Q => scal x y = true ∧ Q (.bl (!decide (x = y))) H
theorem dec_int {i j : Int} : decide (V.int i = V.int j) = (i == j) := by
  rw [Bool.eq_iff_iff]
  simp
theorem dec_bl {i j : Bool} : decide (V.bl i = V.bl j) = (i == j) := by
  rw [Bool.eq_iff_iff]
  simp
theorem dec_str {i j : Str} : decide (V.str i = V.str j) = (i == j) := by
  rw [Bool.eq_iff_iff]
  simp
theorem dec_byt {i j : Array UInt8} : decide (V.byt i = V.byt j) = (i.toList == j.toList) := by
  rw [Bool.eq_iff_iff]
  cases i
  cases j
  simp
section
variable {X : Cx} {a b c : Expr} {ta tb tc : TE} {pos : Pos}
theorem fin_bl {pins : List (Addr × Obj)} {σ : St} {H : Hp} {s : Shared} {Q : VK} {k k' : Bool} (I : Inv X pins σ H s) (q : Q (.bl k) H) (e : k = k') : EP X pins σ Q (.bool k') s := by
  subst e
  exact ⟨.bl k, H, I, rfl, q⟩
theorem op_eq : OpR X (compareOp .Eq) rEq := by
  intro pins s σ H x y v u Q I rx ry h
  obtain ⟨hs, q⟩ := h
  cases x with
  | non =>
    cases rx
    cases y with
    | non => cases ry; exact PySem.EqNone.eq_none_none (fin_bl I q (by simp))
    | bl j => cases ry; exact PySem.EqNone.eq_none_bool (fin_bl I q (by simp))
    | int j => obtain ⟨t', rfl⟩ := ry; exact PySem.EqNone.eq_none_int (fin_bl I q (by simp))
    | str j => obtain ⟨t', rfl⟩ := ry; exact PySem.EqNone.eq_none_str (fin_bl I q (by simp))
    | _ => exact absurd (show false = true from hs) Bool.false_ne_true
  | bl i =>
    cases rx
    cases y with
    | non => cases ry; exact PySem.EqNone.eq_bool_none (fin_bl I q (by simp))
    | bl j => cases ry; exact eq_bool (fin_bl I q dec_bl)
    | str j => obtain ⟨t', rfl⟩ := ry; exact PySem.EqMixed.eq_bool_str (fin_bl I q (by simp))
    | _ => exact absurd (show false = true from hs) Bool.false_ne_true
  | int i =>
    obtain ⟨t, rfl⟩ := rx
    cases y with
    | non => cases ry; exact PySem.EqNone.eq_int_none (fin_bl I q (by simp))
    | int j => obtain ⟨t', rfl⟩ := ry; exact eq_int (fin_bl I q dec_int)
    | str j => obtain ⟨t', rfl⟩ := ry; exact PySem.EqMixed.eq_int_str (fin_bl I q (by simp))
    | _ => exact absurd (show false = true from hs) Bool.false_ne_true
  | str i =>
    obtain ⟨t, rfl⟩ := rx
    cases y with
    | non => cases ry; exact PySem.EqNone.eq_str_none (fin_bl I q (by simp))
    | bl j => cases ry; exact PySem.EqMixed.eq_str_bool (fin_bl I q (by simp))
    | int j => obtain ⟨t', rfl⟩ := ry; exact PySem.EqMixed.eq_str_int (fin_bl I q (by simp))
    | str j => obtain ⟨t', rfl⟩ := ry; exact eq_str (fin_bl I q dec_str)
    | _ => exact absurd (show false = true from hs) Bool.false_ne_true
  | byt i =>
    obtain ⟨t, rfl⟩ := rx
    cases y with
    | byt j => obtain ⟨t', rfl⟩ := ry; exact PySem.W.eq_bytes (fin_bl I q dec_byt)
    | _ => exact absurd (show false = true from hs) Bool.false_ne_true
  | _ => cases y <;> exact absurd (show false = true from hs) Bool.false_ne_true
theorem op_ne : OpR X (compareOp .NotEq) rNe := by
  intro pins s σ H x y v u Q I rx ry h
  obtain ⟨hs, q⟩ := h
  cases x with
  | non =>
    cases rx
    cases y with
    | non => cases ry; exact PySem.EqNone.ne_none_none (fin_bl I q (by simp))
    | bl j => cases ry; exact PySem.EqNone.ne_none_bool (fin_bl I q (by simp))
    | int j => obtain ⟨t', rfl⟩ := ry; exact PySem.EqNone.ne_none_int (fin_bl I q (by simp))
    | str j => obtain ⟨t', rfl⟩ := ry; exact PySem.EqNone.ne_none_str (fin_bl I q (by simp))
    | _ => exact absurd (show false = true from hs) Bool.false_ne_true
  | bl i =>
    cases rx
    cases y with
    | non => cases ry; exact PySem.EqNone.ne_bool_none (fin_bl I q (by simp))
    | bl j => cases ry; exact ne_bool (fin_bl I q (congrArg not dec_bl))
    | str j => obtain ⟨t', rfl⟩ := ry; exact PySem.EqMixed.ne_bool_str (fin_bl I q (by simp))
    | _ => exact absurd (show false = true from hs) Bool.false_ne_true
  | int i =>
    obtain ⟨t, rfl⟩ := rx
    cases y with
    | non => cases ry; exact PySem.EqNone.ne_int_none (fin_bl I q (by simp))
    | int j => obtain ⟨t', rfl⟩ := ry; exact ne_int (fin_bl I q (congrArg not dec_int))
    | str j => obtain ⟨t', rfl⟩ := ry; exact PySem.EqMixed.ne_int_str (fin_bl I q (by simp))
    | _ => exact absurd (show false = true from hs) Bool.false_ne_true
  | str i =>
    obtain ⟨t, rfl⟩ := rx
    cases y with
    | non => cases ry; exact PySem.EqNone.ne_str_none (fin_bl I q (by simp))
    | bl j => cases ry; exact PySem.EqMixed.ne_str_bool (fin_bl I q (by simp))
    | int j => obtain ⟨t', rfl⟩ := ry; exact PySem.EqMixed.ne_str_int (fin_bl I q (by simp))
    | str j => obtain ⟨t', rfl⟩ := ry; exact ne_str (fin_bl I q (congrArg not dec_str))
    | _ => exact absurd (show false = true from hs) Bool.false_ne_true
  | byt i =>
    obtain ⟨t, rfl⟩ := rx
    cases y with
    | byt j => obtain ⟨t', rfl⟩ := ry; exact PySem.W.ne_bytes (fin_bl I q (congrArg not dec_byt))
    | _ => exact absurd (show false = true from hs) Bool.false_ne_true
  | _ => cases y <;> exact absurd (show false = true from hs) Bool.false_ne_true
theorem op_lt : OpR X (compareOp .Lt) (rI0 fun i j => .bl (decide (i < j))) := opB0 fun _ _ _ _ _ _ _ q => lt_int q
theorem op_le : OpR X (compareOp .LtE) (rI0 fun i j => .bl (decide (i ≤ j))) := opB0 fun _ _ _ _ _ _ _ q => le_int q
theorem op_gt : OpR X (compareOp .Gt) (rI0 fun i j => .bl (decide (j < i))) := opB0 fun _ _ _ _ _ _ _ q => gt_int q
theorem OpR.or {f : Value → Value → Sem Value} {r r' : R2} (h : OpR X f r) (h' : OpR X f r') : OpR X f (fun x y H Q => r x y H Q ∨ r' x y H Q) := by
  intro pins s σ H x y v u Q I rx ry q
  rcases q with q | q
  · exact h pins s σ H x y v u Q I rx ry q
  · exact h' pins s σ H x y v u Q I rx ry q
theorem nomark (b : Expr) {op : CmpOp} (h : op ≠ .In := by decide) (h2 : op ≠ .NotIn := by decide) : behindInMarks op b = false := by
  have e1 : (op == CmpOp.In) = false := by cases op <;> first | rfl | exact absurd rfl h
  have e2 : (op == CmpOp.NotIn) = false := by cases op <;> first | rfl | exact absurd rfl h2
  cases b <;> simp [behindInMarks, e1, e2]
theorem pe_cmpR {op : CmpOp} {r : R2} (ho : OpR X (compareOp op) r) (ha : PE X a ta) (hb : PE X b tb) (hm : behindInMarks op b = false) : PE X (.Compare a [op] [b] pos) (tOp r ta tb) := by
  intro pins s σ H Q I h
  exact wpAny_Compare1 (binT ha hb I h fun v u s2 x y H2 I2 rx ry q => ho pins s2 σ H2 x y v u Q I2 rx ry q) hm
def tTest (t : TE) : TT := fun σ H Q => t σ H fun x H' => ∃ k, x = .bl k ∧ Q k H'
theorem pt_cmpR {op : CmpOp} {r : R2} (ho : OpR X (compareOp op) r) (ha : PE X a ta) (hb : PE X b tb) (hm : behindInMarks op b = false) : PT X (.Compare a [op] [b] pos) (tTest (tOp r ta tb)) := by
  intro pins s σ H Q I h
  refine wpAny_isTrue_Compare1 (thn (ha pins s σ H _ I h) fun v s1 ⟨x, H1, I1, r1, q1⟩ => thn (hb pins s1 σ H1 _ I1 q1) fun u s2 ⟨y, H2, I2, r2, q2⟩ =>
    thn (ho pins s2 σ H2 x y v u _ I2 r1 r2 q2) fun c s3 ⟨z, H3, I3, r3, k, e, q3⟩ => ?_) hm
  subst e
  cases r3
  exact wpAny_truthy_bool ⟨H3, I3, q3⟩
def tChain (r r' : R2) (ta tb tc : TE) : TE := fun σ H Q => ta σ H fun x H1 => tb σ H1 fun y H2 => r x y H2 fun z H3 => ∃ k, z = .bl k ∧
  (if k = true then tc σ H3 fun w' H4 => r' y w' H4 Q else Q (.bl false) H3)
theorem pt_chain {op op' : CmpOp} {r r' : R2} (ho : OpR X (compareOp op) r) (ho' : OpR X (compareOp op') r') (ha : PE X a ta) (hb : PE X b tb) (hc : PE X c tc)
    (hm : lastMarks [op, op'] [b, c] = false := by with_unfolding_all rfl) : PT X (.Compare a [op, op'] [b, c] pos) (tTest (tChain r r' ta tb tc)) := by
  intro pins s σ H Q I h
  refine isTrue_chain (thn (ha pins s σ H _ I h) fun v s1 ⟨x, H1, I1, r1, q1⟩ => test_link (thn (hb pins s1 σ H1 _ I1 q1) fun u s2 ⟨y, H2, I2, r2, q2⟩ =>
    thn (ho pins s2 σ H2 x y v u _ I2 r1 r2 q2) fun d s3 ⟨z, H3, I3, r3, k, e, q3⟩ => ?_)) hm
  subst e
  cases r3
  refine wpAny_truthy_bool ?_
  cases k with
  | false =>
    obtain ⟨k', e', q'⟩ := q3
    cases e'
    exact ite_ff ⟨H3, I3, q'⟩
  | true =>
    refine ite_tt (test_last (thn (hc pins s3 σ H3 _ I3 q3) fun w' s4 ⟨z', H4, I4, r4, q4⟩ => thn (ho' pins s4 σ H4 y z' u w' _ I4 r2 r4 q4) fun d' s5 ⟨z2, H5, I5, r5, k2, e2, q5⟩ => ?_))
    subst e2
    cases r5
    exact wpAny_truthy_bool ⟨H5, I5, q5⟩
def TruV (K : PySem.W.Frag) (x : V) (H : Hp) (k : Bool) : Prop :=
  match x with
  | .non => k = false
  | .bl b => k = b
  | .int i => k = (i != 0)
  | .str y => y.length ≤ sizeLine ∧ k = ((y.length : Int) != 0)
  | .byt y => y.size ≤ sizeLine ∧ k = ((y.size : Int) != 0)
  | .ref p => (∃ xs, SqL K H p xs ∧ k = !xs.isEmpty) ∨ (∃ xs, SqT K H p xs ∧ k = !xs.isEmpty) ∨ ∃ kvs, H p = some (.dK kvs) ∧ k = !kvs.isEmpty
  | _ => False
theorem line63 : (sizeLine : Nat) < 2 ^ 63 := by rw [sizeLine_eq]; decide
theorem op_add_str : OpR X (binaryOp .Add) (fun x y H Q => ∃ i j, x = .str i ∧ y = .str j ∧ i.length + j.length ≤ sizeLine ∧ Q (.str (i ++ j)) H) := by
  intro pins s σ H x y v u Q I rx ry h
  obtain ⟨i, j, rfl, rfl, hz, q⟩ := h
  obtain ⟨t, rfl⟩ := rx
  obtain ⟨t', rfl⟩ := ry
  exact add_str (fun t' tk => ⟨.str (i ++ j), H, I.tok _, ⟨_, rfl⟩, q⟩) hz
theorem vals1 {x : V} {us : List Value} (r : Vals [x] us) : ∃ u, us = [u] ∧ RelV x u := by
  cases r with
  | cons r1 r2 => cases r2; exact ⟨_, rfl, r1⟩
theorem call_int1 : CallR X (.type "int") (fun xs H Q => (∃ i, xs = [.int i] ∧ Q (.int i) H) ∨ ∃ k, xs = [.bl k] ∧ Q (.int (if k then 1 else 0)) H) := by
  intro pins s σ H xs us Q I r h
  rcases h with ⟨i, rfl, q⟩ | ⟨k, rfl, q⟩
  · obtain ⟨u, rfl, t, rfl⟩ := vals1 r
    exact call_int_int ⟨.int i, H, I, ⟨_, rfl⟩, q⟩
  · obtain ⟨u, rfl, r1⟩ := vals1 r
    cases r1
    exact call_int_bool ⟨.int (if k then 1 else 0), H, I.tok _, ⟨_, rfl⟩, q⟩
theorem call_str_int : CallR X (.type "str") (fun xs H Q => ∃ i, xs = [.int i] ∧ i.natAbs.log2 < 1920 ∧ Q (.str (toString i)) H) := by
  intro pins s σ H xs us Q I r h
  obtain ⟨i, rfl, hz, q⟩ := h
  obtain ⟨u, rfl, t, rfl⟩ := vals1 r
  exact PySem.P.str_of_int hz ⟨.str _, H, I.tok _, ⟨_, rfl⟩, q⟩
end
end L2
namespace L2
open PySem PySem.Spec PyProof.Rows
structure ObjM (h : Heap) (x dx C : Addr) (mA : Str → Option Value) : Prop where
  obj : h.get? x = some (PySem.W.instObj C dx)
  ns : h.Ns1 dx mA
  ne : dx ≠ x
theorem lookIn_ns {h : Heap} {dx : Addr} {mA : Str → Option Value} (n : h.Ns1 dx mA) : ∃ od, h.get? dx = some od ∧ ∀ name, PySem.W.lookIn name od = some (mA name) := by
  obtain ⟨o, es, ep, ho, hd, hk, _, hm⟩ := n
  refine ⟨o, ho, fun name => ?_⟩
  have e := hm name
  unfold nsFind findBy at e
  rw [← Array.find?_toList] at e
  unfold PySem.W.lookIn
  rw [hd]
  dsimp only
  split
  · rename_i y q
    rw [q] at e
    exact congrArg some e
  · rename_i q
    rw [q] at e
    have a : es.toList.any (·.refKey) = false := by
      rw [List.any_eq_false]
      intro y hy
      obtain ⟨z, t, hkey⟩ := hk y (Array.mem_toList_iff.mp hy)
      simp [DictEntry.refKey, hkey]
    have a' : ¬ es.toList.any (·.refKey) = true := by rw [a]; exact Bool.false_ne_true
    rw [if_neg a']
    exact congrArg some e
theorem ObjM.look {h : Heap} {x dx C : Addr} {mA : Str → Option Value} (I : ObjM h x dx C mA) : ∃ od, PySem.W.InstAt h x (PySem.W.instObj C dx) C (some od) ∧ ∀ name, PySem.W.lookIn name od = some (mA name) :=
  let ⟨od, ho, hl⟩ := lookIn_ns I.ns
  ⟨od, ⟨I.obj, rfl, rfl, ho⟩, hl⟩
section
variable {prog : Program} {w : World} {A : Around} {E : Value → Shared → Prop} {s : Shared} {K : PySem.W.Frag} {x dx C f : Addr} {mA : Str → Option Value} {name : Str} {v : Value}
end
def putF (f : Str) (v : V) : List (Str × V) → List (Str × V)
  | [] => [(f, v)]
  | (g, x) :: r => if g = f then (g, v) :: r else (g, x) :: putF f v r
section
variable {P : Program} {w : World} {H H' : Hp} {h h' : Heap} {a C dx : Addr} {fs fs' : List (Str × V)}
end
structure Cls (K : PySem.W.Frag) (C : Addr) : Prop where
  pg : PySem.W.plainGet K C Str.empty = true
  hd : PySem.W.hasDictIn K C = true
  po : PySem.W.plainOver K C = true
  sa : PySem.W.findIn K (.ref C) "__setattr__" = some (some (.builtin "object.__setattr__"))
theorem Cls.get {K : PySem.W.Frag} {C : Addr} (c : Cls K C) (f : Str) : PySem.W.plainGet K C f = true := c.pg
def NoAttr (K : PySem.W.Frag) (C : Addr) (f : Str) : Prop := PySem.W.findIn K (.ref C) f = some none
structure Con (K : PySem.W.Frag) (C : Addr) (f : Str) (v : V) (u : Value) : Prop where
  at_ : PySem.W.findIn K (.ref C) f = some (some u)
  rel : RelV v u
  get : PySem.W.specialIn K u "__get__" = some none
  cp : PySem.W.copiedNames.contains f = false
structure Meth (K : PySem.W.Frag) (C : Addr) (m : Str) (f : Addr) : Prop where
  at_ : PySem.W.findIn K (.ref C) m = some (some (.ref f))
  fn : PySem.W.isFn K (.ref f) = true
  kp : PySem.W.keepIn K (.ref f) = true
section
variable {X : Cx} {pins : List (Addr × Obj)} {σ : St} {H : Hp} {s : Shared} {a C dx : Addr} {fs : List (Str × V)} {f : Str} {v : V} {A : Around} {E : Value → Shared → Prop}
end
def tFld (K : PySem.W.Frag) (ta : TE) (f : Str) : TE := fun σ H Q => ta σ H fun x H1 => ∃ a C dx fs v, x = .ref a ∧ H1 a = some (.ins C dx fs) ∧ Cls K C ∧ NoAttr K C f ∧ fs.lookup f = some v ∧ Q v H1
def sFld (K : PySem.W.Frag) (ta tv : TE) (f : Str) : TS := fun D σ H => tv σ H fun y H1 => ta σ H1 fun x H2 => ∃ a C dx fs, x = .ref a ∧ H2 a = some (.ins C dx fs) ∧ Cls K C ∧ NoAttr K C f ∧ fs.length < 1000 ∧
  D.nx σ (upd H2 a (.ins C dx (putF f y fs)))
section
variable {X : Cx} {o e value : Expr} {f : Str} {pos pos' tpos : Pos} {ta tv : TE}
end
section
variable {X : Cx} {pins : List (Addr × Obj)} {σ : St} {H : Hp} {s : Shared} {A : Around} {E : Value → Shared → Prop} {Q : Value → Shared → Prop} {c : Value} {b : Bool}
inductive TyOf (K : PySem.W.Frag) (H : Hp) : V → Value → Prop where
  | non : TyOf K H .non (.type "NoneType")
  | bl (x : Bool) : TyOf K H (.bl x) (.type "bool")
  | int (i : Int) : TyOf K H (.int i) (.type "int")
  | str (x : Str) : TyOf K H (.str x) (.type "str")
  | flt (x : UInt64) : TyOf K H (.flt x) (.type "float")
  | lst {a : Addr} {xs : List V} (e : H a = some (.lst xs)) : TyOf K H (.ref a) (.type "list")
  | frz {a : Addr} {o : Obj} {xs : List V} (e : H a = some (.frz o (.lst xs))) : TyOf K H (.ref a) (.type "list")
  | tup {a : Addr} {xs : List V} (e : H a = some (.tup xs)) : TyOf K H (.ref a) (.type "tuple")
  | dK {a : Addr} {kvs : List (Key × V)} (e : H a = some (.dK kvs)) : TyOf K H (.ref a) (.type "dict")
  | dT {a : Addr} {kvs : List (List Key × V)} (e : H a = some (.dT kvs)) : TyOf K H (.ref a) (.type "dict")
  | ins {a C dx : Addr} {fs : List (Str × V)} (e : H a = some (.ins C dx fs)) (cl : Cls K C) (ha : PySem.W.findIn K (.ref C) "__class__" = some (some (.builtin "object.__class__")))
      (hn : PySem.W.specialIn K (.builtin "object.__class__") "__get__" = some (some (.builtin "getset_descriptor.__get__"))) (htk : PySem.W.takesIn K (.builtin "object.__class__") = some true)
      (hm : PySem.W.mroIn K C (.type "object") = some true) : TyOf K H (.ref a) (.ref C)
end
end L2
namespace L2
open PySem PySem.Spec PyProof.Rows
structure Room (k : Nat) (A : Around) : Prop where
  hd : A.handled = none
  dp : A.depth + 3 * k + 5 < recursionLimit
  un : A.units + 16 * k + 200 < cLine
theorem Room.mono {j k : Nat} {A : Around} (r : Room k A) (h : j ≤ k) : Room j A := ⟨r.hd, by have := r.dp; omega, by have := r.un; omega⟩
theorem Room.deeper {k : Nat} {A : Around} (r : Room (k + 1) A) (env : Env) : Room k (A.deeper env) :=
  ⟨r.hd, by have := r.dp; show A.depth + 1 + 3 * k + 5 < _; omega, by have := r.un; show A.units + 3 + 16 * k + 200 < _; omega⟩
theorem Room.in1 {k : Nat} {A : Around} (r : Room (k + 1) A) : Room k A.in1 :=
  ⟨r.hd, by have := r.dp; show A.depth + 3 * k + 5 < _; omega, by have := r.un; show A.units + 1 + 16 * k + 200 < _; omega⟩
theorem make_depth {A : Around} {C : Addr} {us : List Value} {kw : List (Str × Value)} : (A.under (.builtin "type.__call__" ⟨.ref C :: us, kw⟩)).depth = A.depth + 1 := by
  first | rfl | simp [Around.under, Code.weight, Code.isCreation, Code.isGuard, Code.isCaller, Code.frames, Code.isFrame, guardIds]
theorem make_units {A : Around} {C : Addr} {us : List Value} {kw : List (Str × Value)} : (A.under (.builtin "type.__call__" ⟨.ref C :: us, kw⟩)).units = A.units + 1 := by
  first | rfl | simp [Around.under, Code.cUnits, Code.frames, Code.isFrame]
theorem Room.make {k : Nat} {A : Around} (r : Room (k + 1) A) (C : Addr) (us : List Value) (kw : List (Str × Value)) : Room k (A.under (.builtin "type.__call__" ⟨.ref C :: us, kw⟩)) :=
  ⟨r.hd, by have := r.dp; rw [make_depth]; omega, by have := r.un; rw [make_units]; omega⟩
theorem Room.depth {k : Nat} {A : Around} (r : Room k A) : A.depth < recursionLimit := by have := r.dp; omega
theorem Room.units {k : Nat} {A : Around} (r : Room k A) : A.units + 64 < cLine := by have := r.un; omega
def tNil : TA := fun _ H Q => Q [] H
def tCons (ta : TE) (tr : TA) : TA := fun σ H Q => ta σ H fun x H1 => tr σ H1 fun xs H2 => Q (x :: xs) H2
section
variable {X : Cx} {e : Expr} {es : List Expr} {te : TE} {t : TA} {pos : Pos}
theorem pa_nil : PA X [] tNil := fun _ _ _ _ H Q I h => Calls.spliced_nil ⟨[], H, I, .nil, h⟩
theorem pa_cons (ha : PE X e te) (hr : PA X es t) (hs : starEach (e :: es) X.env = (false, eval e X.env) :: starEach es X.env := by rfl) : PA X (e :: es) (tCons te t) := by
  intro pos pins s σ H Q I h
  rw [hs]
  show wpAny _ _ (spliced ((false, eval e X.env) :: backTo pos (starEach es X.env))) _ _ s
  refine Calls.spliced_cons (thn (ha pins s σ H _ I h) fun u s1 ⟨x, H1, I1, r1, q1⟩ => ?_)
  exact thn (hr pos pins s1 σ H1 _ I1 q1) fun us s2 ⟨xs, H2, I2, r2, q2⟩ => ⟨x :: xs, H2, I2, .cons r1 r2, q2⟩
def tTup (t : TA) : TE := fun σ H Q => t σ H fun xs H1 => xs.length ≤ sizeLine ∧ ∀ p, H1 p = none → Q (.ref p) (upd H1 p (.tup xs))
def tLst (t : TA) : TE := fun σ H Q => t σ H fun xs H1 => xs.length ≤ sizeLine ∧ ∀ p, H1 p = none → Q (.ref p) (upd H1 p (.lst xs))
theorem pe_tup {x1} (h : PA X es t) : PE X (.Tuple es x1 pos) (tTup t) := by
  intro pins s σ H Q I hq
  refine wpAny_Tuple_spliced (thn (h pos pins s σ H _ I hq) fun us s1 ⟨xs, H1, I1, r, z, q⟩ => ⟨by rw [← r.length]; exact z, ?_⟩)
  have hf : H1 s1.heap.objs.size = none := I1.hok.fresh (Nat.le_refl _)
  refine ⟨.ref s1.heap.objs.size, upd H1 s1.heap.objs.size (.tup xs), I1.laid (t' := s1.toks) (fun b u e => Heap.get?_push_of_some _ e) (Nat.le_refl _) ?_, rfl, q _ hf⟩
  exact ⟨z, us, r, ⟨_, Heap.get?_push_size _ rfl, rfl, _, rfl⟩⟩
theorem pe_lst (h : PA X es t) : PE X (.List es pos) (tLst t) := by
  intro pins s σ H Q I hq
  refine wpAny_List_spliced (thn (h pos pins s σ H _ I hq) fun us s1 ⟨xs, H1, I1, r, z, q⟩ => ⟨by rw [← r.length]; exact z, ?_⟩)
  have hf : H1 s1.heap.objs.size = none := I1.hok.fresh (Nat.le_refl _)
  refine ⟨.ref s1.heap.objs.size, upd H1 s1.heap.objs.size (.lst xs), I1.laid (t' := s1.toks) (fun b u e => Heap.get?_push_of_some _ e) (Nat.le_refl _) ?_, rfl, q _ hf⟩
  exact ⟨z, us, 0, r, Heap.get?_push_size _ rfl⟩
end
abbrev Sp := List V → Hp → VK → XK → Prop
abbrev CXT := List Env → Hp → Shared → XK → Value → Shared → Prop
structure Env0 (P : Program) (w : World) (K : PySem.W.Frag) (mg : Str → Option Value) (base : Heap) (A : Around) (outer : List Env) (s : Shared) (H : Hp) : Prop where
  frames : A.frames = some outer
  mod : Mod K mg base
  bs : ∀ b o, base.get? b = some o → s.heap.get? b = some o ∧ H b = none
  bsz : base.objs.size ≤ s.heap.objs.size
  funs : s.heap.FunFrames base outer
  frf : ∀ b ∈ frs outer, H b = none
  hok : HOk P w H s.heap
  bare : AllBare s.gens
def CE (outer : List Env) (P : Program) (w : World) (H : Hp) (s : Shared) (Q : VK) (u : Value) (s' : Shared) : Prop :=
  ∃ v H', s'.os = s.os ∧ AllBare s'.gens ∧ Un (frs outer) [] H H' s.heap s'.heap ∧ HOk P w H' s'.heap ∧ RelV v u ∧ Q v H'
def CR (CX : CXT) (outer : List Env) (P : Program) (w : World) (H : Hp) (s : Shared) (Q : VK) (E : XK) (r : Result) (s' : Shared) : Prop :=
  match r with
  | .ok (.ret u) => CE outer P w H s Q u s'
  | .ok _ => False
  | .error e => CX outer H s E e s'
structure FnOk (P : Program) (w : World) (K : PySem.W.Frag) (mg : Str → Option Value) (base : Heap) (CX : CXT) (k : Nat) (f : Addr) (fd : FuncData) (ps : List Str) (sp : Sp) : Prop where
  len : ∀ vs H Q E, sp vs H Q E → vs.length = ps.length
  run : ∀ (A : Around) (outer : List Env) (s : Shared) (H : Hp) (args : Args) (us : List Value) (vs : List V) (Q : VK) (E : XK), Room k A → Env0 P w K mg base A outer s H → BindsTo s fd args (ps.zip us) → Vals vs us → sp vs H Q E →
    codeAny (model P w) A (.call (.ref f) args) (CR CX outer P w H s Q E) s
theorem FnOk.mono {P : Program} {w : World} {K : PySem.W.Frag} {mg : Str → Option Value} {base : Heap} {CX : CXT} {j k : Nat} {f : Addr} {fd : FuncData} {ps : List Str} {sp : Sp} (F : FnOk P w K mg base CX j f fd ps sp) (h : j ≤ k) :
    FnOk P w K mg base CX k f fd ps sp := ⟨F.len, fun A outer s H args us vs Q E hr => F.run A outer s H args us vs Q E (hr.mono h)⟩
theorem Env0.make {P : Program} {w : World} {K : PySem.W.Frag} {mg : Str → Option Value} {base : Heap} {A : Around} {outer : List Env} {s : Shared} {H : Hp} (e : Env0 P w K mg base A outer s H) (C : Addr) (us : List Value) (kw : List (Str × Value)) :
    Env0 P w K mg base (A.under (.builtin "type.__call__" ⟨.ref C :: us, kw⟩)) outer s H := ⟨by first | exact e.frames | (simpa [Around.under, Code.envs, Code.isFrame, pushEnvs] using e.frames), e.mod, e.bs, e.bsz, e.funs, e.frf, e.hok, e.bare⟩
theorem Env0.in1 {P : Program} {w : World} {K : PySem.W.Frag} {mg : Str → Option Value} {base : Heap} {A : Around} {outer : List Env} {s : Shared} {H : Hp} (e : Env0 P w K mg base A outer s H) :
    Env0 P w K mg base A.in1 outer s H := ⟨e.frames, e.mod, e.bs, e.bsz, e.funs, e.frf, e.hok, e.bare⟩
section
variable {X : Cx} {pins : List (Addr × Obj)} {σ : St} {H : Hp} {s s' : Shared}
theorem Inv.env0 (I : Inv X pins σ H s) : Env0 X.prog X.w X.K X.mg X.base X.A X.stack s H :=
  ⟨I.ok.frames, I.ok.mod, I.bs, Nat.le_trans I.ok.bsz I.sz, I.stack, I.stkFree, I.hok, I.bare⟩
theorem Inv.after {Q : VK} {u : Value} (I : Inv X pins σ H s) (h : CE X.stack X.prog X.w H s Q u s') : EP X pins σ Q u s' := by
  obtain ⟨v, H', os, bare, un, hok, r, q⟩ := h
  obtain ⟨hh, g, d, t, os'⟩ := s'
  obtain rfl : os' = s.os := os
  exact ⟨v, H', I.call (h' := hh) (g' := g) (d' := d) (t' := t) (ch := []) un hok bare (fun b z => absurd z (by simp)), r, q⟩
end
def tCall (sp : Sp) (dvs : List V) (E : XK) (t : TA) : TE := fun σ H Q => t σ H fun vs H1 => sp (vs ++ dvs) H1 Q E
def tMake (C : Addr) (sp : Sp) (dvs : List V) (E : XK) (t : TA) : TE := fun σ H Q => t σ H fun vs H1 => ∀ x dx, H1 x = none → H1 dx = none → dx ≠ x →
  sp (.ref x :: (vs ++ dvs)) (upd (upd H1 dx (.own x)) x (.ins C dx [])) (fun v H2 => v = .non ∧ Q (.ref x) H2) E
def Binds (K : PySem.W.Frag) (fd : FuncData) (ps : List Str) (ds : List Value) : Prop :=
  ∀ (s : Shared) (us : List Value), K.In s.heap → (us ++ ds).length = ps.length → BindsTo s fd ⟨us, []⟩ (ps.zip (us ++ ds))
theorem Binds.all {K : PySem.W.Frag} {fd : FuncData} {ps : List Str} (h : ∀ us : List Value, us.length = ps.length → bindArgs fd ⟨us, []⟩ = pure (ps.zip us)) : Binds K fd ps [] := fun s us _ hl => by
  rw [List.append_nil] at hl ⊢
  exact .of_eq (h us hl)
def Passes (CX : CXT) (X : Cx) (E : XK) : Prop := ∀ (pins : List (Addr × Obj)) (σ : St) (H : Hp) (s : Shared) (e : Value) (s' : Shared), Inv X pins σ H s → CX X.stack H s E e s' → X.xe e s'
section
variable {X : Cx} {CX : CXT} {k : Nat} {f C : Addr} {fd : FuncData} {ps : List Str} {sp : Sp} {dvs : List V} {ds : List Value} {E : XK} {x m : Str} {p pos apos : Pos} {e o : Expr} {es : List Expr} {ta : TE} {t : TA}
theorem run_fn {pins : List (Addr × Obj)} {σ : St} {H : Hp} {s : Shared} {Q : VK} {us : List Value} {vs : List V} (F : FnOk X.prog X.w X.K X.mg X.base CX k f fd ps sp) (hr : Room k X.A) (hb : Binds X.K fd ps ds) (hd : Vals dvs ds) (hx : Passes CX X E)
    (I : Inv X pins σ H s) (r : Vals vs us) (h : sp (vs ++ dvs) H Q E) : wpAny (model X.prog X.w) X.A (call (.ref f) us) (EP X pins σ Q) X.xe s := by
  have r2 : Vals (vs ++ dvs) (us ++ ds) := r.append hd
  have hl : (us ++ ds).length = ps.length := by rw [← r2.length]; exact F.len _ _ _ _ h
  refine wpAny_call (codeAny_mono (F.run X.A X.stack s H ⟨us, []⟩ (us ++ ds) (vs ++ dvs) Q E hr I.env0 (hb s us I.kIn hl) r2 h) fun r s' hq => ?_)
  cases r with
  | error e => exact hx pins σ H s e s' I hq
  | ok fl =>
    cases fl with
    | ret u => exact I.after hq
    | next => exact False.elim hq
    | brk => exact False.elim hq
    | cont => exact False.elim hq
theorem pe_call (F : FnOk X.prog X.w X.K X.mg X.base CX k f fd ps sp) (hr : Room k X.A) (hg : Gl X x) (hm : X.mg x = some (.ref f)) (hk : PySem.W.keepIn X.K (.ref f) = true) (hb : Binds X.K fd ps ds) (hd : Vals dvs ds) (hx : Passes CX X E)
    (ha : PA X (e :: es) t) (hdb : (x == ("__debug__" : Str)) = false := by decide) (he : starEach (e :: es) X.env = (false, eval e X.env) :: starEach es X.env := by rfl) (hpl : (backTo pos (starEach es X.env)).any (·.1) = false := by rfl) :
    PE X (.Call (.Name x p) (e :: es) [] pos) (tCall sp dvs E t) := by
  intro pins s σ H Q I h
  refine wpAny_Call_Name_kw (ld_glob I hg hm ?_ hdb)
  refine PySem.W.callWith_K (h₀ := X.base) I.ok.mod.kin hk (thn (ha pos pins s σ H _ I h) fun us s1 ⟨vs, H1, I1, r, q⟩ => ⟨I1.kIn, ?_⟩) he hpl
  exact run_fn F hr hb hd hx I1 r q
theorem pe_call0 (F : FnOk X.prog X.w X.K X.mg X.base CX k f fd ps sp) (hr : Room k X.A) (hg : Gl X x) (hm : X.mg x = some (.ref f)) (hk : PySem.W.keepIn X.K (.ref f) = true) (hb : Binds X.K fd ps ds) (hd : Vals dvs ds) (hx : Passes CX X E)
    (hdb : (x == ("__debug__" : Str)) = false := by decide) : PE X (.Call (.Name x p) [] [] pos) (tCall sp dvs E tNil) := by
  intro pins s σ H Q I h
  refine wpAny_Call_Name_kw (ld_glob I hg hm ?_ hdb)
  exact PySem.W.callWith_K0 I.kIn hk (run_fn (us := []) F hr hb hd hx I .nil h)
structure Mk (K : PySem.W.Frag) (C f : Addr) : Prop where
  makes : PySem.W.makesIn K C = true
  init : PySem.W.findIn K (.ref C) "__init__" = some (some (.ref f))
  fn : PySem.W.isFn K (.ref f) = true
  kp : PySem.W.keepIn K (.ref C) = true
end
section
variable {X : Cx} {CX : CXT} {k : Nat} {f C : Addr} {fd : FuncData} {ps ks : List Str} {sp : Sp} {E : XK} {x m : Str} {p pos apos kpos : Pos} {e o : Expr} {es : List Expr} {kws : List Keyword} {te ta : TE} {t tk : TA} {nm : Option Str}
structure KBinds (K : PySem.W.Frag) (fd : FuncData) (ps ks : List Str) (g : List Value → List Value → List Value) (gV : List V → List V → List V) : Prop where
  to : ∀ (s : Shared) (us ws : List Value), K.In s.heap → (g us ws).length = ps.length → BindsTo s fd ⟨us, ks.zip ws⟩ (ps.zip (g us ws))
  rel : ∀ {vs : List V} {us : List Value} {zs : List V} {ws : List Value}, Vals vs us → Vals zs ws → Vals (gV vs zs) (g us ws)
variable {g : List Value → List Value → List Value} {gV : List V → List V → List V}
end
structure FnScope (N P : List Str) (sc : Scope) : Prop where
  kind : sc.kind = .function
  co : sc.isCoroutine = false
  gen : sc.isGenerator = false
  nd : N.Nodup
  pre : N.take P.length = P
  par : ∀ x ∈ P, sc.names.lookup x = some .local ∨ sc.names.lookup x = some .cell
  nofree : ∀ y ∈ sc.names, y.2 ≠ .free
theorem bindL_out {kindOf : Str → Option NameKind} {x : Str} : ∀ {binds : List (Str × Value)} {m : Str → Option Value}, (∀ v, (x, v) ∉ binds) → bindL kindOf binds m x = m x
  | [], _, _ => rfl
  | (n, v) :: r, m, h => by
    unfold bindL
    rw [bindL_out fun w hw => h w (List.mem_cons_of_mem _ hw)]
    split
    · have : x ≠ n := by rintro rfl; exact h v List.mem_cons_self
      simp [this]
    · rfl
theorem bindC_out {kindOf : Str → Option NameKind} {x : Str} : ∀ {binds : List (Str × Value)} {m : Str → Option Value}, (∀ v, (x, v) ∉ binds) → bindC kindOf binds m x = m x
  | [], _, _ => rfl
  | (n, v) :: r, m, h => by
    unfold bindC
    rw [bindC_out fun w hw => h w (List.mem_cons_of_mem _ hw)]
    split
    · rfl
    · have : x ≠ n := by rintro rfl; exact h v List.mem_cons_self
      simp [this]
theorem bindL_get {kindOf : Str → Option NameKind} {x : Str} {v : Value} : ∀ {P : List Str} {vs : List Value} {i : Nat} {m : Str → Option Value}, P.Nodup → P[i]? = some x → vs[i]? = some v → kindOf x = some .local →
    bindL kindOf (P.zip vs) m x = some v
  | [], _, _, _, _, h, _, _ => by simp at h
  | _ :: _, [], _, _, _, _, h, _ => by simp at h
  | p :: P, w :: vs, 0, m, nd, h1, h2, hk => by
    simp at h1 h2; subst h1; subst h2
    show bindL kindOf ((p, w) :: P.zip vs) m p = _
    unfold bindL
    rw [bindL_out fun v hv => (List.nodup_cons.mp nd).1 (List.of_mem_zip hv).1, if_pos hk]
    simp
  | p :: P, w :: vs, i + 1, m, nd, h1, h2, hk => by
    show bindL kindOf ((p, w) :: P.zip vs) m x = _
    unfold bindL
    exact bindL_get (i := i) (List.nodup_cons.mp nd).2 (by simpa using h1) (by simpa using h2) hk
theorem bindC_get {kindOf : Str → Option NameKind} {x : Str} {v : Value} : ∀ {P : List Str} {vs : List Value} {i : Nat} {m : Str → Option Value}, P.Nodup → P[i]? = some x → vs[i]? = some v → kindOf x ≠ some .local →
    bindC kindOf (P.zip vs) m x = some v
  | [], _, _, _, _, h, _, _ => by simp at h
  | _ :: _, [], _, _, _, _, h, _ => by simp at h
  | p :: P, w :: vs, 0, m, nd, h1, h2, hk => by
    simp at h1 h2; subst h1; subst h2
    show bindC kindOf ((p, w) :: P.zip vs) m p = _
    unfold bindC
    rw [bindC_out fun v hv => (List.nodup_cons.mp nd).1 (List.of_mem_zip hv).1, if_neg hk]
    simp
  | p :: P, w :: vs, i + 1, m, nd, h1, h2, hk => by
    show bindC kindOf ((p, w) :: P.zip vs) m x = _
    unfold bindC
    exact bindC_get (i := i) (List.nodup_cons.mp nd).2 (by simpa using h1) (by simpa using h2) hk
def start (N : List Str) (vs : List V) : St := vs.map some ++ List.replicate (N.length - vs.length) none
def cxOf (CX : CXT) (P : Program) (w : World) (K : PySem.W.Frag) (mg : Str → Option Value) (base : Heap) (N : List Str) (qual : Str) (scope : Scope) (f : Addr) (cd : Value) (A : Around) (outer : List Env) (s : Shared) (H : Hp) (E : XK) : Cx where
  prog := P
  w := w
  K := K
  mg := mg
  base := base
  A := A.deeper (envOfC qual scope s.heap.objs.size f cd)
  N := N
  s₀ := s
  H₀ := H
  env := envOfC qual scope s.heap.objs.size f cd
  outer := outer
  stack := envOfC qual scope s.heap.objs.size f cd :: outer
  ex := []
  calm := true
  fn := fun _ => true
  pn := []
  xe := fun e s' => wpAny (model P w) (A.deeper (envOfC qual scope s.heap.objs.size f cd)) (leaving (envOfC qual scope s.heap.objs.size f cd) e) (fun _ s'' => CX outer H s E e s'') (fun e' s'' => CX outer H s E e' s'') s'
theorem cell_has {sc : Scope} {n : Nat} {x : Str} (h : sc.names.lookup x = some .cell) : ∃ c, (cellsFrom n sc.names []).lookup x = some c := by
  have q := PySem.W.cellsFrom_some sc.names n [] (.inl h)
  exact Option.isSome_iff_exists.mp q
theorem inv_start {CX : CXT} {P : Program} {w : World} {K : PySem.W.Frag} {mg : Str → Option Value} {base : Heap} {N ps : List Str} {qual : Str} {scope : Scope} {f : Addr} {cd : Value} {A : Around} {outer : List Env} {s s1 : Shared} {H : Hp} {E : XK} {us : List Value} {vs : List V}
    (S : FnScope N ps scope) (hd : A.handled = none) (e0 : Env0 P w K mg base A outer s H) (hl : vs.length = ps.length) (r : Vals vs us)
    (x : InCallC s s.heap.objs.size (bindL (envOfC qual scope s.heap.objs.size f cd).kindOf (ps.zip us) fun _ => none) (cellsFrom (s.heap.objs.size + 1) scope.names []) (bindC (envOfC qual scope s.heap.objs.size f cd).kindOf (ps.zip us) fun _ => none) s1) :
    Inv (cxOf CX P w K mg base N qual scope f cd A outer s H E) [] (start N vs) H s1 := by
  have hpl : ps.length ≤ N.length := by have := congrArg List.length S.pre; rw [List.length_take] at this; omega
  obtain ⟨h1, tk, rfl, hk⟩ := x.done
  have noA : ∀ b : Addr, b ∉ (cxOf CX P w K mg base N qual scope f cd A outer s H E).ex := fun b z => absurd (show b ∈ ([] : List Addr) from z) (by simp)
  refine ⟨⟨e0.mod, S.kind, rfl, rfl, Nat.le_refl _, fun y z c h1 h2 => ?_, fun y hy => ?_, fun y c _ h => ?_, fun _ => hd, Around.frames_deeper e0.frames, .inr ⟨rfl, rfl⟩, fun b z => absurd z (noA b), e0.bs, e0.bsz, fun b _ _ => noA b, fun b z => absurd z (noA b), e0.funs, e0.frf⟩,
    rfl, e0.bare, Un.kept hk, ⟨_, x.toInCall.ns, fun i y v h1 h2 h3 => ?_⟩, fun y c h => ⟨_, x.cell y c h⟩, e0.hok.fresh (Nat.le_refl _), fun y c h => ?_, fun p hp => absurd (show p ∈ ([] : List (Addr × Obj)) from hp) (by simp), e0.hok.kept hk, ?_⟩
  · exact name_of_addr x.apart (PySem.mem_of_lookup h1) (PySem.mem_of_lookup h2)
  · have hy : scope.names.lookup y = some .cell ∨ scope.names.lookup y = some .free := hy
    rcases hy with hy | hy
    · exact cell_has hy
    · exact absurd rfl (S.nofree _ (PySem.mem_of_lookup hy))
  · exact Nat.le_of_lt (x.above y c (PySem.mem_of_lookup h))
  · have hi : i < vs.length := by
      unfold start at h2
      by_cases hi : i < vs.length
      · exact hi
      · rw [List.getElem?_append_right (by simpa using hi)] at h2
        rw [List.getElem?_replicate] at h2
        split at h2 <;> cases h2
    have ha : vs[i]? = some v := by
      unfold start at h2
      rw [List.getElem?_append_left (by simpa using hi), List.getElem?_map] at h2
      cases e : vs[i]? with
      | none => rw [e] at h2; cases h2
      | some a => rw [e] at h2; cases h2; rfl
    obtain ⟨u, hu, rv⟩ := r.get ha
    have hp : ps[i]? = some y := by
      rw [← S.pre, List.getElem?_take_of_lt (by omega)]; exact h1
    have ndP : ps.Nodup := by rw [← S.pre]; exact S.nd.sublist (List.take_sublist _ _)
    refine ⟨u, rv, ?_⟩
    rcases S.par y (List.mem_of_getElem? hp) with k | k
    · exact .inl ⟨k, bindL_get ndP hp hu k⟩
    · obtain ⟨c, e⟩ := cell_has (n := s.heap.objs.size + 1) k
      refine .inr ⟨.inl k, c, e, ?_⟩
      have q := x.cell y c e
      rw [bindC_get ndP hp hu (by show scope.names.lookup y ≠ _; rw [k]; decide)] at q
      exact q
  · exact e0.hok.fresh (Nat.le_of_lt (x.above y c (PySem.mem_of_lookup h)))
  · unfold start
    show _ = N.length
    rw [List.length_append, List.length_map, List.length_replicate]
    omega
theorem fn_of {CX : CXT} {P : Program} {w : World} {K : PySem.W.Frag} {mg : Str → Option Value} {base : Heap} {k : Nat} {f : Addr} {name qual : Str} {params : Arguments} {body : List Stmt} {scope : Scope} {dV kV doc pm cdv ct oc : Value} {an od : Option Addr}
    {osl : Array (Option Value)} {N ps : List Str} {sp : Sp} (lk : K.lookup f = some ⟨oc, od, .func (PySem.W.fnOf name qual params body scope dV kV doc pm an cdv ct), osl⟩) (hcd : PySem.W.codeIn K cdv qual = true) (S : FnScope N ps scope)
    (len : ∀ vs H Q E, sp vs H Q E → vs.length = ps.length)
    (hbody : ∀ (A : Around) (outer : List Env) (s : Shared) (H : Hp) (vs : List V) (Q : VK) (E : XK), Room k (A.deeper (envOfC qual scope s.heap.objs.size f cdv)) → sp vs H Q E →
      ∃ t, PSs (cxOf CX P w K mg base N qual scope f cdv A outer s H E) body t ∧ t { nx := fun _ H' => Q .non H', rt := Q } (start N vs) H) :
    FnOk P w K mg base CX (k + 1) f (PySem.W.fnOf name qual params body scope dV kV doc pm an cdv ct) ps sp := by
  refine ⟨len, fun A outer s H args us vs Q E hr e0 hb r hsp => ?_⟩
  have hl := len _ _ _ _ hsp
  have KX : K.In s.heap := e0.mod.kin.keeps fun b o e => (e0.bs b o e).1
  have lim : s.heap.NoLimit := e0.mod.nolimit.keeps fun b o e => (e0.bs b o e).1
  have hkind : ∀ y ∈ ps.zip us, scope.names.lookup y.1 = some .local ∨ (scope.names.lookup y.1 = some .cell ∧ ((cellsFrom (s.heap.objs.size + 1) scope.names []).lookup y.1).isSome = true) := fun ⟨n, v⟩ hy => by
    rcases S.par n (List.of_mem_zip hy).1 with q | q
    · exact .inl q
    · exact .inr ⟨q, PySem.W.cellsFrom_some _ _ _ (.inl q)⟩
  refine codeAny_call_function hr.depth (KX _ _ lk) rfl S.co S.gen rfl (PySem.W.codeRec_of KX hcd) (hb _ _ _ _ ?_)
  refine wpAny_newFunctionEnv_cells S.kind hkind fun env he s1 x => ?_
  subst he
  refine ⟨lim.keeps x.toInCall.keep, codeAny_func ?_⟩
  obtain ⟨t, ht, hq⟩ := hbody A outer s H vs Q E (hr.deeper _) hsp
  have I : Inv (cxOf CX P w K mg base N qual scope f cdv A outer s H E) [] (start N vs) H s1 := inv_start S hr.hd e0 hl r x
  refine wpAny_mono (ht [] s1 (start N vs) H _ I hq) (fun fl s' hs => ?_) fun e s' hs => hs
  have fin : ∀ {σ' : St} {H' : Hp} {v : V} {u : Value}, Inv (cxOf CX P w K mg base N qual scope f cdv A outer s H E) [] σ' H' s' → RelV v u → Q v H' → CE outer P w H s Q u s' :=
    fun {σ' H' v u} J rv q => ⟨v, H', J.os, J.bare, J.base, J.hok, rv, q⟩
  cases fl with
  | ret u =>
    obtain ⟨v, σ', H', J, rv, q⟩ := hs
    exact fin J rv q
  | next =>
    obtain ⟨σ', H', J, q⟩ := hs
    exact fin (v := V.non) (u := Value.none) J rfl q
  | brk =>
    obtain ⟨_, _, _, q⟩ := hs
    exact False.elim q
  | cont =>
    obtain ⟨_, _, _, q⟩ := hs
    exact False.elim q
end L2
namespace L2
open PySem PySem.Spec PyProof.Rows
section
variable {X : Cx} {x : Str} {p pos : Pos} {e : Expr} {es : List Expr} {t : TA} {id T : String} {r : List V → Hp → VK → Prop}
def tCB (r : List V → Hp → VK → Prop) (t : TA) : TE := fun σ H Q => t σ H fun vs H1 => r vs H1 Q
theorem pe_callB (hc : CallR X (.builtin id) r) (hg : Gl X x) (hm : X.mg x = none) (hv : bootBuiltins x = some (.builtin id)) (ha : PA X (e :: es) t) (hn : x ≠ "__name__" := by decide) (hdb : (x == ("__debug__" : Str)) = false := by decide)
    (he : starEach (e :: es) X.env = (false, eval e X.env) :: starEach es X.env := by rfl) (hpl : (backTo pos (starEach es X.env)).any (·.1) = false := by rfl) : PE X (.Call (.Name x p) (e :: es) [] pos) (tCB r t) := by
  intro pins s σ H Q I h
  refine wpAny_Call_Name_kw (ld_blt I hg hm hv ?_ hn hdb)
  exact PyProof.Rows.callWith_builtin1 (thn (ha pos pins s σ H _ I h) fun us s1 ⟨vs, H1, I1, r1, q1⟩ => hc pins s1 σ H1 vs us Q I1 r1 q1) he hpl
theorem pe_callTy (hc : CallR X (.type T) r) (hg : Gl X x) (hm : X.mg x = none) (hv : bootBuiltins x = some (.type T)) (ha : PA X (e :: es) t) (hn : x ≠ "__name__" := by decide) (hdb : (x == ("__debug__" : Str)) = false := by decide)
    (he : starEach (e :: es) X.env = (false, eval e X.env) :: starEach es X.env := by rfl) (hpl : (backTo pos (starEach es X.env)).any (·.1) = false := by rfl) : PE X (.Call (.Name x p) (e :: es) [] pos) (tCB r t) := by
  intro pins s σ H Q I h
  refine wpAny_Call_Name_kw (ld_blt I hg hm hv ?_ hn hdb)
  exact PyProof.Rows.callWith_type1 (thn (ha pos pins s σ H _ I h) fun us s1 ⟨vs, H1, I1, r1, q1⟩ => hc pins s1 σ H1 vs us Q I1 r1 q1) he hpl
end
end L2
namespace HT
open PySem PyProof.Rows
section
open PySem.SeqAt
open PySem.AutoSeq1 (wpAny_loadPart')
open PySem.MeetsSeq PySem.MeetsSeq2 PySem.MeetsSeq3
end
section
variable {prog : Program} {w : World} {A : Around} {E : Value → Shared → Prop} {s : Shared}
def sIx (n d : Nat) : Option Int → Nat
  | none => d
  | some v => if v < 0 then (v + (n : Int)).toNat else min v.toNat n
theorem sIx_none (n d : Nat) : sIx n d none = d := rfl
theorem sIx_nat (n d k : Nat) : sIx n d (some (k : Int)) = min k n := by
  show (if (k : Int) < 0 then ((k : Int) + (n : Int)).toNat else min (k : Int).toNat n) = min k n
  rw [if_neg (by omega), Int.toNat_natCast]
end
end HT
namespace L2
open PySem PySem.Spec PyProof.Rows
abbrev TO := St → Hp → (Option Int → Hp → Prop) → Prop
def PO (X : Cx) (e : Option Expr) (t : TO) : Prop :=
  ∀ (pins : List (Addr × Obj)) (s : Shared) (σ : St) (H : Hp) (Q : Option Int → Hp → Prop), Inv X pins σ H s → t σ H Q →
    wpAny (model X.prog X.w) X.A (evalPart e X.env) (fun u s' => ∃ o H', Inv X pins σ H' s' ∧ IsPart u o ∧ Q o H') X.xe s
def tNoPart : TO := fun _ H Q => Q none H
def tPart (t : TE) : TO := fun σ H Q => t σ H fun x H1 => ∃ i, x = .int i ∧ Q (some i) H1
section
variable {X : Cx} {e : Expr} {te : TE} {lo hi : Option Expr} {tl th : TO} {pos p2 : Pos}
theorem po_none : PO X none tNoPart := by
  intro pins s σ H Q I h
  rw [evalPart_none]
  exact wpAny_pure ⟨none, H, I, .none, h⟩
theorem po_some (h : PE X e te) : PO X (some e) (tPart te) := by
  intro pins s σ H Q I hw
  rw [evalPart_some]
  refine thn (h pins s σ H _ I hw) fun u s1 ⟨x, H1, I1, r1, q1⟩ => ?_
  obtain ⟨i, rfl, q⟩ := q1
  obtain ⟨t, rfl⟩ := r1
  exact ⟨some i, H1, I1, .int i t, q⟩
def SlR (X : Cx) (r : V → Option Int → Option Int → Hp → VK → Prop) : Prop :=
  ∀ (pins : List (Addr × Obj)) (s : Shared) (σ : St) (H : Hp) (x : V) (v vl vu : Value) (lo hi : Option Int) (sl : Addr) (Q : VK), Inv X pins σ H s → RelV x v → s.heap.IsSliceOf sl vl vu .none → IsPart vl lo → IsPart vu hi → r x lo hi H Q →
    ∃ T id, typeLookup (.type T) "__getitem__" = pure (some (.builtin id)) ∧ s.TypeIs v T ∧ wpAny (model X.prog X.w) X.A (getItem v (.ref sl)) (EP X pins σ Q) X.xe s
theorem SlR.or {r r' : V → Option Int → Option Int → Hp → VK → Prop} (h : SlR X r) (h' : SlR X r') : SlR X (fun x lo hi H Q => r x lo hi H Q ∨ r' x lo hi H Q) := by
  intro pins s σ H x v vl vu lo hi sl Q I rx hs pl pu q
  rcases q with q | q
  · exact h pins s σ H x v vl vu lo hi sl Q I rx hs pl pu q
  · exact h' pins s σ H x v vl vu lo hi sl Q I rx hs pl pu q
def tSl (r : V → Option Int → Option Int → Hp → VK → Prop) (te : TE) (tl th : TO) : TE := fun σ H Q => te σ H fun x H1 => tl σ H1 fun l H2 => th σ H2 fun u H3 => r x l u H3 Q
theorem pe_slice {r : V → Option Int → Option Int → Hp → VK → Prop} (hr : SlR X r) (he : PE X e te) (hl : PO X lo tl) (hu : PO X hi th) : PE X (.Subscript e (.Slice lo hi none p2) pos) (tSl r te tl th) := by
  intro pins s σ H Q I h
  refine Subscript_ (thn (he pins s σ H _ I h) fun v s1 ⟨x, H1, I1, r1, q1⟩ => ?_)
  refine wpAny_Slice (thn (hl pins s1 σ H1 _ I1 q1) fun vl s2 ⟨l, H2, I2, pl, q2⟩ => thn (hu pins s2 σ H2 _ I2 q2) fun vu s3 ⟨u, H3, I3, pu, q3⟩ => ?_)
  rw [evalPart_none]
  refine wpAny_pure ?_
  have I4 : Inv X pins σ H3 { s3 with heap := s3.heap.push { cls := .type "slice", data := .fields #[vl, vu, .none] } } := I3.kept (t' := s3.toks) fun b ob q => Heap.get?_push_of_some _ q
  obtain ⟨T, id, hT, ht, hg⟩ := hr pins { s3 with heap := s3.heap.push { cls := .type "slice", data := .fields #[vl, vu, .none] } } σ H3 x v vl vu l u s3.heap.objs.size Q I4 r1 (Heap.IsSliceOf.new ..) pl pu q3
  show wpAny (model X.prog X.w) X.A (subscriptTail e (.Slice lo hi none p2) v (.ref s3.heap.objs.size)) (EP X pins σ Q) X.xe { s3 with heap := s3.heap.push { cls := .type "slice", data := .fields #[vl, vu, .none] } }
  exact tail_any (ops := [.ref s3.heap.objs.size, v]) ht hT hg (by with_unfolding_all rfl)
def cutV (xs : List V) (lo hi : Option Int) : List V := (xs.drop (HT.sIx xs.length 0 lo)).take (HT.sIx xs.length xs.length hi - HT.sIx xs.length 0 lo)
theorem cutV_length (xs : List V) (lo hi : Option Int) : (cutV xs lo hi).length ≤ xs.length := by
  unfold cutV
  rw [List.length_take, List.length_drop]
  omega
end
end L2
namespace L2
open PySem PySem.Spec PyProof.Rows
def ixN (n : Nat) (i : Int) : Option Nat := if 0 ≤ i then (if i < n then some i.toNat else none) else if -(n : Int) ≤ i then some (i + n).toNat else none
def atI {α : Type} (xs : List α) (i : Int) : Option α := (ixN xs.length i).bind fun j => xs[j]?
theorem ixN_seq {n : Nat} {i : Int} {j : Nat} (h : ixN n i = some j) : seqIndex? i n = some j ∧ j < n ∧ -(n : Int) ≤ i ∧ i < n := by
  unfold ixN at h
  by_cases h0 : 0 ≤ i
  · rw [if_pos h0] at h
    by_cases h1 : i < n
    · rw [if_pos h1] at h
      have e : i.toNat = j := Option.some.inj h
      exact ⟨by rw [seqIndex_of h0 h1, e], by omega, by omega, h1⟩
    · rw [if_neg h1] at h; cases h
  · rw [if_neg h0] at h
    by_cases h1 : -(n : Int) ≤ i
    · rw [if_pos h1] at h
      have e : (i + n).toNat = j := Option.some.inj h
      exact ⟨by rw [seqIndex_neg (by omega) h1, e], by omega, h1, by omega⟩
    · rw [if_neg h1] at h; cases h
theorem atI_get {α : Type} {xs : List α} {i : Int} {v : α} (h : atI xs i = some v) : ∃ j, seqIndex? i xs.length = some j ∧ xs[j]? = some v ∧ j < xs.length ∧ -(xs.length : Int) ≤ i ∧ i < xs.length := by
  unfold atI at h
  cases e : ixN xs.length i with
  | none => rw [e] at h; cases h
  | some j =>
    rw [e] at h
    obtain ⟨h1, h2, h3, h4⟩ := ixN_seq e
    exact ⟨j, h1, h, h2, h3, h4⟩
theorem atI_nat {α : Type} {xs : List α} {j : Nat} {v : α} (h : xs[j]? = some v) : atI xs (j : Int) = some v := by
  have hj : j < xs.length := (List.getElem?_eq_some_iff.mp h).1
  have e : ixN xs.length (j : Int) = some j := by
    unfold ixN
    rw [if_pos (by omega), if_pos (by omega)]; simp
  unfold atI; rw [e]; exact h
def PlainIx (b : Expr) : Prop := ∀ o i, subscripted b false o i = operate [o, i] (getItem o i)
def IxR (X : Cx) (r : R2) : Prop :=
  ∀ (value slice : Expr) (pins : List (Addr × Obj)) (s : Shared) (σ : St) (H : Hp) (x y : V) (v u : Value) (Q : VK), Inv X pins σ H s → RelV x v → RelV y u → r x y H Q →
    subscripted slice false v u = operate [v, u] (getItem v u) → wpAny (model X.prog X.w) X.A (subscriptTail value slice v u) (EP X pins σ Q) X.xe s
def MtR (X : Cx) (id : String) (r : V → List V → Hp → VK → Prop) : Prop :=
  ∀ (pins : List (Addr × Obj)) (s : Shared) (σ : St) (H : Hp) (x : V) (xs : List V) (v : Value) (us : List Value) (Q : VK), Inv X pins σ H s → RelV x v → Vals xs us → r x xs H Q →
    wpAny (model X.prog X.w) X.A (call (.builtin id) (v :: us)) (EP X pins σ Q) X.xe s
section
variable {X : Cx} {a b : Expr} {ta tb : TE} {pos : Pos}
theorem IxR.or {r r' : R2} (h : IxR X r) (h' : IxR X r') : IxR X (fun x y H Q => r x y H Q ∨ r' x y H Q) := by
  intro value slice pins s σ H x y v u Q I rx ry q hs
  rcases q with q | q
  · exact h value slice pins s σ H x y v u Q I rx ry q hs
  · exact h' value slice pins s σ H x y v u Q I rx ry q hs
theorem MtR.or {id : String} {r r' : V → List V → Hp → VK → Prop} (h : MtR X id r) (h' : MtR X id r') : MtR X id (fun x xs H Q => r x xs H Q ∨ r' x xs H Q) := by
  intro pins s σ H x xs v us Q I rx rs q
  rcases q with q | q
  · exact h pins s σ H x xs v us Q I rx rs q
  · exact h' pins s σ H x xs v us Q I rx rs q
theorem pe_ix {r : R2} (hr : IxR X r) (ha : PE X a ta) (hb : PE X b tb) (hs : PlainIx b) : PE X (.Subscript a b pos) (tOp r ta tb) := by
  intro pins s σ H Q I h
  exact Subscript_ (binT ha hb I h fun v u s2 x y H2 I2 rx ry q => hr a b pins s2 σ H2 x y v u Q I2 rx ry q (hs _ _))
def rIxL (K : PySem.W.Frag) : R2 := fun x y H Q => ∃ p xs i v, x = .ref p ∧ y = .int i ∧ SqL K H p xs ∧ atI xs i = some v ∧ Q v H
def rIxT (K : PySem.W.Frag) : R2 := fun x y H Q => ∃ p xs i v, x = .ref p ∧ y = .int i ∧ SqT K H p xs ∧ atI xs i = some v ∧ Q v H
theorem ix_list : IxR X (rIxL X.K) := by
  intro value slice pins s σ H x y v u Q I rx ry h hs
  obtain ⟨p, xs, i, z, rfl, rfl, hq, he, q⟩ := h
  cases rx
  obtain ⟨t, rfl⟩ := ry
  obtain ⟨its, r, pl, hz⟩ := I.list hq
  obtain ⟨j, h1, h2, h3, h4, h5⟩ := atI_get he
  obtain ⟨w, ew, rw'⟩ := r.get h2
  have hl := r.length
  have hn := line63
  have fin : EP X pins σ Q w s := ⟨z, H, I, rw', q⟩
  by_cases h0 : 0 ≤ i
  · have hj : i.toNat = j := by
      rw [seqIndex_of h0 h5] at h1
      exact Option.some.inj h1
    exact item_listR pl.isList h0 (by omega) (by rw [hj]; simpa using ew) fin hs
  · have hj : (i + (its.toArray.size : Int)).toNat = j := by
      rw [seqIndex_neg (by omega) h4] at h1
      rw [List.size_toArray, ← hl]
      exact Option.some.inj h1
    exact subscriptTail_builtinR (x := w) pl.isList.typeIs slot_list_getitem.lookup
      (wpAny_getItem_list_neg (Q := fun r s' => r = w ∧ EP X pins σ Q r s') pl.isList (by omega) (by rw [List.size_toArray] <;> omega) (by omega) (by rw [hj]; simpa using ew) ⟨rfl, fin⟩) hs
theorem ix_tup : IxR X (rIxT X.K) := by
  intro value slice pins s σ H x y v u Q I rx ry h hs
  obtain ⟨p, xs, i, z, rfl, rfl, hq, he, q⟩ := h
  cases rx
  obtain ⟨t, rfl⟩ := ry
  obtain ⟨its, r, pl, hz⟩ := I.tuple hq
  obtain ⟨j, h1, h2, h3, h4, h5⟩ := atI_get he
  obtain ⟨w, ew, rw'⟩ := r.get h2
  have hl := r.length
  have hn := line63
  have fin : EP X pins σ Q w s := ⟨z, H, I, rw', q⟩
  exact subscriptTail_builtinR (x := w) pl.typeIs slot_tuple_getitem.lookup
    (getItem_tuple (j := j) (Q := fun r s' => r = w ∧ EP X pins σ Q r s') pl (by omega) (by omega) (by rw [List.size_toArray, ← hl]; exact h1) (by simpa using ew) ⟨rfl, fin⟩) hs
theorem mapSeq_set (its : List Value) (n j : Nat) (u : Value) : Obj.mapSeq (·.setIfInBounds j u) { cls := .type "list", data := .seq its.toArray n } = { cls := .type "list", data := .seq (its.set j u).toArray n } := by
  simp [Obj.mapSeq]
theorem Inv.lst {pins : List (Addr × Obj)} {σ : St} {H : Hp} {s : Shared} {p : Addr} {xs : List V} (I : Inv X pins σ H s) (h : H p = some (.lst xs)) :
    ∃ (its : List Value) (n : Nat), Vals xs its ∧ s.heap.get? p = some { cls := .type "list", data := .seq its.toArray n } ∧ xs.length ≤ sizeLine := by
  obtain ⟨z, its, n, r, e⟩ := I.hok p _ h
  exact ⟨its, n, r, e, z⟩
theorem Inv.lstUpd {pins : List (Addr × Obj)} {σ : St} {H : Hp} {s : Shared} {p : Addr} {xs ys : List V} {its its' : List Value} {n n' : Nat} {f : Obj → Obj} (I : Inv X pins σ H s) (h : H p = some (.lst xs))
    (ho : s.heap.get? p = some { cls := .type "list", data := .seq its.toArray n }) (hf : f { cls := .type "list", data := .seq its.toArray n } = { cls := .type "list", data := .seq its'.toArray n' }) (r : Vals ys its') (hz : ys.length ≤ sizeLine) (t : Nat) :
    Inv X pins σ (upd H p (.lst ys)) { s with heap := s.heap.update p f, toks := t } := by
  have e : (s.heap.update p f).get? p = some { cls := .type "list", data := .seq its'.toArray n' } := by
    rw [Heap.get?_update_self f ho (by rw [hf] <;> rfl), hf]
  refine I.write (x := p) (e := p) (by rw [h]; trivial) (.inl rfl) (fun b u hb q => (Heap.get?_update_other _ _ (Ne.symm hb)).trans q) ⟨_, e⟩ ?_
  exact ⟨hz, its', n', r, e⟩
def rSetL : V → V → V → Hp → (Hp → Prop) → Prop := fun o i v H Q => ∃ p xs k j, o = .ref p ∧ i = .int k ∧ H p = some (.lst xs) ∧ ixN xs.length k = some j ∧ Q (upd H p (.lst (xs.set j v)))
theorem set_list : PSet X rSetL := by
  intro pins s σ H o i v ov iv u Q I ro ri rv h
  obtain ⟨p, xs, k, j, rfl, rfl, hp, hj, q⟩ := h
  cases ro
  obtain ⟨t, rfl⟩ := ri
  obtain ⟨its, n, r, ho, hz⟩ := I.lst hp
  obtain ⟨h1, h2, h3, h4⟩ := ixN_seq hj
  have hl := r.length
  have hn := line63
  have I' : Inv X pins σ (upd H p (.lst (xs.set j v))) { s with heap := s.heap.update p (Obj.mapSeq (·.setIfInBounds j u)) } :=
    I.lstUpd hp ho (mapSeq_set its n j u) (r.set rv j) (by rw [List.length_set]; exact hz) s.toks
  by_cases h0 : 0 ≤ k
  · have hk : k.toNat = j := by
      rw [seqIndex_of h0 h4] at h1
      exact Option.some.inj h1
    exact PySem.W.ki_setAt ho h0 (by omega) (by rw [List.size_toArray, ← hl]; exact h4) (by rw [hk]; exact ⟨_, I', q⟩)
  · have hk : (k + (its.toArray.size : Int)).toNat = j := by
      rw [seqIndex_neg (by omega) h3] at h1
      rw [List.size_toArray, ← hl]
      exact Option.some.inj h1
    exact PySem.W.ki_setBack ho (by omega) (by rw [List.size_toArray, ← hl]; exact h3) (by omega) (by rw [hk]; exact ⟨_, I', q⟩)
theorem slice_bounds (lo hi : Option Int) (n : Nat) : (sliceBounds lo hi none n).1 = ((HT.sIx n 0 lo : Nat) : Int) ∧ (sliceBounds lo hi none n).2.1 = ((HT.sIx n n hi : Nat) : Int) ∧ (sliceBounds lo hi none n).2.2 = 1 := by
  refine ⟨?_, ?_, rfl⟩
  · cases lo with
    | none => simp [sliceBounds, HT.sIx]
    | some i =>
      simp only [sliceBounds, HT.sIx, Option.getD_none, show (1 : Int) > 0 by decide, if_true]
      by_cases h : i < 0
      · simp only [h, if_true] <;> omega
      · simp only [h, if_false] <;> omega
  · cases hi with
    | none => simp [sliceBounds, HT.sIx]
    | some i =>
      simp only [sliceBounds, HT.sIx, Option.getD_none, show (1 : Int) > 0 by decide, if_true]
      by_cases h : i < 0
      · simp only [h, if_true] <;> omega
      · simp only [h, if_false] <;> omega
theorem slicePick_cut (its : List Value) (lo hi : Option Int) : slicePick its.toArray lo hi none = ((its.drop (HT.sIx its.length 0 lo)).take (HT.sIx its.length its.length hi - HT.sIx its.length 0 lo)).toArray := by
  obtain ⟨h1, h2, h3⟩ := slice_bounds lo hi its.toArray.size
  unfold slicePick
  rw [h1, h2, h3]
  simp only [sliceRange_one, pick_run, List.size_toArray] <;> rfl
def rSlL (K : PySem.W.Frag) : V → Option Int → Option Int → Hp → VK → Prop := fun x lo hi H Q => ∃ a xs, x = .ref a ∧ SqL K H a xs ∧ ∀ p, H p = none → Q (.ref p) (upd H p (.lst (cutV xs lo hi)))
theorem sl_list : SlR X (rSlL X.K) := by
  intro pins s σ H x v vl vu lo hi sl Q I rx hs pl pu h
  obtain ⟨a, xs, rfl, hx, q⟩ := h
  cases rx
  obtain ⟨its, r, ht, hz⟩ := I.list hx
  have hlen := r.length
  refine ⟨"list", _, slot_list_getitem.lookup, ht.isList.typeIs, ?_⟩
  refine wpAny_getItem_list_slice ht.isList hs pl pu .none (by simp) ?_ (by rw [List.size_toArray] <;> omega)
  rw [slicePick_cut, ← hlen]
  refine ⟨.ref s.heap.objs.size, _, I.laid (t' := s.toks) (o := .lst (cutV xs lo hi)) (fun b ob q => Heap.get?_push_of_some _ q) (Nat.le_refl _) ?_, rfl, q _ (I.hok.fresh (Nat.le_refl _))⟩
  exact ⟨Nat.le_trans (cutV_length xs lo hi) hz, _, 0, (r.drop (HT.sIx xs.length 0 lo)).take (HT.sIx xs.length xs.length hi - HT.sIx xs.length 0 lo), Heap.get?_push_size _ rfl⟩
theorem call_len_seq : CallR X (.builtin "len") (fun xs H Q => ∃ p ys, xs = [.ref p] ∧ (SqL X.K H p ys ∨ SqT X.K H p ys) ∧ Q (.int ys.length) H) := by
  intro pins s σ H xs us Q I r h
  obtain ⟨p, ys, rfl, hq, q⟩ := h
  obtain ⟨u, rfl, rx⟩ := vals1 r
  cases rx
  have hn := line63
  rcases hq with hq | hq
  · obtain ⟨its, r', pl, hz⟩ := I.list hq
    have hlen := r'.length
    exact Calls.call_len_list pl.isList (by simp only [List.size_toArray] <;> omega) ⟨.int ys.length, H, I.tok _, ⟨s.toks + 1, by rw [List.size_toArray, hlen]⟩, q⟩
  · obtain ⟨its, r', pl, hz⟩ := I.tuple hq
    have hlen := r'.length
    exact len_tuple pl (by simp only [List.size_toArray] <;> omega) ⟨.int ys.length, H, I.tok _, ⟨s.toks + 1, by rw [List.size_toArray, hlen]⟩, q⟩
theorem CallR.or {f : Value} {r r' : List V → Hp → VK → Prop} (h : CallR X f r) (h' : CallR X f r') : CallR X f (fun xs H Q => r xs H Q ∨ r' xs H Q) := by
  intro pins s σ H xs us Q I rs q
  rcases q with q | q
  · exact h pins s σ H xs us Q I rs q
  · exact h' pins s σ H xs us Q I rs q
def tyV (K : PySem.W.Frag) (T : String) (x : V) (H : Hp) : Prop := match x with
  | .str _ => T = "str"
  | .int _ => T = "int"
  | .ref p => (T = "list" ∧ ∃ xs, SqL K H p xs) ∨ (T = "tuple" ∧ ∃ o, K.lookup p = some o ∧ o.cls = .type "tuple" ∧ o.dict = none) ∨
      (T = "dict" ∧ ((∃ kvs, H p = some (.dK kvs)) ∨ ∃ kvs, H p = some (.dT kvs))) ∨ (T = "set" ∧ ∃ S n, H p = some (.set S n))
  | _ => False
theorem tyV_is {pins : List (Addr × Obj)} {σ : St} {H : Hp} {s : Shared} {T : String} {x : V} {v : Value} (I : Inv X pins σ H s) (r : RelV x v) (ty : tyV X.K T x H) :
    s.TypeIs v T ∧ ∀ a, v = .ref a → ∃ ob, s.heap.get? a = some ob ∧ ob.dict = none := by
  cases x with
  | str z =>
    obtain ⟨t, rfl⟩ := r
    cases (show T = "str" from ty)
    exact ⟨typeIs_str s z t, fun _ e => nomatch e⟩
  | int i =>
    obtain ⟨t, rfl⟩ := r
    cases (show T = "int" from ty)
    exact ⟨typeIs_int s i t, fun _ e => nomatch e⟩
  | ref p =>
    cases r
    rcases ty with ⟨rfl, xs, hq⟩ | ⟨rfl, o, hk, hc, hd⟩ | ⟨rfl, hk⟩ | ⟨rfl, S, n, hk⟩
    · obtain ⟨its, _, pl, _⟩ := I.list hq
      refine ⟨pl.isList.typeIs, fun a e => ?_⟩
      cases e
      obtain ⟨o, n, e, c, hd, _⟩ := pl
      exact ⟨o, e, hd⟩
    · refine ⟨⟨o, I.kIn p o hk, hc⟩, fun a e => ?_⟩
      cases e
      exact ⟨o, I.kIn _ o hk, hd⟩
    · have z : ∃ o, s.heap.get? p = some o ∧ o.ExactDict := by
        rcases hk with ⟨kvs, hk⟩ | ⟨kvs, hk⟩
        · obtain ⟨_, _, _, _, o, _, _, e, ex, _⟩ := I.hok p _ hk
          exact ⟨o, e, ex⟩
        · obtain ⟨_, _, _, _, o, _, _, e, ex, _⟩ := I.hok p _ hk
          exact ⟨o, e, ex⟩
      obtain ⟨o, e, ex⟩ := z
      refine ⟨⟨o, e, ex.1⟩, fun a e2 => ?_⟩
      cases e2
      exact ⟨o, e, ex.2.1⟩
    · obtain ⟨o, _, _, _, e, ex, _⟩ := I.hok p _ hk
      refine ⟨⟨o, e, ex.1⟩, fun a e2 => ?_⟩
      cases e2
      exact ⟨o, e, ex.2.1⟩
  | _ => exact False.elim ty
def tBM (K : PySem.W.Frag) (T : String) (r : V → List V → Hp → VK → Prop) (to : TE) (t : TA) : TE := fun σ H Q => to σ H fun x H1 => tyV K T x H1 ∧ t σ H1 fun xs H2 => r x xs H2 Q
variable {o e : Expr} {es : List Expr} {to : TE} {t : TA} {name : Str} {apos cpos : Pos} {T id : String} {r : V → List V → Hp → VK → Prop}
theorem pe_bm (pa : PlainAttrs T) (slot : Slot T name id) (hty : typeOf (.builtin id) = pure (.type "method_descriptor")) (hm : MtR X id r) (ho : PE X o to) (ha : PA X (e :: es) t)
    (hbase : attributeBase o name X.env (eval o X.env) = eval o X.env := by rfl)
    (hfew : ((backTo cpos (starEach (e :: es) X.env)).all (fun x => !x.1) && (backToKw cpos (keywordEach [] X.env)).all (fun x => x.1.isSome)
      && decide ((e :: es).length + ([] : List Keyword).length + (if ([] : List Keyword).isEmpty then 0 else 1) < 30)) = true := by rfl)
    (hline : (apos.endLine == cpos.line) = true := by rfl) (hs : starEach (e :: es) X.env = (false, eval e X.env) :: starEach es X.env := by rfl) (hplain : (backTo cpos (starEach es X.env)).any (·.1) = false := by rfl) :
    PE X (.Call (.Attribute o name apos) (e :: es) [] cpos) (tBM X.K T r to t) := by
  intro pins s σ H Q I h
  refine wpAny_Call_method_late hbase hfew hline rfl (thn (ho pins s σ H _ I h) fun v s1 ⟨x, H1, I1, r1, ty, q1⟩ => ?_)
  obtain ⟨h1, h2⟩ := tyV_is I1 r1 ty
  refine ⟨T, id, pa, slot, hty, h1, h2, ?_⟩
  have hA := ha cpos pins s1 σ H1 _ I1 q1
  rw [hs] at hA ⊢
  refine Calls.callWith_builtin (by show (false || (backTo cpos (starEach es X.env)).any (·.1)) = false; rw [hplain] <;> rfl) (Calls.evalArgs_plain ?_)
  exact thn hA fun us s2 ⟨vs, H2, I2, r2, q2⟩ => hm pins s2 σ H2 x vs v us Q I2 r1 r2 q2
end
end L2
namespace L2
open PySem PySem.Spec PyProof.Rows
def MtM (X : Cx) (id : String) (r : V → List V → Hp → VK → Prop) : Prop :=
  ∀ (pins : List (Addr × Obj)) (s : Shared) (σ : St) (H : Hp) (x : V) (xs : List V) (v : Value) (us : List Value) (Q : VK), Inv X pins σ H s → RelV x v → Vals xs us → r x xs H Q →
    wpAny (model X.prog X.w) X.A (call (.builtin id) (v :: us)) (EP X pins σ Q) X.xe s
theorem Vals.one : ∀ {x : V} {us : List Value}, Vals [x] us → ∃ u, us = [u] ∧ RelV x u
  | _, _, .cons r .nil => ⟨_, rfl, r⟩
theorem Vals.two : ∀ {x y : V} {us : List Value}, Vals [x, y] us → ∃ u v, us = [u, v] ∧ RelV x u ∧ RelV y v
  | _, _, _, .cons r (.cons q .nil) => ⟨_, _, rfl, r, q⟩
theorem Vals.zero : ∀ {us : List Value}, Vals [] us → us = []
  | _, .nil => rfl
section
variable {X : Cx} {pins : List (Addr × Obj)} {σ : St} {H : Hp} {s : Shared} {l b : Addr} {xs ys zs : List V}
theorem Inv.lset {its its' : List Value} {n : Nat} {f : Array Value → Array Value} {t' : Nat} (I : Inv X pins σ H s) (hH : H l = some (.lst xs))
    (e : s.heap.get? l = some { cls := .type "list", data := .seq its.toArray n }) (hf : f its.toArray = its'.toArray) (hv : Vals ys its') (hz : ys.length ≤ sizeLine) :
    Inv X pins σ (upd H l (.lst ys)) { s with heap := s.heap.update l (Obj.mapSeq f), toks := t' } := by
  have q := PySem.IsL.update e f
  rw [hf] at q
  refine I.write (x := l) (e := l) (by rw [hH]; exact trivial) (.inl rfl) (fun b' u hb hu => (Heap.get?_update_other s.heap (Obj.mapSeq f) (Ne.symm hb)).trans hu) ⟨_, q⟩ ?_
  exact ⟨hz, its', _, hv, q⟩
theorem Inv.lnew {its : List Value} {t' : Nat} (I : Inv X pins σ H s) (hv : Vals ys its) (hz : ys.length ≤ sizeLine) :
    Inv X pins σ (upd H s.heap.objs.size (.lst ys)) { s with heap := s.heap.push { cls := .type "list", data := .seq its.toArray }, toks := t' } :=
  I.laid (fun _ _ q => Heap.get?_push_of_some _ q) (Nat.le_refl _) ⟨hz, its, 0, hv, Heap.get?_push_size _ rfl⟩
theorem Inv.fresh (I : Inv X pins σ H s) : H s.heap.objs.size = none := I.hok.fresh (Nat.le_refl _)
theorem Inv.lstM (I : Inv X pins σ H s) (hH : H l = some (.lst xs)) : xs.length ≤ sizeLine ∧ ∃ (its : List Value) (n : Nat), Vals xs its ∧ xs.length = its.length ∧ s.heap.get? l = some { cls := .type "list", data := .seq its.toArray n } := by
  obtain ⟨z, its, n, r, e⟩ := I.hok l _ hH
  exact ⟨z, its, n, r, r.length, e⟩
end
section
variable {X : Cx}
def rAppend : V → List V → Hp → VK → Prop := fun x vs H Q => ∃ l xs y, x = .ref l ∧ vs = [y] ∧ H l = some (.lst xs) ∧ xs.length < sizeLine ∧ Q .non (upd H l (.lst (xs ++ [y])))
theorem mt_append : MtM X "list.append" rAppend := by
  intro pins s σ H x vs v us Q I rx rv h
  obtain ⟨l, xs, y, rfl, rfl, hH, hz, q⟩ := h
  cases rx
  obtain ⟨u, rfl, ru⟩ := rv.one
  obtain ⟨z, its, n, r, hl, e⟩ := I.lstM hH
  refine call_meets F.slot_list_append ⟨_, e, rfl⟩ F.entry_list_append (F.args_list_append_2 _ _) (PySem.list_append l its.toArray n u (by rw [List.size_toArray]; omega)) ⟨e, ?_⟩
  refine ⟨.non, _, I.lset (its' := its ++ [u]) hH e (by simp) (r.append (.cons ru .nil)) ?_, rfl, q⟩
  rw [List.length_append, List.length_singleton]
  omega
def rCat : R2 := fun x y H Q => ∃ l b xs zs, x = .ref l ∧ y = .ref b ∧ H l = some (.lst xs) ∧ H b = some (.lst zs) ∧ xs.length + zs.length ≤ sizeLine ∧ ∀ p, H p = none → Q (.ref p) (upd H p (.lst (xs ++ zs)))
theorem op_cat : OpR X (binaryOp .Add) rCat := by
  intro pins s σ H x y v u Q I rx ry h
  obtain ⟨l, b, xs, zs, rfl, rfl, hH, hB, hz, q⟩ := h
  cases rx
  cases ry
  obtain ⟨z, its, n, r, hl, e⟩ := I.lstM hH
  obtain ⟨z2, its2, n2, r2, hl2, e2⟩ := I.lstM hB
  refine PySem.P.add_list e e2 ?_ (by rw [List.size_toArray, List.size_toArray]; omega)
  have ea : its.toArray ++ its2.toArray = (its ++ its2).toArray := by simp
  rw [ea]
  exact ⟨.ref _, _, I.lnew (t' := s.toks) (r.append r2) (by rw [List.length_append]; omega), rfl, q _ I.fresh⟩
end
section
variable {prog : Program} {w : World} {A : Around} {E : Value → Shared → Prop} {s : Shared}
set_option maxRecDepth 100000 in
end
section
variable {X : Cx}
end
end L2
namespace L2
open PySem PySem.Spec PyProof.Rows
section
variable {κ : Type} [DecidableEq κ]
def valV (kvs : List (κ × V)) (k : κ) : Option V := (kvs.find? fun kv => decide (kv.1 = k)).map (·.2)
def putK (kvs : List (κ × V)) (k : κ) (v : V) : List (κ × V) :=
  if (kvs.any fun kv => decide (kv.1 = k)) = true then kvs.map (fun kv => if kv.1 = k then (kv.1, v) else kv) else kvs ++ [(k, v)]
def dropK (kvs : List (κ × V)) (k : κ) : List (κ × V) := kvs.filter fun kv => decide (kv.1 ≠ k)
theorem valV_pos {p : κ × V} {r : List (κ × V)} {k : κ} (e : p.1 = k) : valV (p :: r) k = some p.2 := by simp [valV, List.find?_cons, e]
theorem valV_neg {p : κ × V} {r : List (κ × V)} {k : κ} (e : ¬ p.1 = k) : valV (p :: r) k = valV r k := by simp [valV, List.find?_cons, e]
theorem valV_any (k : κ) : ∀ kvs : List (κ × V), (kvs.any fun kv => decide (kv.1 = k)) = (valV kvs k).isSome
  | [] => rfl
  | p :: r => by
    rw [List.any_cons]
    by_cases e : p.1 = k
    · simp only [valV_pos e, decide_eq_true e, Bool.true_or, Option.isSome_some]
    · rw [valV_neg e, decide_eq_false e, Bool.false_or]; exact valV_any k r
theorem RelO.isSome_eq {o : Option V} {u : Option Value} (r : RelO o u) : o.isSome = u.isSome := by
  cases o with
  | none => cases u with
    | none => rfl
    | some _ => exact (show False from r).elim
  | some _ => cases u with
    | none => exact (show False from r).elim
    | some _ => rfl
theorem RelO.getD {o : Option V} {u : Option Value} {d : V} {d' : Value} (r : RelO o u) (rd : RelV d d') : RelV (o.getD d) (u.getD d') := by
  cases o with
  | none => cases u with
    | none => exact rd
    | some _ => exact (show False from r).elim
  | some _ => cases u with
    | none => exact (show False from r).elim
    | some _ => exact r
theorem KV.val {kvs : List (κ × V)} {vs : List (κ × Value)} (r : KV kvs vs) (k : κ) : RelO (valV kvs k) (valueAt vs k) := by
  unfold KV at r
  induction r with
  | nil => exact True.intro
  | @cons p q ps qs h t ih =>
    obtain ⟨h1, h2⟩ := h
    by_cases e : p.1 = k
    · have e' : q.1 = k := h1.symm.trans e
      have b : valueAt (q :: qs) k = some q.2 := by simp [valueAt, List.find?_cons, e']
      rw [valV_pos e, b]; exact h2
    · have e' : ¬ q.1 = k := fun z => e (h1.trans z)
      have b : valueAt (q :: qs) k = valueAt qs k := by simp [valueAt, List.find?_cons, e']
      rw [valV_neg e, b]; exact ih
theorem KV.any {kvs : List (κ × V)} {vs : List (κ × Value)} (r : KV kvs vs) (k : κ) : (kvs.any fun kv => decide (kv.1 = k)) = vs.any fun kv => decide (kv.1 = k) := by
  unfold KV at r
  induction r with
  | nil => rfl
  | cons h t ih => rw [List.any_cons, List.any_cons, ih, h.1]
theorem KV.repl {kvs : List (κ × V)} {vs : List (κ × Value)} (r : KV kvs vs) (k : κ) {y : V} {u : Value} (ry : RelV y u) :
    KV (kvs.map fun kv => if kv.1 = k then (kv.1, y) else kv) (vs.map fun kv => if kv.1 = k then (kv.1, u) else kv) := by
  unfold KV at r ⊢
  induction r with
  | nil => exact .nil
  | @cons p q ps qs h t ih =>
    rw [List.map_cons, List.map_cons]
    refine .cons ?_ ih
    obtain ⟨h1, h2⟩ := h
    by_cases e : p.1 = k
    · rw [if_pos e, if_pos (h1.symm.trans e)]; exact ⟨h1, ry⟩
    · rw [if_neg e, if_neg (fun z => e (h1.trans z))]; exact ⟨h1, h2⟩
theorem KV.put {kvs : List (κ × V)} {vs : List (κ × Value)} (r : KV kvs vs) (k : κ) {y : V} {u : Value} (ry : RelV y u) : KV (putK kvs k y) (stored vs k u) := by
  unfold putK stored
  rw [r.any k]
  by_cases e : (vs.any fun kv => decide (kv.1 = k)) = true
  · rw [if_pos e, if_pos e]; exact r.repl k ry
  · rw [if_neg e, if_neg e]; exact Paired.snoc r ⟨rfl, ry⟩
theorem KV.drop {kvs : List (κ × V)} {vs : List (κ × Value)} (r : KV kvs vs) (k : κ) : KV (dropK kvs k) (without vs k) := by
  unfold KV at r ⊢
  unfold dropK without
  induction r with
  | nil => exact .nil
  | @cons p q ps qs h t ih =>
    obtain ⟨h1, h2⟩ := h
    rw [List.filter_cons, List.filter_cons]
    by_cases e : p.1 = k
    · have a : ¬ decide (p.1 ≠ k) = true := by simp [e]
      have b : ¬ decide (q.1 ≠ k) = true := by simp [h1.symm.trans e]
      rw [if_neg a, if_neg b]; exact ih
    · have e' : ¬ q.1 = k := fun z => e (h1.trans z)
      have a : decide (p.1 ≠ k) = true := by simp [e]
      have b : decide (q.1 ≠ k) = true := by simp [e']
      rw [if_pos a, if_pos b]; exact .cons ⟨h1, h2⟩ ih
theorem KV.keys {kvs : List (κ × V)} {vs : List (κ × Value)} (r : KV kvs vs) : kvs.map (·.1) = vs.map (·.1) := by
  unfold KV at r
  induction r with
  | nil => rfl
  | cons h t ih => rw [List.map_cons, List.map_cons, ih, h.1]
theorem KV.length {kvs : List (κ × V)} {vs : List (κ × Value)} (r : KV kvs vs) : kvs.length = vs.length := Paired.length r
end
abbrev KT (H : Hp) : List (List Key × V) → List (List Key × Addr × Value) → Prop := Paired fun p q => p.1 = q.1 ∧ H q.2.1 = some (.tup (p.1.map kV)) ∧ RelV p.2 q.2.2
theorem KT.val {H : Hp} {kvs : List (List Key × V)} {xs : List (List Key × Addr × Value)} (r : KT H kvs xs) (k : List Key) : RelO (valV kvs k) ((atKey xs k).map (·.2)) := by
  induction r with
  | nil => exact True.intro
  | @cons p q ps qs h t ih =>
    obtain ⟨h1, _, h2⟩ := h
    by_cases e : p.1 = k
    · have e' : q.1 = k := h1.symm.trans e
      have b : atKey (q :: qs) k = some q.2 := by simp [atKey, List.find?_cons, e']
      rw [valV_pos e, b]; exact h2
    · have e' : ¬ q.1 = k := fun z => e (h1.trans z)
      have b : atKey (q :: qs) k = atKey qs k := by simp [atKey, List.find?_cons, e']
      rw [valV_neg e, b]; exact ih
theorem KT.repl {H : Hp} {kvs : List (List Key × V)} {xs : List (List Key × Addr × Value)} (r : KT H kvs xs) (k : List Key) {y : V} {u : Value} (ry : RelV y u) :
    KT H (kvs.map fun kv => if kv.1 = k then (kv.1, y) else kv) (xs.map (putAt k u)) := by
  induction r with
  | nil => exact .nil
  | @cons p q ps qs h t ih =>
    rw [List.map_cons, List.map_cons]
    refine .cons ?_ ih
    obtain ⟨h1, h2, h3⟩ := h
    unfold putAt
    by_cases e : p.1 = k
    · rw [if_pos e, if_pos (h1.symm.trans e)]; exact ⟨h1, h2, ry⟩
    · rw [if_neg e, if_neg (fun z => e (h1.trans z))]; exact ⟨h1, h2, h3⟩
theorem KT.put {H : Hp} {kvs : List (List Key × V)} {xs : List (List Key × Addr × Value)} (r : KT H kvs xs) (k : List Key) {b : Addr} {y : V} {u : Value} (hb : H b = some (.tup (k.map kV))) (ry : RelV y u) :
    KT H (putK kvs k y) (storedH xs k b u) := by
  have e : (kvs.any fun kv => decide (kv.1 = k)) = (atKey xs k).isSome := by
    rw [valV_any, (r.val k).isSome_eq, Option.isSome_map]
  unfold putK storedH
  rw [e]
  by_cases q : (atKey xs k).isSome = true
  · rw [if_pos q, if_pos q]; exact r.repl k ry
  · rw [if_neg q, if_neg q]; exact Paired.snoc r ⟨rfl, hb, ry⟩
theorem KT.keeps {H H' : Hp} {kvs : List (List Key × V)} {xs : List (List Key × Addr × Value)} (r : KT H kvs xs) (ht : ∀ b ys, H b = some (.tup ys) → H' b = some (.tup ys)) : KT H' kvs xs :=
  Paired.mapP r fun _ _ z => ⟨z.1, ht _ _ z.2.1, z.2.2⟩
section
variable {P : Program} {w : World} {H : Hp} {h : Heap} {a : Addr}
end
def DGet (H : Hp) (a : Addr) (y : V) (r : Option V) : Prop :=
  (∃ kvs k, Rd H a (.dK kvs) ∧ y = kV k ∧ r = valV kvs k) ∨ ∃ kvs k b, Rd H a (.dT kvs) ∧ y = .ref b ∧ H b = some (.tup (k.map kV)) ∧ r = valV kvs k
def DPut (H : Hp) (a : Addr) (y v : V) (H' : Hp) : Prop :=
  (∃ kvs k, H a = some (.dK kvs) ∧ y = kV k ∧ kvs.length < sizeLine ∧ H' = upd H a (.dK (putK kvs k v))) ∨
  ∃ kvs k b, H a = some (.dT kvs) ∧ y = .ref b ∧ H b = some (.tup (k.map kV)) ∧ kvs.length < sizeLine ∧ H' = upd H a (.dT (putK kvs k v))
theorem DGet.k {H : Hp} {a : Addr} {kvs : List (Key × V)} {k : Key} (e : H a = some (.dK kvs)) : DGet H a (kV k) (valV kvs k) := .inl ⟨kvs, k, .inl e, rfl, rfl⟩
theorem DGet.t {H : Hp} {a b : Addr} {kvs : List (List Key × V)} {k : List Key} (e : H a = some (.dT kvs)) (eb : H b = some (.tup (k.map kV))) : DGet H a (.ref b) (valV kvs k) := .inr ⟨kvs, k, b, .inl e, rfl, eb, rfl⟩
theorem DPut.k {H : Hp} {a : Addr} {kvs : List (Key × V)} {k : Key} {v : V} (e : H a = some (.dK kvs)) (hl : kvs.length < sizeLine) : DPut H a (kV k) v (upd H a (.dK (putK kvs k v))) := .inl ⟨kvs, k, e, rfl, hl, rfl⟩
theorem DPut.t {H : Hp} {a b : Addr} {kvs : List (List Key × V)} {k : List Key} {v : V} (e : H a = some (.dT kvs)) (eb : H b = some (.tup (k.map kV))) (hl : kvs.length < sizeLine) :
    DPut H a (.ref b) v (upd H a (.dT (putK kvs k v))) := .inr ⟨kvs, k, b, e, rfl, eb, hl, rfl⟩
section
variable {X : Cx} {pins : List (Addr × Obj)} {σ : St} {H : Hp} {s : Shared} {a : Addr} {y v : V} {u r : Value} {o : Option V} {A : Around} {E : Value → Shared → Prop}
end
section
variable {X : Cx} {pins : List (Addr × Obj)} {σ : St} {H : Hp} {s : Shared} {a : Addr} {kvs : List (Key × V)} {k : Key} {u : Value} {A : Around} {E : Value → Shared → Prop}
end
def tDGet (td ty : TE) : TE := fun σ H Q => td σ H fun x H1 => ty σ H1 fun y H2 => ∃ a v, x = .ref a ∧ DGet H2 a y (some v) ∧ Q v H2
def sDPut (td ty tv : TE) : TS := fun D σ H => tv σ H fun v H1 => td σ H1 fun x H2 => ty σ H2 fun y H3 => ∃ a H4, x = .ref a ∧ DPut H3 a y v H4 ∧ D.nx σ H4
section
variable {X : Cx} {o i e value : Expr} {pos pos' tpos : Pos} {td ty tv : TE}
end
section
variable {X : Cx} {pos : Pos}
end
def tPairs : List (TE × TE) → St → Hp → (List (V × V) → Hp → Prop) → Prop
  | [], _, H, Q => Q [] H
  | (tk, tv) :: r, σ, H, Q => tk σ H fun x H1 => tv σ H1 fun y H2 => tPairs r σ H2 fun ps H3 => Q ((x, y) :: ps) H3
def mergeK (kvs more : List (Key × V)) : List (Key × V) := more.foldl (fun acc kv => putK acc kv.1 kv.2) kvs
def tDisp (trs : List (TE × TE)) : TE := fun σ H Q => ∀ p, H p = none → tPairs trs σ (upd H p (.dK [])) fun ps H2 => H2 p = some (.dK []) ∧ ∃ kvs : List (Key × V), ps = kvs.map (fun kv => (kV kv.1, kv.2)) ∧ kvs.length ≤ 15 ∧ Q (.ref p) (upd H2 p (.dK (mergeK [] kvs)))
structure M1 (X : Cx) (o : Expr) (m : Str) (apos : Pos) (e : Expr) (cpos : Pos) : Prop where
  base : attributeBase o m X.env (eval o X.env) = eval o X.env
  few : ((backTo cpos (starEach [e] X.env)).all (fun x => !x.1) && (backToKw cpos (keywordEach [] X.env)).all (fun x => x.1.isSome)
    && decide (([e] : List Expr).length + ([] : List Keyword).length + (if ([] : List Keyword).isEmpty then 0 else 1) < 30)) = true
  line : (apos.endLine == cpos.line) = true
  trees : backTo cpos (starEach [e] X.env) = [(false, eval e X.env)]
structure M2 (X : Cx) (o : Expr) (m : Str) (apos : Pos) (e f : Expr) (cpos : Pos) : Prop where
  base : attributeBase o m X.env (eval o X.env) = eval o X.env
  few : ((backTo cpos (starEach [e, f] X.env)).all (fun x => !x.1) && (backToKw cpos (keywordEach [] X.env)).all (fun x => x.1.isSome)
    && decide (([e, f] : List Expr).length + ([] : List Keyword).length + (if ([] : List Keyword).isEmpty then 0 else 1) < 30)) = true
  line : (apos.endLine == cpos.line) = true
  trees : backTo cpos (starEach [e, f] X.env) = [(false, eval e X.env), (false, eval f X.env)]
section
variable {X : Cx} {pins : List (Addr × Obj)} {σ : St} {H : Hp} {s : Shared} {a : Addr} {y d : V} {u r : Value} {o : Option V} {A : Around} {E : Value → Shared → Prop}
end
section
variable {X : Cx} {o e f : Expr} {apos cpos : Pos} {td ty tx : TE}
end
section
variable {X : Cx} {pins : List (Addr × Obj)} {σ : St} {H : Hp} {s : Shared} {a : Addr} {kvs : List (Key × V)} {A : Around} {E : Value → Shared → Prop}
end
section
variable {X : Cx} {pins : List (Addr × Obj)} {σ : St} {H : Hp} {s : Shared} {a : Addr} {y : V} {u : Value} {A : Around} {E : Value → Shared → Prop}
end
end L2
namespace Att
open PySem PySem.W PySem.Calls PyProof.Rows
theorem ints_of_wellAll {P : Params} {h : Heap} : ∀ (ns : List Int) (vs : List Value), WellAll P h vs (ns.map WData.int) → IntsAre vs ns := by
  intro ns
  induction ns with
  | nil =>
    intro vs w
    rw [List.map_nil] at w
    cases w
    exact .nil
  | cons n ns ih =>
    intro vs w
    rw [List.map_cons] at w
    cases w with
    | cons a b =>
      cases a
      exact .cons _ _ (ih _ b)
theorem script_of {l : OpenLaw} {n : Nat} (hn : l.most = some n) {P : Params} {h : Heap} {args : List WData} {vals : List Value}
    (hpre : l.row.toRowW.claim.pre args = true) (hwl : WellAll P h vals args) :
    ∃ a vs ns, vals = [Value.ref a] ∧ args = [WData.list (ns.map WData.int)] ∧ h.get? a = some { cls := .type "list", data := .seq vs.toArray } ∧ IntsAre vs ns ∧ ns.length ≤ n := by
  have hsh : WShape.hasAll [] args [.list .int] = true := (pre_splitW hpre).1
  have hc : l.pre.holds [] { args := args } = true := (pre_splitW hpre).2
  obtain ⟨d, r, rfl, h1, h2⟩ := hasAllW_cons hsh
  obtain rfl := hasAllW_nil h2
  obtain ⟨xs, rfl, h3⟩ := hasW_list h1
  obtain ⟨ns, rfl⟩ := items_int h3
  have hlen : ns.length ≤ n := by
    unfold OpenLaw.pre at hc
    have h4 : (WTm.not (.lt (.lit (.int (n : Int))) (.len (.arg 0)))).holds [] { args := [.list (ns.map .int)] } = true := by
      have h4 := (holds_andW hc).1
      rw [hn] at h4
      exact h4
    have h5 := condW_of h4 (w_not (w_lt w_lit (w_len_list (w_arg rfl))))
    rw [List.length_map] at h5
    refine Nat.le_of_not_lt fun q => ?_
    have q' : (n : Int) < ((ns.length : Nat) : Int) := by omega
    first
      | (rw [decide_eq_true q'] at h5; exact absurd h5 (by decide))
      | (simp at h5; omega)
  cases hwl with
  | cons w1 w2 =>
    cases w2
    cases w1 with
    | list ho hall => exact ⟨_, _, ns, rfl, rfl, ho, ints_of_wellAll ns _ hall, hlen⟩
theorem post_true (l : OpenLaw) (args : List WData) : l.row.toRowW.claim.post args (.bool true) args = true :=
  postW_of (r := l.row.toRowW) (X := (true == true))
    (show WShape.has [] (.bool true) .bool = true by first | rfl | decide | simp [WShape.has, WShape.arms, WShape.armsAll])
    (show (WTm.eq .res (.lit (.bool true))).value [] { args := args, res := some (.bool true), after := args } = some (.bool (true == true)) from w_eq_bool (w_res rfl) w_lit) rfl
theorem attach_call {l : OpenLaw} {n : Nat} {q : Program} {loose : List Str} {XP : (Str → Option Value) → Heap → Prop} {YP : World → Heap → Prop} {d : DefRec}
    (hn : l.most = some n) (hdf : d.params.defaults = [])
    (call : ∀ (w : World) (s₀ s₁ : Shared) (mg mb : Str → Option Value) (fa : Addr) (o : Obj) (pm cd doc : Value) (a : Addr) (vs : List Value) (ns : List Int),
      Ground q loose [] XP w s₀ mg mb s₁.heap → YP w s₁.heap →
      s₁.heap.get? fa = some o → o.data = .func (docDef d.name d.params d.body d.scope pm cd doc) → s₁.heap.CodeRec cd d.name → mg d.name = some (.ref fa) →
      s₁.heap.get? a = some { cls := .type "list", data := .seq vs.toArray } → IntsAre vs ns → ns.length ≤ n → s₁.gens = #[] →
      codeAny (model l.prog w) callerA (.call (.ref fa) ⟨[.ref a], []⟩) (fun r s' => r = .ok (.ret (.bool true)) ∧ OldK s₁.heap s'.heap ∧ s'.os = s₁.os ∧ AllBare s'.gens) s₁) :
    WalkO q loose XP YP l.row.toRowW d [] (fun f vs => PySem.call f vs) := by
  intro w s₀ s₁ mg mb G Y fa o pm cd doc dV kV ho hd hcd hD hmg hg args vals as hpre hlay hrd hwl hlo
  obtain rfl : dV = .none := Dflts.none hD hdf
  obtain rfl : kV = .none := Dflts.noKw hD
  obtain ⟨a, vs, ns, rfl, rfl, hobj, hints, hlen⟩ := script_of hn hpre hwl
  refine enter_call (codeAny_mono (call w s₀ s₁ mg mb fa o pm cd doc a vs ns G Y ho (fd_plain hd) hcd hmg hobj hints hlen hg) fun r s' hq => ?_)
  obtain ⟨rfl, h2, h3, h4⟩ := hq
  exact ⟨.inl ⟨.bool true, .bool true, [], rfl, fun _ => rfl, .bool true, post_true l _, fun _ => ⟨List.Pairwise.nil, fun _ hm => (nomatch hm)⟩⟩, h2, h3, h4⟩
section
variable {prog : Program} {w : World} {A : Around} {E : Value → Shared → Prop} {s : Shared} {K : Frag}
end
end Att
namespace L2
open PySem PySem.Spec PyProof.Rows
theorem vals_ints : ∀ {vs : List Value} {ns : List Int}, IntsAre vs ns → Vals (ns.map V.int) vs
  | _, _, .nil => .nil
  | _, _, .cons n t h => .cons ⟨t, rfl⟩ (vals_ints h)
def Only (H : Hp) : Prop := ∀ b, H b = none ∨ ∃ o xs, H b = some (.frz o (.lst xs))
theorem law_call {P : Program} {w : World} {K : PySem.W.Frag} {mg mb : Str → Option Value} {CX : CXT} {k : Nat} {fa a : Addr} {fd : FuncData} {x : Str} {sp : Sp} {s₁ : Shared} {vs : List Value} {ns : List Int}
    (KX : K.In s₁.heap) (hns : s₁.heap.Ns mainGlobals mg) (hb : s₁.heap.Ns builtinsNs mb) (hbb : ∀ x : Str, x ≠ "__name__" → mb x = bootBuiltins x) (hlim : s₁.heap.NoLimit) (hg : s₁.gens = #[])
    (ha : s₁.heap.get? a = some { cls := .type "list", data := .seq vs.toArray }) (hi : IntsAre vs ns) (hl : ns.length ≤ sizeLine) (hr : Room k callerA)
    (F : ∀ base : Heap, K.In base → base.Ns mainGlobals mg → FnOk P w K mg base CX k fa fd [x] sp) (hbind : ∀ (s : Shared) (u : Value), BindsTo s fd ⟨[u], []⟩ [(x, u)])
    (hsp : ∀ H : Hp, Only H → SqL K H a (ns.map V.int) → sp [.ref a] H (fun v _ => v = .bl true) fun _ _ _ => False)
    (hCX : ∀ H e s', CX [] H s₁ (fun _ _ _ => False) e s' → False) :
    codeAny (model P w) callerA (.call (.ref fa) ⟨[.ref a], []⟩) (fun r s' => r = .ok (.ret (.bool true)) ∧ OldK s₁.heap s'.heap ∧ s'.os = s₁.os ∧ AllBare s'.gens) s₁ := by
  have rv := vals_ints hi
  have lenV := hi.length
  -- from an abstract heap in which nothing but the script may be tracked
  have core : ∀ H : Hp, Only H → SqL K H a (ns.map V.int) → HOk P w H s₁.heap → (∀ b, H b ≠ none → b = a) → (H a ≠ none → K.lookup a = none) →
      codeAny (model P w) callerA (.call (.ref fa) ⟨[.ref a], []⟩) (fun r s' => r = .ok (.ret (.bool true)) ∧ OldK s₁.heap s'.heap ∧ s'.os = s₁.os ∧ AllBare s'.gens) s₁ := by
    intro H hO hS hok hA hK
    have base_of : ∀ {b : Addr} {o : Obj}, s₁.heap.get? b = some o → H b = none → (hidT s₁.heap H).get? b = some o := fun e n => hidT_get e n
    have noA : ∀ {b : Addr} {o : Obj} {es : Array DictEntry} {ep : Nat}, s₁.heap.get? b = some o → o.data = .dict es ep → H b = none := fun {b o es ep} e d => by
      cases q : H b with
      | none => rfl
      | some u =>
        have e' : b = a := hA b (by rw [q]; simp)
        subst e'
        rw [ha] at e; cases e
        have d' : Data.seq vs.toArray _ = Data.dict es ep := d
        cases d'
    have nsK : ∀ {b : Addr} {m : Str → Option Value}, s₁.heap.Ns b m → (hidT s₁.heap H).Ns b m := fun {b m} ⟨o, es, ep, e, d, r⟩ => ⟨o, es, ep, base_of e (noA e d), d, r⟩
    have hKb : K.In (hidT s₁.heap H) := fun b o e => base_of (KX b o e) (by
      cases q : H b with
      | none => rfl
      | some u =>
        have e' : b = a := hA b (by rw [q]; simp)
        subst e'
        rw [hK (by rw [q]; simp)] at e; cases e)
    have hM : Mod K mg (hidT s₁.heap H) := ⟨hKb, nsK hns, ⟨mb, nsK hb, hbb⟩, let ⟨mc, h1, h2⟩ := hlim; ⟨mc, nsK h1, h2⟩⟩
    have e0 : Env0 P w K mg (hidT s₁.heap H) callerA [] s₁ H := ⟨rfl, hM, fun b o e => of_hidT e, Nat.le_of_eq (hidT_size _ _), trivial, fun b hb => absurd (show b ∈ ([] : List Addr) from hb) (by simp), hok, .of_eq hg⟩
    refine codeAny_mono ((F _ hKb (nsK hns)).run callerA [] s₁ H ⟨[.ref a], []⟩ [.ref a] [.ref a] _ _ hr e0 (hbind s₁ (.ref a)) (.cons rfl .nil) (hsp H hO hS)) fun r s' h => ?_
    cases r with
    | error e => exact (hCX H e s' h).elim
    | ok fl =>
      cases fl with
      | next => exact False.elim h
      | brk => exact False.elim h
      | cont => exact False.elim h
      | ret u =>
        obtain ⟨v, H', os, bare, un, hok', r', q⟩ := h
        have q' : v = .bl true := q
        subst q'
        obtain rfl : u = Value.bool true := r'
        refine ⟨rfl, OldK.of_keep fun b o e => ?_, os, bare⟩
        cases q : H b with
        | none => exact un.keep b o e q (by intro z; exact absurd (show b ∈ ([] : List Addr) from z) (by simp)) (by simp)
        | some u =>
          rcases hO b with z | ⟨ob, xs, z⟩
          · rw [q] at z; cases z
          · have z2 := un.frzs b ob _ z
            obtain ⟨e1, _⟩ := hok b _ z
            obtain ⟨e2, _⟩ := hok' b _ z2
            rw [e] at e1; cases e1
            exact e2
  cases hk : K.lookup a with
  | some o =>
    -- the script is one of the module's own objects
    have e := KX a o hk
    rw [ha] at e
    cases e
    refine core (fun _ => none) (fun _ => .inl rfl) (.inr ⟨_, vs.toArray, _, hk, rfl, rfl, rfl, by rw [List.size_toArray, lenV]; exact hl, by simpa using rv⟩) (fun b u z => by have z' : (none : Option HO) = some u := z; cases z') (fun b z => absurd rfl z) fun z => absurd rfl z
  | none =>
    refine core (fun b => if b = a then some (.frz { cls := .type "list", data := .seq vs.toArray } (.lst (ns.map V.int))) else none) (fun b => ?_) (.inl (.inr ⟨{ cls := .type "list", data := .seq vs.toArray }, if_pos rfl⟩)) (fun b u z => ?_) (fun b z => ?_) fun _ => hk
    · by_cases hb : b = a
      · exact .inr ⟨_, _, if_pos hb⟩
      · exact .inl (if_neg hb)
    · by_cases hb : b = a
      · have z' := (if_pos hb).symm.trans z
        cases z'
        subst hb
        exact ⟨ha, by rw [List.length_map]; exact hl, vs, _, rv, ha⟩
      · have z' := (if_neg hb).symm.trans z
        cases z'
    · by_cases hb : b = a
      · exact hb
      · exact absurd (if_neg hb) z
end L2
namespace L2
open PySem PySem.Spec PyProof.Rows
abbrev KOf {K : PySem.W.Frag} {h : Heap} (_ : K.In h) : PySem.W.Frag := K
theorem walk_of {l : PySem.W.OpenLaw} {n k : Nat} {q : Program} {loose : List Str} {XP : (Str → Option Value) → Heap → Prop} {YP : World → Heap → Prop} {d : DefRec} {K : Params → PySem.W.Frag} {CX : World → CXT} {sp : World → Sp} {x : Str}
    (hn : l.most = some n) (hn2 : n ≤ sizeLine) (hdf : d.params.defaults = []) (hr : Room k callerA)
    (hY : ∀ (w : World) (h : Heap), YP w h → (K w.params).In h)
    (F : ∀ (w : World) (mg : Str → Option Value) (fa : Addr) (h : Heap), (K w.params).In h → h.Ns mainGlobals mg → mg d.name = some (.ref fa) →
      ∃ fd : FuncData, (∀ (s : Shared) (u : Value), BindsTo s fd ⟨[u], []⟩ [(x, u)]) ∧
        ∀ base : Heap, (K w.params).In base → base.Ns mainGlobals mg → FnOk l.prog w (K w.params) mg base (CX w) k fa fd [x] (sp w))
    (hsp : ∀ (w : World) (H : Hp) (a : Addr) (ns : List Int), ns.length ≤ n → Only H → SqL (K w.params) H a (ns.map V.int) → sp w [.ref a] H (fun v _ => v = .bl true) fun _ _ _ => False)
    (hCX : ∀ (w : World) (H : Hp) (s : Shared) (e : Value) (s' : Shared), CX w [] H s (fun _ _ _ => False) e s' → False) :
    PySem.W.WalkO q loose XP YP l.row.toRowW d [] (fun f vs => PySem.call f vs) := by
  refine Att.attach_call hn hdf fun w s₀ s₁ mg mb fa o pm cd doc a vs ns G Y ho hd hcd hmg hobj hints hlen hg => ?_
  have KX := hY w _ Y
  obtain ⟨fd, hb, hF⟩ := F w mg fa _ KX G.T.g hmg
  exact law_call KX G.T.g G.T.b G.T.builtins G.T.nolimit hg hobj hints (Nat.le_trans hlen hn2) hr hF hb (fun H hO hS => hsp w H a ns hlen hO hS) fun H e s' => hCX w H s₁ e s'
theorem walk_ofK {l : PySem.W.OpenLaw} {n k : Nat} {q : Program} {loose : List Str} {XP : (Str → Option Value) → Heap → Prop} {YP : World → Heap → Prop} {d : DefRec} {K : Params → PySem.W.Frag} {CX : CXT} {sp : PySem.W.Frag → Sp} {x : Str}
    (hn : l.most = some n) (hn2 : n ≤ sizeLine) (hdf : d.params.defaults = []) (hr : Room k callerA)
    (hY : ∀ (w : World) (h : Heap), YP w h → (K w.params).In h)
    (F : ∀ (w : World) (mg : Str → Option Value) (fa : Addr) (h : Heap), (K w.params).In h → h.Ns mainGlobals mg → mg d.name = some (.ref fa) →
      ∃ fd : FuncData, (∀ (s : Shared) (u : Value), BindsTo s fd ⟨[u], []⟩ [(x, u)]) ∧
        ∀ base : Heap, (K w.params).In base → base.Ns mainGlobals mg → FnOk l.prog w (K w.params) mg base CX k fa fd [x] (sp (K w.params)))
    (hsp : ∀ (K : PySem.W.Frag) (H : Hp) (a : Addr) (ns : List Int), ns.length ≤ n → Only H → SqL K H a (ns.map V.int) → sp K [.ref a] H (fun v _ => v = .bl true) fun _ _ _ => False)
    (hCX : ∀ (H : Hp) (s : Shared) (e : Value) (s' : Shared), CX [] H s (fun _ _ _ => False) e s' → False) :
    PySem.W.WalkO q loose XP YP l.row.toRowW d [] (fun f vs => PySem.call f vs) :=
  walk_of (K := K) (CX := fun _ => CX) (sp := fun w => sp (K w.params)) hn hn2 hdf hr hY F (fun w H a ns h1 h2 h3 => hsp (K w.params) H a ns h1 h2 h3) fun _ H s e s' => hCX H s e s'
end L2
namespace L2
open PySem PySem.Spec PyProof.Rows
def defArgs (s : Stmt) : Arguments := match s with
  | .FunctionDef _ a _ _ _ _ _ _ _ _ => a
  | _ => { posonlyargs := [], args := [], vararg := none, kwonlyargs := [], kw_defaults := [], kwarg := none, defaults := [] }
def defBody (s : Stmt) : List Stmt := match s with
  | .FunctionDef _ _ b _ _ _ _ _ _ _ => b
  | _ => []
def defScope (s : Stmt) : Scope := match s with
  | .FunctionDef _ _ _ _ _ _ sc _ _ _ => sc
  | _ => { kind := .function, names := [], isGenerator := false, isCoroutine := false }
abbrev CX0 : CXT := fun _ _ _ _ _ _ => False
abbrev E0 : XK := fun _ _ _ => False
theorem pass0 {X : Cx} : Passes CX0 X E0 := fun _ _ _ _ _ _ _ h => h.elim
structure Fun (K : PySem.W.Frag) (x qual : Str) (st : Stmt) (f : Addr) (fd : FuncData) : Prop where
  ex : ∃ (oc : Value) (od : Option Addr) (kV doc pm : Value) (an : Option Addr) (cdv ct : Value) (osl : Array (Option Value)),
    fd = PySem.W.fnOf x qual (defArgs st) (defBody st) (defScope st) .none kV doc pm an cdv ct ∧ K.lookup f = some ⟨oc, od, .func fd, osl⟩ ∧ PySem.W.codeIn K cdv qual = true
  kp : PySem.W.keepIn K (.ref f) = true
section
variable {P : Program} {w : World} {K : PySem.W.Frag} {mg : Str → Option Value} {base : Heap}
theorem Fun.ok {x qual : Str} {st : Stmt} {f : Addr} {fd : FuncData} {N ps : List Str} {k : Nat} {sp : Sp} (F : Fun K x qual st f fd) (S : FnScope N ps (defScope st)) (len : ∀ vs H Q E, sp vs H Q E → vs.length = ps.length)
    (hbody : ∀ (cdv : Value) (A : Around) (outer : List Env) (s : Shared) (H : Hp) (vs : List V) (Q : VK) (E : XK), Room k (A.deeper (envOfC qual (defScope st) s.heap.objs.size f cdv)) → sp vs H Q E →
      ∃ t, PSs (cxOf CX0 P w K mg base N qual (defScope st) f cdv A outer s H E).nox (defBody st) t ∧ t { nx := fun _ H' => Q .non H', rt := Q } (start N vs) H) : FnOk P w K mg base CX0 (k + 1) f fd ps sp := by
  obtain ⟨oc, od, kV, doc, pm, an, cdv, ct, osl, rfl, lk, hcd⟩ := F.ex
  refine fn_of lk hcd S len fun A outer s H vs Q E hr hsp => ?_
  obtain ⟨t, h, q⟩ := hbody cdv A outer s H vs Q E hr hsp
  exact ⟨t, h.nox, q⟩
theorem Fun.binds {x qual : Str} {st : Stmt} {f : Addr} {fd : FuncData} {ps : List Str} (F : Fun K x qual st f fd)
    (h : ∀ (kV doc pm : Value) (an : Option Addr) (cdv ct : Value) (us : List Value), us.length = ps.length → bindArgs (PySem.W.fnOf x qual (defArgs st) (defBody st) (defScope st) .none kV doc pm an cdv ct) ⟨us, []⟩ = pure (ps.zip us)) : Binds K fd ps [] := by
  obtain ⟨oc, od, kV, doc, pm, an, cdv, ct, osl, rfl, lk, hcd⟩ := F.ex
  exact .all (h kV doc pm an cdv ct)
theorem fun_mk {x qual : Str} {st : Stmt} {f : Addr} {oc : Value} {od an : Option Addr} {osl : Array (Option Value)} {kV doc pm cdv ct : Value} (l : K.lookup f = some ⟨oc, od, .func (PySem.W.fnOf x qual (defArgs st) (defBody st) (defScope st) .none kV doc pm an cdv ct), osl⟩)
    (c : PySem.W.codeIn K cdv qual = true) (k : PySem.W.keepIn K (.ref f) = true) : Fun K x qual st f (PySem.W.fnOf x qual (defArgs st) (defBody st) (defScope st) .none kV doc pm an cdv ct) := ⟨⟨oc, od, kV, doc, pm, an, cdv, ct, osl, rfl, l, c⟩, k⟩
end
section
variable {X : Cx}
theorem pv (i : Nat) {x : Str} {pos : Pos} (hN : X.N[i]? = some x := by rfl) (hv : Vis X.env.scope x := by first | exact Or.inl rfl | exact Or.inr (Or.inl rfl) | exact Or.inr (Or.inr rfl)) (hd : (x == ("__debug__" : Str)) = false := by decide)
    (hcd : (x == ("__classdict__" : Str)) = false := by decide) : PE X (.Name x pos) (tVar i) := pe_var hN hv hd hcd
end
theorem iteF {A B : Prop} (h : B) : if false = true then A else B := by
  rw [if_neg Bool.false_ne_true]
  exact h
theorem iteT {A B : Prop} (h : A) : if true = true then A else B := by
  rw [if_pos rfl]
  exact h
theorem iteNS {c A B : Prop} [Decidable c] (hc : c) (h : B) : if (!decide c) = true then A else B := by
  rw [decide_eq_true hc]
  exact iteF h
def Same (H H' : Hp) : Prop := ∀ b o, H b = some o → H' b = some o
theorem Same.refl (H : Hp) : Same H H := fun _ _ h => h
theorem Same.trans {H H1 H2 : Hp} (a : Same H H1) (b : Same H1 H2) : Same H H2 := fun c o h => b c o (a c o h)
theorem Same.free {H H' : Hp} (e : Same H H') {l : Addr} (h : H' l = Option.none) : H l = Option.none := by
  cases q : H l with
  | none => rfl
  | some o =>
    rw [e l o q] at h
    cases h
theorem Same.seq {K : PySem.W.Frag} {H H' : Hp} {a : Addr} {xs : List V} (e : Same H H') (h : SqL K H a xs) : SqL K H' a xs := by
  rcases h with (h | ⟨o, h⟩) | h
  · exact .inl (.inl (e _ _ h))
  · exact .inl (.inr ⟨o, e _ _ h⟩)
  · exact .inr h
section
variable {κ : Type} [DecidableEq κ]
end
end L2
set_option maxHeartbeats 4000000
namespace L2
open PySem PySem.Spec PyProof.Rows
def compCx (X : Cx) (N' : List Str) (scope : Scope) (cl : List (Str × Addr)) (C : Addr) (s : Shared) (H : Hp) (fp : List Addr) : Cx :=
  { X with N := N', s₀ := s, H₀ := H, env := compEnvC scope cl C X.env, outer := X.stack, stack := X.stack, ex := fp, fn := fun _ => false, pn := [], xe := fun _ _ => False }
def AllL {α : Type} (P : α → Prop) : List α → Prop
  | [] => True
  | x :: r => P x ∧ AllL P r
theorem AllL.mem {α : Type} {P : α → Prop} : ∀ {l : List α}, AllL P l → ∀ x ∈ l, P x
  | [], _, x, hx => by simp at hx
  | y :: r, h, x, hx => by
    rcases List.mem_cons.mp hx with e | e
    · rw [e]; exact h.1
    · exact AllL.mem h.2 x e
theorem AllL.get {α : Type} {P : α → Prop} {l : List α} (h : AllL P l) {i : Nat} {x : α} (e : l[i]? = some x) : P x := h.mem x (List.mem_of_getElem? e)
structure FrAt (X : Cx) (scope : Scope) (cl : List (Str × Addr)) (p : Str × Nat) : Prop where
  nm : X.N[p.2]? = some p.1
  kx : X.env.kindOf p.1 = some .cell ∨ X.env.kindOf p.1 = some .free
  kc : (relabel scope X.env).names.lookup p.1 = some .cell ∨ (relabel scope X.env).names.lookup p.1 = some .free
  cl : ∃ c, cl.lookup p.1 = some c ∧ X.env.cells.lookup p.1 = some c
structure CompSc (X : Cx) (scope : Scope) (cl : List (Str × Addr)) (x : Str) (fr : List (Str × Nat)) : Prop where
  clos : closureFor scope X.env = pure cl
  kind : scope.kind = .function
  nocell : ∀ y ∈ scope.names, y.2 ≠ .cell
  locs : ∀ y ∈ scope.names, y.2 = .local → scope.names.lookup y.1 = some .local
  here : scope.names.lookup x = some .local
  nd : (x :: fr.map (·.1)).Nodup
  sub : AllL (fun p => X.env.cells.lookup p.1 = some p.2) cl
  has : ((relabel scope X.env).names.all fun p => !(p.2 == .cell || p.2 == .free) || (cl.lookup p.1).isSome) = true
  frs : AllL (FrAt X scope cl) fr
theorem mem_of_lk {α : Type} {x : Str} {v : α} : ∀ {l : List (Str × α)}, l.lookup x = some v → (x, v) ∈ l
  | [], h => by simp at h
  | (y, w) :: r, h => by
    cases hx : x == y with
    | true =>
      have e : x = y := beq_iff_eq.mp hx
      simp only [List.lookup_cons, hx] at h
      cases h
      subst e
      exact List.mem_cons_self
    | false =>
      simp only [List.lookup_cons, hx] at h
      exact List.mem_cons_of_mem _ (mem_of_lk h)
theorem CompSc.subL {X : Cx} {scope : Scope} {cl : List (Str × Addr)} {x : Str} {fr : List (Str × Nat)} (S : CompSc X scope cl x fr) : ∀ y c, cl.lookup y = some c → X.env.cells.lookup y = some c :=
  fun y c e => S.sub.mem (y, c) (mem_of_lk e)
def PTs (X : Cx) (ifs : List Expr) (t : TT) : Prop :=
  ∀ (pins : List (Addr × Obj)) (s : Shared) (σ : St) (H : Hp) (Q : Bool → Hp → Prop), Inv X pins σ H s → t σ H Q →
    wpAny (model X.prog X.w) X.A (forIn ifs true fun c r => if r = true then do let ok ← isTrue c X.env (eval c X.env); pure (ForInStep.yield ok) else pure (ForInStep.yield r)) (TP X pins σ Q) X.xe s
def tYes : TT := fun _ H Q => Q true H
theorem pts_nil {X : Cx} : PTs X [] tYes := fun _ _ _ H _ I h => wpAny_tests_nil ⟨H, I, h⟩
theorem pts_one {X : Cx} {c : Expr} {t : TT} (h : PT X c t) : PTs X [c] t := fun pins s σ H Q I hw => wpAny_tests_one (h pins s σ H Q I hw)
theorem compLoop_any {prog : Program} {w : World} {A : Around} {R : Result → Shared → Prop} {s : Shared} {elt target iter : Expr} {ifs : List Expr} {scope : Scope} {pos : Pos} {it acc : Value} {env : Env} (I : Nat → Shared → Prop)
    (turn : ∀ n s, I n s → wpAny (model prog w) A (pyNext it) (fun r s₁ => match r with
      | none => R (.ok .next) s₁
      | some v => wpAny (model prog w) A (letOwnedTupleGo target it v) (fun _ s₁' => wpAny (model prog w) A (assign target env v) (fun _ s₂ =>
          wpAny (model prog w) A (forIn ifs true fun c r => if r = true then do let ok ← isTrue c env (eval c env); pure (ForInStep.yield ok) else pure (ForInStep.yield r)) (fun ok s₃ =>
            if ok = true then wpAny (model prog w) A (eval elt env) (fun x s₄ =>
              wpAny (model prog w) A (call (.builtin "list.append") [acc, x]) (fun _ s₅ => ∃ m, m < n ∧ I m s₅) (notedBy (model prog w) A env fun e s' => R (.error e) s') s₄) (notedBy (model prog w) A env fun e s' => R (.error e) s') s₃
            else ∃ m, m < n ∧ I m s₃) (notedBy (model prog w) A env fun e s' => R (.error e) s') s₂) (notedBy (model prog w) A env fun e s' => R (.error e) s') s₁') (notedBy (model prog w) A env fun e s' => R (.error e) s') s₁) (notedBy (model prog w) A env fun e s' => R (.error e) s') s)
    (n : Nat) (h : I n s) :
    codeAny (model prog w) A (.compLoop (.ListComp elt [⟨target, iter, ifs, 0⟩] scope pos) 0 it acc env) R s := by
  refine codeAny_loop rfl I (fun n s hI => ?_) n h
  show wpAny _ A ((compTurn (.ListComp elt [⟨target, iter, ifs, 0⟩] scope pos) 0 it acc env).onRaise (fun x => do noteFrame x env; theTreesLotGoes x)) _ _ s
  refine wpAny_noted ?_
  rw [compTurn_list]
  refine wpAny_bind (wpAny_standAt (wpAny_bind (wpAny_mono (turn n s hI) (fun r s₁ h₁ => ?_) fun _ _ h' => h')))
  cases r with
  | none => exact wpAny_pure h₁
  | some v =>
    refine wpAny_bind (wpAny_mono h₁ (fun _ s₁' h₁' => ?_) fun _ _ h' => h')
    refine wpAny_bind (wpAny_mono h₁' (fun _ s₂ h₂ => wpAny_bind (wpAny_mono h₂ (fun ok s₃ h₃ => ?_) fun _ _ h' => h')) fun _ _ h' => h')
    cases ok with
    | false => exact wpAny_pure ⟨rfl, h₃⟩
    | true =>
      exact wpAny_bind (wpAny_bind (wpAny_mono h₃ (fun x s₄ h₄ => wpAny_bind (wpAny_mono h₄ (fun _ s₅ h₅ => wpAny_pure (wpAny_pure ⟨rfl, h₅⟩)) fun _ _ h' => h')) fun _ _ h' => h'))
def frv (fr : List (Str × Nat)) (σ : St) : St := fr.map fun p => (σ[p.2]?).join
def tLC (wi : TI) (fr : List (Str × Nat)) (tc : TT) (te : TE) : TE := fun σ H Q => wi σ H fun J H1 => ∃ W : Nat → Nat → List V → Hp → Prop, (∃ m, W 0 m [] H1) ∧ ∀ i m acc H, W i m acc H →
  (J.stop i H ∧ acc.length ≤ sizeLine ∧ ∀ p, H p = none → Q (.ref p) (upd H p (.lst acc))) ∨
  (J.go i H ∧ ∀ x H', J.yld i H x H' → tc (some x :: frv fr σ) H' fun b H2 => if b = true then te (some x :: frv fr σ) H2 fun v H3 => acc.length < sizeLine ∧ ∃ m', m' < m ∧ W (i + 1) m' (acc ++ [v]) H3
    else ∃ m', m' < m ∧ W (i + 1) m' acc H2)
section
variable {X : Cx} {x : Str} {px pos : Pos} {iter elt : Expr} {ifs : List Expr} {scope : Scope} {cl : List (Str × Addr)} {wi : TI} {tc : TT} {te : TE} {fr : List (Str × Nat)}
theorem compCx_ok {pins : List (Addr × Obj)} {σ : St} {H : Hp} {s : Shared} {fp : List Addr} {C : Addr} (S : CompSc X scope cl x fr) (I : Inv X pins σ H s) (hC : s.heap.objs.size ≤ C)
    (hf : ∀ b ∈ fp, FpOk X pins H b) (ho : ∀ b ∈ fp, ∃ o, s.heap.get? b = some o) : (compCx X (x :: fr.map (·.1)) scope cl C s H fp).Ok where
  mod := I.ok.mod
  kind := S.kind
  glob := I.ok.glob
  blt := I.ok.blt
  above := hC
  inj := fun y z c h1 h2 => I.ok.inj y z c (S.subL y c h1) (S.subL z c h2)
  has := fun y hy => by
    have all := List.all_eq_true.mp S.has
    have go : ∀ k, (k == NameKind.cell || k == NameKind.free) = true → (relabel scope X.env).names.lookup y = some k → ∃ c, cl.lookup y = some c := fun k hk e => by
      have q := all (y, k) (mem_of_lk e)
      have q' : (!(k == NameKind.cell || k == NameKind.free) || (cl.lookup y).isSome) = true := q
      rw [hk] at q'
      exact Option.isSome_iff_exists.mp (by simpa using q')
    rcases hy with hy | hy
    · exact go .cell rfl hy
    · exact go .free rfl hy
  cab := fun y c hfn _ => by cases hfn
  hd := I.ok.hd
  frames := I.ok.frames
  stk := .inl rfl
  exf := fun b hb => by
    obtain ⟨o, e⟩ := ho b hb
    exact ⟨Nat.ne_of_lt (Nat.lt_of_lt_of_le (Heap.lt_size e) hC), fun y c h => (hf b hb).2.2.2.2.1 y c (S.subL y c h)⟩
  bs := I.bs
  bsz := Nat.le_trans I.ok.bsz I.sz
  noex := fun b o e hb => by
    rcases (hf b hb).2.2.2.1 with z | z
    · exact I.ok.noex b o e z
    · exact absurd (Nat.lt_of_lt_of_le (Heap.lt_size e) (Nat.le_trans I.ok.bsz z)) (Nat.lt_irrefl _)
  exfs := fun b hb z => by
    rcases List.mem_cons.mp (I.stkSub b z) with e | e
    · exact (hf b hb).2.1 e
    · exact (hf b hb).2.2.1 e
  funs := I.stack
  frf := I.stkFree
theorem compCx_inv {pins : List (Addr × Obj)} {σ : St} {H : Hp} {s s' : Shared} {fp : List Addr} {C D : Addr} {oD : Obj} {m : Str → Option Value} (S : CompSc X scope cl x fr) (I : Inv X pins σ H s) (hC : s.heap.objs.size ≤ C)
    (hf : ∀ b ∈ fp, FpOk X pins H b) (ho : ∀ b ∈ fp, ∃ o, s.heap.get? b = some o) (os : s'.os = s.os) (bare : AllBare s'.gens) (old : ∀ b o, s.heap.get? b = some o → s'.heap.get? b = some o) (ns : s'.heap.Ns C m)
    (hD : s.heap.objs.size ≤ D) (hDC : D ≠ C) (eD : s'.heap.get? D = some oD) (dD : ∀ v, oD.data ≠ .cell v) :
    Inv (compCx X (x :: fr.map (·.1)) scope cl C s H fp) [(D, oD)] (none :: frv fr σ) H s' where
  ok := compCx_ok S I hC hf ho
  os := os
  bare := bare
  base := Un.kept old
  loc := by
    refine ⟨m, ns, fun i y v h1 h2 _ => ?_⟩
    cases i with
    | zero =>
      have h2' : some (none : Option V) = some (some v) := h2
      cases h2'
    | succ j =>
      have h1' : (fr.map (·.1))[j]? = some y := h1
      have h2' : (frv fr σ)[j]? = some (some v) := h2
      rw [List.getElem?_map] at h1'
      unfold frv at h2'
      rw [List.getElem?_map] at h2'
      cases e : fr[j]? with
      | none => rw [e] at h1'; cases h1'
      | some p =>
        rw [e] at h1' h2'
        have ey : p.1 = y := Option.some.inj h1'
        have ev : (σ[p.2]?).join = some v := Option.some.inj h2'
        have ev' : σ[p.2]? = some (some v) := by
          cases q : σ[p.2]? with
          | none => rw [q] at ev; cases ev
          | some w =>
            rw [q] at ev
            have : w = some v := ev
            rw [this]
        have F := S.frs.get e
        obtain ⟨c, c1, c2⟩ := F.cl
        obtain ⟨m', hn', hl'⟩ := I.loc
        have vis : Vis X.env.scope p.1 := by
          rcases F.kx with k | k
          · exact .inr (.inl k)
          · exact .inr (.inr k)
        obtain ⟨u, r, l⟩ := hl' p.2 p.1 v F.nm ev' vis
        rcases l with ⟨k, _⟩ | ⟨k, c', e', hc'⟩
        · rcases F.kx with k' | k' <;> · rw [k] at k'; cases k'
        · rw [c2] at e'
          cases e'
          subst ey
          refine ⟨u, r, .inr ⟨F.kc, c, c1, ?_⟩⟩
          obtain ⟨oc, hoc, hd⟩ := hc'
          exact ⟨oc, old _ _ hoc, hd⟩
  cell := fun y c e => by
    obtain ⟨v, oc, hoc, hd⟩ := I.cell y c (S.subL y c e)
    exact ⟨v, oc, old _ _ hoc, hd⟩
  free := I.hok.fresh hC
  freeC := fun y c e => I.freeC y c (S.subL y c e)
  pin := fun p hp => by
    have e : p = (D, oD) := by
      have : p ∈ ([] : List (Addr × Obj)) ++ [(D, oD)] := hp
      simpa using this
    subst e
    refine ⟨eD, I.hok.fresh hD, hDC, fun hb => ?_, dD⟩
    have hb' : D ∈ frs X.stack := hb
    have ok := compCx_ok S I hC hf ho
    obtain ⟨_, o, q, _⟩ := ok.funs.mem hb
    exact absurd (Nat.lt_of_lt_of_le (Heap.lt_size q) hD) (Nat.lt_irrefl _)
  hok := I.hok.kept old
  len := by
    show (none :: frv fr σ).length = (x :: fr.map (·.1)).length
    simp [frv]
abbrev oL (its : List Value) (n : Nat) : Obj := { cls := .type "list", data := .seq its.toArray n }
theorem oL_nc (its : List Value) (n : Nat) : ∀ v, (oL its n).data ≠ .cell v := fun v z => by
  have z' : Data.seq its.toArray n = Data.cell v := z
  cases z'
theorem comp_back {pins : List (Addr × Obj)} {σ σ' : St} {H H' : Hp} {s s' : Shared} {fp : List Addr} {C D : Addr} {its : List Value} {n : Nat} {acc : List V} {h'' : Heap} (I : Inv X pins σ H s) (hC : s.heap.objs.size ≤ C) (hD : s.heap.objs.size ≤ D) (hDC : D ≠ C)
    (hf : ∀ b ∈ fp, FpOk X pins H b) (J : Inv (compCx X (x :: fr.map (·.1)) scope cl C s H fp) [(D, oL its n)] σ' H' s') (r : Vals acc its) (hz : acc.length ≤ sizeLine) (sb : Heap.SameBut C s'.heap h'') :
    Inv X pins σ (upd H' D (.lst acc)) { s' with heap := h'' } := by
  have pD := J.pin (D, oL its n) (List.mem_append_right _ List.mem_cons_self)
  have nC : ∀ b o, s.heap.get? b = some o → b ≠ C := fun b o e => Nat.ne_of_lt (Nat.lt_of_lt_of_le (Heap.lt_size e) hC)
  have nD : ∀ b o, s.heap.get? b = some o → b ≠ D := fun b o e => Nat.ne_of_lt (Nat.lt_of_lt_of_le (Heap.lt_size e) hD)
  have HC : H' C = none := J.free
  have HD : H D = none := I.hok.fresh hD
  refine I.call' (ch := fp) J.os ⟨fun b o e k hb hx => ?_, fun b o e k hb hx => ?_, fun b o e k hx => ?_, fun b o e hx => ?_, fun b xs e => ?_, fun b o u e => ?_, fun b ps e => ?_⟩ (fun b u e => ?_) J.bare fun b hb => ?_
  · exact (sb.2 b (nC b o e)).trans (J.base.keep b o e k hb hx)
  · obtain ⟨sl, q⟩ := J.base.slot b o e k hb hx
    exact ⟨sl, (sb.2 b (nC b o e)).trans q⟩
  · rw [upd_ne (nD b o e)]
    exact J.base.free b o e k hx
  · obtain ⟨o', q⟩ := J.base.there b o e hx
    exact ⟨o', (sb.2 b (nC b o e)).trans q⟩
  · rw [upd_ne (ne_of_none e HD)]
    exact J.base.tups b xs e
  · rw [upd_ne (ne_of_none e HD)]
    exact J.base.frzs b o u e
  · rw [upd_ne (ne_of_none e HD)]
    exact J.base.tbls b ps e
  · by_cases hb : b = D
    · subst hb
      rw [upd_same] at e
      cases e
      exact ⟨hz, its, n, r, (sb.2 b hDC).trans pD.1⟩
    · rw [upd_ne hb] at e
      refine (J.hok b u e).stay (fun c v hc q => (sb.2 c ?_).trans q) (fun c q => ?_) fun c xs q => ?_
      · rcases hc with z | z
        · rw [z]; exact ne_of_none e HC
        · exact ne_of_none z HC
      · rw [upd_ne (ne_of_none q pD.2.1)]; exact q
      · rw [upd_ne (ne_of_none q pD.2.1)]; exact q
  · exact ⟨(hf b hb).2.2.2.1, (hf b hb).2.1, (hf b hb).2.2.2.2.1, (hf b hb).2.2.2.2.2⟩
theorem pe_lcomp (hc : X.calm = true) (hi : PI X (.Name x px) iter wi) (S : CompSc X scope cl x fr)
    (ht : ∀ C s H fp, PTs (compCx X (x :: fr.map (·.1)) scope cl C s H fp) ifs tc) (he : ∀ C s H fp, PE (compCx X (x :: fr.map (·.1)) scope cl C s H fp) elt te)
    (hs : ∀ v, foldedSetIterable iter X.env v = pure v := by intro _; rfl) : PE X (.ListComp elt [⟨.Name x px, iter, ifs, 0⟩] scope pos) (tLC wi fr tc te) := by
  intro pins s σ H Q I h
  rw [eval_ListComp]
  refine wpAny_comprehension_free (use := none) (cl := cl) rfl hs S.clos S.kind S.locs (thn (hi pins s σ H _ I h) fun v s1 h1 => thn h1 fun itv s2 h2 => ?_)
  obtain ⟨it, fp, tn, J, H2, e, I2, T, st2, f2, W, ⟨m0, w0⟩, turn⟩ := h2
  subst e
  refine wpAny_newObj_type (wpAny_newFunctionEnv S.nocell (by intro y hy; simp at hy) (fun h₁ hns₁ hsb₁ => ?_) S.kind)
  dsimp only at hns₁ hsb₁ ⊢
  generalize hHp : s2.heap.push { cls := .type "list", dict := none, data := .seq ([] : List Value).toArray } = hp at hns₁ hsb₁ ⊢
  have eC : hp.objs.size = s2.heap.objs.size + 1 := by rw [← hHp, Heap.size_push]
  have hDC : s2.heap.objs.size ≠ hp.objs.size := by rw [eC]; exact Nat.ne_of_lt (Nat.lt_succ_self _)
  have hC : s2.heap.objs.size ≤ hp.objs.size := by rw [eC]; exact Nat.le_succ _
  have hD : s2.heap.objs.size ≤ s2.heap.objs.size := Nat.le_refl _
  have nC : ∀ b o, s2.heap.get? b = some o → b ≠ hp.objs.size := fun b o e => Nat.ne_of_lt (Nat.lt_of_lt_of_le (Heap.lt_size e) hC)
  have nD : ∀ b o, s2.heap.get? b = some o → b ≠ s2.heap.objs.size := fun b o e => Nat.ne_of_lt (Heap.lt_size e)
  have old : ∀ b o, s2.heap.get? b = some o → h₁.get? b = some o := fun b o e => hsb₁.extBut b o (nC b o e) (Heap.get?_push_of_some _ (hHp ▸ Heap.get?_push_of_some _ e))
  have eD : h₁.get? s2.heap.objs.size = some (oL [] 0) := hsb₁.extBut _ _ hDC (Heap.get?_push_of_some _ (hHp ▸ Heap.get?_push_size _ rfl))
  have ho : ∀ b ∈ fp, ∃ o, s2.heap.get? b = some o := fun b hb => by
    obtain ⟨o, e, _⟩ := T.obj 0 _ st2 b hb
    exact ⟨o, e⟩
  have J0 : Inv (compCx X (x :: fr.map (·.1)) scope cl hp.objs.size s2 H2 fp) [(s2.heap.objs.size, oL [] 0)] (none :: frv fr σ) H2 { s2 with heap := h₁, toks := s2.toks + ([] : List (Str × Value)).length } :=
    compCx_inv S I2 hC f2 ho rfl I2.bare old hns₁ hD hDC eD (oL_nc [] 0)
  have fpne : ∀ b ∈ fp, b ≠ s2.heap.objs.size := fun b hb => by
    obtain ⟨o, e⟩ := ho b hb
    exact nD b o e
  have fpC : ∀ b ∈ fp, b ≠ hp.objs.size := fun b hb => by
    obtain ⟨o, e⟩ := ho b hb
    exact nC b o e
  have okX := J0.ok
  -- what stays true of the iterator's objects through the loop
  have stat : ∀ {H' : Hp} {oD : Obj}, (∀ b ∈ fp, H' b = none) → ∀ b ∈ fp, FpOk (compCx X (x :: fr.map (·.1)) scope cl hp.objs.size s2 H2 fp) [(s2.heap.objs.size, oD)] H' b := fun {H' oD} hn b hb =>
    ⟨hn b hb, fpC b hb, okX.exfs b hb, .inl hb, (okX.exf b hb).2, fun p hp' => by
      have e : p = (s2.heap.objs.size, oD) := by
        have : p ∈ ([] : List (Addr × Obj)) ++ [(s2.heap.objs.size, oD)] := hp'
        simpa using this
      rw [e]
      exact (fpne b hb).symm⟩
  have st1 : tn 0 h₁ := T.keep _ _ _ st2 fun b _ o e => old b o e
  have loop : ∀ s₃ : Shared, s₃ = { s2 with heap := h₁, toks := s2.toks + ([] : List (Str × Value)).length } →
      codeAny (model X.prog X.w) X.A (.compLoop (.ListComp elt [⟨.Name x px, iter, ifs, 0⟩] scope pos) 0 (.ref it) (.ref s2.heap.objs.size) (compEnvC scope cl hp.objs.size X.env))
        (compPost (model X.prog X.w) X.A X.xe none (EP X pins σ Q) (.ref s2.heap.objs.size) hp.objs.size) s₃ := by
    rintro s₃ rfl
    refine compLoop_any (fun n s' => ∃ i y H' acc its k, Inv (compCx X (x :: fr.map (·.1)) scope cl hp.objs.size s2 H2 fp) [(s2.heap.objs.size, oL its k)] (y :: frv fr σ) H' s' ∧ tn i s'.heap ∧ (∀ b ∈ fp, H' b = none) ∧ Vals acc its ∧ W i n acc H') ?_ m0
      ⟨0, none, H2, [], [], 0, J0, st1, fun b hb => (f2 b hb).1, .nil, w0⟩
    rintro n s3 ⟨i, y, H3, acc, its, k, I3, st3, fr3, rv, w3⟩
    have noE : ∀ {α : Type} {t : Sem α} {Q' : α → Shared → Prop} {s' : Shared} {E' : Value → Shared → Prop}, wpAny (model X.prog X.w) X.A t Q' (fun _ _ => False) s' → wpAny (model X.prog X.w) X.A t Q' E' s' := fun {α t Q' s' E'} h => wpAny_mono h (fun _ _ q => q) fun _ _ z => z.elim
    rcases turn i n acc H3 w3 with ⟨stop, hz, qn⟩ | ⟨go, step⟩
    · refine thn (T.done (compCx X (x :: fr.map (·.1)) scope cl hp.objs.size s2 H2 fp) rfl rfl rfl hc i _ s3 _ H3 _ I3 (stat fr3) st3 stop) fun r s4 ⟨hr, I4⟩ => ?_
      subst hr
      obtain ⟨m4, hn4, _⟩ := I4.loc
      have pD := I4.pin (s2.heap.objs.size, oL its k) (List.mem_append_right _ List.mem_cons_self)
      refine ⟨m4, hn4, fun h'' sb => ⟨.ref s2.heap.objs.size, _, comp_back I2 hC hD hDC f2 I4 rv hz sb, rfl, qn _ pD.2.1⟩⟩
    · refine thn (T.item (compCx X (x :: fr.map (·.1)) scope cl hp.objs.size s2 H2 fp) rfl rfl rfl hc i _ s3 _ H3 _ I3 (stat fr3) st3 go) fun r s4 ⟨u, hr, h4⟩ => ?_
      subst hr
      refine thn h4 fun _ s5 ⟨xv, H5, I5, r5, y5, st5, fr5⟩ => ?_
      have I5' := I5.pinned (stat fr5) (T.obj _ _ st5)
      have hx' : (relabel scope X.env).names.lookup x = some .local := lookup_relabel_local S.here
      refine wpAny_assign_Name (store_ok (i := 0) I5' S.nd rfl (.inl hx') r5 (fun s6 I6 => ?_) (.inr hx'))
      have I6' : Inv (compCx X (x :: fr.map (·.1)) scope cl hp.objs.size s2 H2 fp) ([(s2.heap.objs.size, oL its k)] ++ pinsAt fp s5.heap) (some xv :: frv fr σ) H5 s6 := I6
      refine noE (thn (ht _ _ _ _ _ s6 _ H5 _ I6' (step xv H5 y5)) fun b s7 ⟨H7, I7, q7⟩ => ?_)
      have back : ∀ {σ8 : St} {H8 : Hp} {s8 : Shared}, Inv (compCx X (x :: fr.map (·.1)) scope cl hp.objs.size s2 H2 fp) ([(s2.heap.objs.size, oL its k)] ++ pinsAt fp s5.heap) σ8 H8 s8 → tn (i + 1) s8.heap ∧ ∀ b ∈ fp, H8 b = none := fun {σ8 H8 s8} I8 => by
        refine ⟨T.keep _ _ _ st5 fun b hb o e => (I8.pin (b, o) (List.mem_append_right _ (List.mem_append_right _ (mem_pinsAt hb e)))).1, fun b hb => ?_⟩
        obtain ⟨o, e, d⟩ := T.obj _ _ st5 b hb
        exact (I8.pin (b, o) (List.mem_append_right _ (List.mem_append_right _ (mem_pinsAt hb e)))).2.1
      cases b with
      | false =>
        rw [if_neg Bool.false_ne_true] at q7 ⊢
        obtain ⟨m', hm, w7⟩ := q7
        obtain ⟨t7, n7⟩ := back I7
        exact ⟨m', hm, i + 1, _, H7, acc, its, k, I7.unpinned, t7, n7, rv, w7⟩
      | true =>
        rw [if_pos rfl] at q7 ⊢
        refine noE (thn (he _ _ _ _ _ s7 _ H7 _ I7 q7) fun u8 s8 ⟨v8, H8, I8, r8, hlt, m', hm, w8⟩ => ?_)
        obtain ⟨t8, n8⟩ := back I8
        have pD := I8.pin (s2.heap.objs.size, oL its k) (List.mem_append_right _ (List.mem_append_left _ List.mem_cons_self))
        have hl := rv.length
        refine wpAny_list_append_plain (items := its.toArray) ⟨k, pD.1⟩ (fun h9 ⟨k9, e9⟩ sb9 => ?_) (by rw [List.size_toArray]; omega)
        have e9' : h9.get? s2.heap.objs.size = some (oL (its ++ [u8]) k9) := by
          rw [e9]
          simp [oL]
        have I9 : Inv (compCx X (x :: fr.map (·.1)) scope cl hp.objs.size s2 H2 fp) [] (some xv :: frv fr σ) H8 { s8 with heap := h9, toks := s8.toks } :=
          (I8.pins_of (pins' := []) fun p z => absurd z (by simp)).turned (it := s2.heap.objs.size) (fun b o hb e => (sb9.2 b hb).trans e) pD.2.1 hDC (.inr hD) (fun y c e z => by
            obtain ⟨w', oc, hoc, hd⟩ := I8.cell y c e
            rw [z, pD.1] at hoc
            cases hoc
            exact oL_nc _ _ _ hd) fun p z => absurd (show p ∈ ([] : List (Addr × Obj)) ++ [] from z) (by simp)
        refine ⟨m', hm, i + 1, _, H8, acc ++ [v8], its ++ [u8], k9, I9.pins_of fun p z => ?_, T.keep _ _ _ t8 fun b hb o e => (sb9.2 b (fpne b hb)).trans e, n8, rv.append (.cons r8 .nil), w8⟩
        have e : p = (s2.heap.objs.size, oL (its ++ [u8]) k9) := by simpa using z
        subst e
        exact ⟨e9', pD.2.1, pD.2.2.1, pD.2.2.2.1, oL_nc _ _⟩
  exact codeAny_compStart_list (loop _ rfl) (T.self _ 0 _ _ _ st1 (loop _ rfl))
end
theorem lc_range {lo : Int} {n : Nat} {fr : List (Str × Nat)} {te : TE} {σ : St} {H : Hp} {Qp : Addr → List V → Hp → Prop} (f : Nat → V) (hn : n ≤ sizeLine)
    (hf : ∀ i, i < n → ∀ Q' : VK, Q' (f i) H → te (some (.int (lo + i)) :: frv fr σ) H Q') (hq : ∀ p, H p = none → Qp p ((List.range n).map f) H) :
    ∃ W : Nat → Nat → List V → Hp → Prop, (∃ m, W 0 m [] H) ∧ ∀ i m acc H, W i m acc H →
      ((Itr lo n).stop i H ∧ acc.length ≤ sizeLine ∧ ∀ p, H p = none → Qp p acc H) ∨
      ((Itr lo n).go i H ∧ ∀ x H', (Itr lo n).yld i H x H' → tYes (some x :: frv fr σ) H' fun b H2 => if b = true then te (some x :: frv fr σ) H2 fun v H3 => acc.length < sizeLine ∧ ∃ m', m' < m ∧ W (i + 1) m' (acc ++ [v]) H3
        else ∃ m', m' < m ∧ W (i + 1) m' acc H2) := by
  refine ⟨fun i m acc H' => H' = H ∧ i ≤ n ∧ m = n - i ∧ acc = (List.range i).map f, ⟨n, rfl, Nat.zero_le _, by simp, rfl⟩, ?_⟩
  rintro i m acc H' ⟨rfl, hi, rfl, rfl⟩
  have el : ((List.range i).map f).length = i := by simp
  by_cases hlt : i < n
  · refine .inr ⟨hlt, fun x H1 y => ?_⟩
    obtain ⟨e, y⟩ := y
    subst e y
    dsimp only [tYes]
    rw [if_pos rfl]
    refine hf i hlt _ ⟨by rw [el]; omega, n - (i + 1), by omega, rfl, hlt, rfl, ?_⟩
    rw [List.range_succ, List.map_append]
    rfl
  · have e : i = n := by omega
    subst e
    exact .inl ⟨Nat.le_refl _, by rw [el]; exact hn, hq⟩
end L2
namespace L2
open PySem PySem.Spec PyProof.Rows
section
variable {X : Cx}
theorem bo_int : bootBuiltins "int" = some (.type "int") := by decide +kernel
theorem bo_len : bootBuiltins "len" = some (.builtin "len") := by decide +kernel
end
end L2
namespace L2
open PySem PySem.Spec PyProof.Rows
mutual
inductive DRd (K : PySem.W.Frag) (H : Hp) : V → PyData → Prop where
  | non : DRd K H .non .none
  | bl (b : Bool) : DRd K H (.bl b) (.bool b)
  | int (i : Int) : DRd K H (.int i) (.int i)
  | str (x : Str) : DRd K H (.str x) (.str x)
  | lst {a : Addr} {xs : List V} {ds : List PyData} (h : SqL K H a xs) (r : DRds K H xs ds) : DRd K H (.ref a) (.list ds)
  | tup {a : Addr} {xs : List V} {ds : List PyData} (h : SqT K H a xs) (r : DRds K H xs ds) : DRd K H (.ref a) (.tuple ds)
inductive DRds (K : PySem.W.Frag) (H : Hp) : List V → List PyData → Prop where
  | nil : DRds K H [] []
  | cons {x : V} {d : PyData} {xs : List V} {ds : List PyData} (h : DRd K H x d) (r : DRds K H xs ds) : DRds K H (x :: xs) (d :: ds)
end
section
variable {X : Cx} {pins : List (Addr × Obj)} {σ : St} {H : Hp} {s : Shared}
mutual
theorem drd_reads (I : Inv X pins σ H s) : ∀ {x : V} {d : PyData}, DRd X.K H x d → ∀ {u : Value}, RelV x u → ∃ as, Reads s.heap u d as
  | _, _, .non, u, r => by cases (show u = Value.none from r); exact ⟨_, .none⟩
  | _, _, .bl b, u, r => by cases (show u = Value.bool b from r); exact ⟨_, .bool b⟩
  | _, _, .int i, u, r => by obtain ⟨t, e⟩ := (show ∃ t, u = Value.int i t from r); cases e; exact ⟨_, .int i t⟩
  | _, _, .str x, u, r => by obtain ⟨t, e⟩ := (show ∃ t, u = Value.str x t from r); cases e; exact ⟨_, .str x t⟩
  | _, _, .lst (a := a) h rs, u, r => by
    cases (show u = Value.ref a from r)
    obtain ⟨its, rv, p, _⟩ := I.list h
    obtain ⟨o, e, c, n, d⟩ := p.isList
    obtain ⟨as, q⟩ := drds_reads I rs rv
    exact ⟨_, .list e c d (by simpa using q)⟩
  | _, _, .tup (a := a) h rs, u, r => by
    cases (show u = Value.ref a from r)
    obtain ⟨its, rv, p, _⟩ := I.tuple h
    obtain ⟨o, e, c, n, d⟩ := p
    obtain ⟨as, q⟩ := drds_reads I rs rv
    exact ⟨_, .tuple e c d (by simpa using q)⟩
theorem drds_reads (I : Inv X pins σ H s) : ∀ {xs : List V} {ds : List PyData}, DRds X.K H xs ds → ∀ {us : List Value}, Vals xs us → ∃ as, ReadsAll s.heap us ds as
  | _, _, .nil, _, .nil => ⟨_, .nil⟩
  | _, _, .cons h r, _, .cons v vs => by
    obtain ⟨as, q⟩ := drd_reads I h v
    obtain ⟨bs, q'⟩ := drds_reads I r vs
    exact ⟨_, .cons q q'⟩
end
end
section
variable {X : Cx}
end
end L2
namespace L2
open PySem PySem.Spec PyProof.Rows
def IntG (mg : Str → Option Value) (x : Str) (n : Int) : Prop := ∃ t, mg x = some (.int n t)
def Raw (K : PySem.W.Frag) (mg : Str → Option Value) (x : Str) (st : Stmt) : Prop := ∃ f fd, mg x = some (.ref f) ∧ Fun K x x st f fd
def GF (P : Program) (w : World) (K : PySem.W.Frag) (mg : Str → Option Value) (base : Heap) (x : Str) (ps : List Str) (k : Nat) (sp : Sp) : Prop :=
  ∃ f fd, mg x = some (.ref f) ∧ (∃ oc od osl, K.lookup f = some ⟨oc, od, .func fd, osl⟩) ∧ PySem.W.keepIn K (.ref f) = true ∧ Binds K fd ps [] ∧ FnOk P w K mg base CX0 k f fd ps sp
def RawC (K : PySem.W.Frag) (mg : Str → Option Value) (x q : Str) (C : Addr) (st : Stmt) : Prop := mg x = some (.ref C) ∧ ∃ f fd, Mk K C f ∧ Fun K "__init__" q st f fd
def GC (P : Program) (w : World) (K : PySem.W.Frag) (mg : Str → Option Value) (base : Heap) (x : Str) (C : Addr) (ps : List Str) (k : Nat) (sp : Sp) : Prop :=
  mg x = some (.ref C) ∧ ∃ f fd, Mk K C f ∧ Binds K fd ps [] ∧ FnOk P w K mg base CX0 k f fd ps sp
section
variable {P : Program} {w : World} {K : PySem.W.Frag} {mg : Str → Option Value} {base : Heap} {x : Str} {st : Stmt} {N ps : List Str} {k : Nat} {sp : Sp}
theorem GF.mk (R : Raw K mg x st) (S : FnScope N ps (defScope st))
    (hb : ∀ (kV doc pm : Value) (an : Option Addr) (cdv ct : Value) (us : List Value), us.length = ps.length → bindArgs (PySem.W.fnOf x x (defArgs st) (defBody st) (defScope st) .none kV doc pm an cdv ct) ⟨us, []⟩ = pure (ps.zip us))
    (len : ∀ vs H Q E, sp vs H Q E → vs.length = ps.length)
    (hbody : ∀ (f : Addr) (cdv : Value) (A : Around) (outer : List Env) (s : Shared) (H : Hp) (vs : List V) (Q : VK) (E : XK), Room k (A.deeper (envOfC x (defScope st) s.heap.objs.size f cdv)) → sp vs H Q E →
      ∃ t, PSs (cxOf CX0 P w K mg base N x (defScope st) f cdv A outer s H E).nox (defBody st) t ∧ t { nx := fun _ H' => Q .non H', rt := Q } (start N vs) H) : GF P w K mg base x ps (k + 1) sp := by
  obtain ⟨f, fd, e, F⟩ := R
  have lk : ∃ oc od osl, K.lookup f = some ⟨oc, od, .func fd, osl⟩ := by
    obtain ⟨oc, od, kV, doc, pm, an, cdv, ct, osl, _, lk, _⟩ := F.ex
    exact ⟨oc, od, osl, lk⟩
  exact ⟨f, fd, e, lk, F.kp, F.binds hb, F.ok S len fun cdv A outer s H vs Q E hr h => hbody f cdv A outer s H vs Q E hr h⟩
theorem GC.mk {q : Str} {C : Addr} (R : RawC K mg x q C st) (S : FnScope N ps (defScope st))
    (hb : ∀ (kV doc pm : Value) (an : Option Addr) (cdv ct : Value) (us : List Value), us.length = ps.length → bindArgs (PySem.W.fnOf "__init__" q (defArgs st) (defBody st) (defScope st) .none kV doc pm an cdv ct) ⟨us, []⟩ = pure (ps.zip us))
    (len : ∀ vs H Q E, sp vs H Q E → vs.length = ps.length)
    (hbody : ∀ (f : Addr) (cdv : Value) (A : Around) (outer : List Env) (s : Shared) (H : Hp) (vs : List V) (Q : VK) (E : XK), Room k (A.deeper (envOfC q (defScope st) s.heap.objs.size f cdv)) → sp vs H Q E →
      ∃ t, PSs (cxOf CX0 P w K mg base N q (defScope st) f cdv A outer s H E).nox (defBody st) t ∧ t { nx := fun _ H' => Q .non H', rt := Q } (start N vs) H) : GC P w K mg base x C ps (k + 1) sp := by
  obtain ⟨e, f, fd, M, F⟩ := R
  exact ⟨e, f, fd, M, F.binds hb, F.ok S len fun cdv A outer s H vs Q E hr h => hbody f cdv A outer s H vs Q E hr h⟩
theorem GF.fn {f : Addr} {fd : FuncData} {oc : Value} {od : Option Addr} {osl : Array (Option Value)} (G : GF P w K mg base x ps k sp) (e : mg x = some (.ref f)) (l : K.lookup f = some ⟨oc, od, .func fd, osl⟩) : FnOk P w K mg base CX0 k f fd ps sp := by
  obtain ⟨f', fd', e', ⟨oc', od', osl', l'⟩, _, _, F⟩ := G
  rw [e] at e'
  cases e'
  rw [l] at l'
  have q : fd = fd' := by
    have q1 := congrArg Obj.data (Option.some.inj l')
    have q2 : Data.func fd = Data.func fd' := q1
    injection q2
  rw [q]
  exact F
theorem raw_mk {h : Heap} {f : Addr} {oc : Value} {od an : Option Addr} {osl : Array (Option Value)} {kV doc pm cdv ct : Value} (X : K.In h) (G : h.Ns mainGlobals mg) (a : PySem.W.nsIn K mainGlobals x = some (some (.ref f)))
    (l : K.lookup f = some ⟨oc, od, .func (PySem.W.fnOf x x (defArgs st) (defBody st) (defScope st) .none kV doc pm an cdv ct), osl⟩) (c : PySem.W.codeIn K cdv x = true) (k : PySem.W.keepIn K (.ref f) = true) : Raw K mg x st :=
  ⟨f, _, PySem.W.mg_of X G a, fun_mk l c k⟩
theorem int_mk {h : Heap} {n : Int} {t : Tok} (X : K.In h) (G : h.Ns mainGlobals mg) (a : PySem.W.nsIn K mainGlobals x = some (some (.int n t))) : IntG mg x n := ⟨t, PySem.W.mg_of X G a⟩
end
section
variable {X : Cx} {x : Str} {ps : List Str} {k : Nat} {sp : Sp} {e : Expr} {es : List Expr} {t : TA} {p pos : Pos} {C : Addr}
theorem pe_gcall (G : GF X.prog X.w X.K X.mg X.base x ps k sp) (hr : Room k X.A) (hg : Gl X x) (ha : PA X (e :: es) t) (hdb : (x == ("__debug__" : Str)) = false := by decide)
    (he : starEach (e :: es) X.env = (false, eval e X.env) :: starEach es X.env := by rfl) (hpl : (backTo pos (starEach es X.env)).any (·.1) = false := by rfl) : PE X (.Call (.Name x p) (e :: es) [] pos) (tCall sp [] E0 t) := by
  obtain ⟨f, fd, hm, _, hk, hb, F⟩ := G
  exact pe_call F hr hg hm hk hb .nil pass0 ha hdb he hpl
theorem pe_gint {n : Int} (hg : Gl X x) (h : IntG X.mg x n) (hd : (x == ("__debug__" : Str)) = false := by decide) : PE X (.Name x pos) (tC (.int n)) := by
  obtain ⟨t, e⟩ := h
  exact pe_glob hg e ⟨t, rfl⟩ hd
def tCut (t : TS) : TS := fun D σ H => ∃ R : St → Hp → Prop, t { D with nx := R } σ H ∧ ∀ σ' H', R σ' H' → D.nx σ' H'
theorem ps_cut {st : Stmt} {t : TS} (h : PS X st t) : PS X st (tCut t) := by
  intro pins s σ H D I hw
  obtain ⟨R, h1, h2⟩ := hw
  refine thn (h pins s σ H _ I h1) fun f s1 q => ?_
  cases f with
  | next =>
    obtain ⟨σ', H', I', q⟩ := q
    exact ⟨σ', H', I', h2 σ' H' q⟩
  | ret v => exact q
  | brk => exact q
  | cont => exact q
end
section
variable {σ : St} {H : Hp} {D : Ends} {Q : VK} {QT : Bool → Hp → Prop}
theorem atI_ints {ns : List Int} {i : Int} (h0 : 0 ≤ i) (h1 : i < (ns.length : Int)) : atI (ns.map V.int) i = some (.int (ns.getD i.toNat 0)) := by
  unfold atI ixN
  rw [if_pos h0, List.length_map, if_pos h1]
  show (ns.map V.int)[i.toNat]? = _
  have h2 : i.toNat < ns.length := by omega
  rw [List.getElem?_map, List.getElem?_eq_getElem h2, List.getD_eq_getElem?_getD, List.getElem?_eq_getElem h2]
  rfl
theorem ixN_ints {n : Nat} {i : Int} (h0 : 0 ≤ i) (h1 : i < (n : Int)) : ixN n i = some i.toNat := by
  unfold ixN
  rw [if_pos h0, if_pos h1]
theorem iteD {c A B : Prop} [Decidable c] (h1 : c → A) (h2 : ¬ c → B) : if decide c = true then A else B := by
  by_cases h : c
  · rw [if_pos (decide_eq_true h)]
    exact h1 h
  · rw [if_neg (by simp [h])]
    exact h2 h
theorem iteN {c A B : Prop} [Decidable c] (h1 : ¬ c → A) (h2 : c → B) : if (!decide c) = true then A else B := by
  by_cases h : c
  · rw [decide_eq_true h]
    exact iteF (h2 h)
  · rw [decide_eq_false h]
    exact iteT (h1 h)
end
end L2
namespace Sx
open PySem L2
section
variable {σ : St} {H : Hp} {Q : VK} {QT : Bool → Hp → Prop} {QA : List V → Hp → Prop} {D : Ends} {K : PySem.W.Frag} {ta tb tc : TE} {t u : TS} {c c' : TT} {r r' : R2} {E : XK}
theorem var {i : Nat} {v : V} (e : σ[i]? = some (some v)) (q : Q v H) : tVar i σ H Q := ⟨v, e, q⟩
theorem cst {v : V} (q : Q v H) : tC v σ H Q := q
theorem op (h : ta σ H fun x H1 => tb σ H1 fun y H2 => r x y H2 Q) : tOp r ta tb σ H Q := h
theorem un {r : V → Hp → VK → Prop} (h : ta σ H fun x H1 => r x H1 Q) : tUn r ta σ H Q := h
theorem i0 {g : Int → Int → V} {i j : Int} (q : Q (g i j) H) : rI0 g (.int i) (.int j) H Q := ⟨i, j, rfl, rfl, q⟩
theorem iC {C : Int → Int → Prop} {g : Int → Int → V} {i j : Int} (c : C i j) (q : Q (g i j) H) : rI C g (.int i) (.int j) H Q := ⟨i, j, rfl, rfl, c, q⟩
theorem eqI {i j : Int} (q : Q (.bl (decide (i = j))) H) : rEq (.int i) (.int j) H Q := ⟨rfl, by
  have e : decide (V.int i = V.int j) = decide (i = j) := by rw [Bool.eq_iff_iff]; simp
  rw [e]; exact q⟩
theorem neI {i j : Int} (q : Q (.bl (!decide (i = j))) H) : rNe (.int i) (.int j) H Q := ⟨rfl, by
  have e : decide (V.int i = V.int j) = decide (i = j) := by rw [Bool.eq_iff_iff]; simp
  rw [e]; exact q⟩
theorem eqB {i j : Bool} (q : Q (.bl (decide (i = j))) H) : rEq (.bl i) (.bl j) H Q := ⟨rfl, by
  have e : decide (V.bl i = V.bl j) = decide (i = j) := by rw [Bool.eq_iff_iff]; simp
  rw [e]; exact q⟩
theorem neB {i j : Bool} (q : Q (.bl (!decide (i = j))) H) : rNe (.bl i) (.bl j) H Q := ⟨rfl, by
  have e : decide (V.bl i = V.bl j) = decide (i = j) := by rw [Bool.eq_iff_iff]; simp
  rw [e]; exact q⟩
theorem eqS {i j : Str} (q : Q (.bl (decide (i = j))) H) : rEq (.str i) (.str j) H Q := ⟨rfl, by
  have e : decide (V.str i = V.str j) = decide (i = j) := by rw [Bool.eq_iff_iff]; simp
  rw [e]; exact q⟩
theorem neS {i j : Str} (q : Q (.bl (!decide (i = j))) H) : rNe (.str i) (.str j) H Q := ⟨rfl, by
  have e : decide (V.str i = V.str j) = decide (i = j) := by rw [Bool.eq_iff_iff]; simp
  rw [e]; exact q⟩
theorem test (h : ta σ H fun x H' => ∃ k, x = .bl k ∧ QT k H') : tTest ta σ H QT := h
theorem tB (h : ta σ H fun x H' => ∃ k, x = .bl k ∧ QT k H') : tB ta σ H QT := h
theorem isbl {b : Bool} {P : Bool → Prop} (q : P b) : ∃ k, V.bl b = .bl k ∧ P k := ⟨b, rfl, q⟩
theorem and (h : c σ H fun b H1 => if b = true then c' σ H1 QT else QT false H1) : tAnd c c' σ H QT := h
theorem or (h : c σ H fun b H1 => if b = true then QT true H1 else c' σ H1 QT) : tOr c c' σ H QT := h
theorem not (h : c σ H fun b H1 => QT (!b) H1) : tNot c σ H QT := h
theorem andV (h : ta σ H fun x H1 => ∃ c, x = .bl c ∧ if c = true then tb σ H1 Q else Q (.bl false) H1) : tAndV ta tb σ H Q := h
theorem orV (h : ta σ H fun x H1 => ∃ c, x = .bl c ∧ if c = true then Q (.bl true) H1 else tb σ H1 Q) : tOrV ta tb σ H Q := h
theorem notV (h : ta σ H fun x H1 => ∃ c, x = .bl c ∧ Q (.bl (!c)) H1) : tNotV ta σ H Q := h
theorem ifE (h : c σ H fun b H1 => if b = true then ta σ H1 Q else tb σ H1 Q) : tIf c ta tb σ H Q := h
theorem chain (h : ta σ H fun x H1 => tb σ H1 fun y H2 => r x y H2 fun z H3 => ∃ k, z = .bl k ∧ (if k = true then tc σ H3 fun w' H4 => r' y w' H4 Q else Q (.bl false) H3)) : tChain r r' ta tb tc σ H Q := h
theorem fld {f : Str} (h : ta σ H fun x H1 => ∃ a C dx fs v, x = .ref a ∧ H1 a = some (.ins C dx fs) ∧ Cls K C ∧ NoAttr K C f ∧ fs.lookup f = some v ∧ Q v H1) : tFld K ta f σ H Q := h
theorem next (h : D.nx σ H) : tNext D σ H := h
theorem seq (h : t { D with nx := u D } σ H) : tSeq t u D σ H := h
theorem drop (h : ta σ H fun _ H1 => D.nx σ H1) : tDrop ta D σ H := h
theorem ret (h : ta σ H D.rt) : tRet ta D σ H := h
theorem retN (h : D.rt .non H) : tRetN D σ H := h
theorem ifS (h : c σ H fun b H1 => if b = true then t D σ H1 else u D σ H1) : tIfS c t u D σ H := h
theorem asg {g : TG} (h : ta σ H fun x H1 => g x σ H1 D.nx) : tAsg ta g D σ H := h
theorem nm {i : Nat} {v : V} {q : St → Hp → Prop} (h : q (σ.set i (some v)) H) : gName i v σ H q := h
theorem sub {tset : TSet} {v : V} {q : St → Hp → Prop} (h : ta σ H fun o H1 => tb σ H1 fun i H2 => tset o i v H2 fun H3 => q σ H3) : gSub ta tb tset v σ H q := h
theorem call {sp : Sp} {dvs : List V} {a : TA} (h : a σ H fun vs H1 => sp (vs ++ dvs) H1 Q E) : tCall sp dvs E a σ H Q := h
theorem callB {rr : List V → Hp → VK → Prop} {a : TA} (h : a σ H fun vs H1 => rr vs H1 Q) : tCB rr a σ H Q := h
theorem nil (h : QA [] H) : tNil σ H QA := h
theorem cons {a : TA} (h : ta σ H fun x H1 => a σ H1 fun xs H2 => QA (x :: xs) H2) : tCons ta a σ H QA := h
theorem tup {a : TA} (h : a σ H fun xs H1 => xs.length ≤ sizeLine ∧ ∀ p, H1 p = none → Q (.ref p) (upd H1 p (.tup xs))) : tTup a σ H Q := h
theorem lst {a : TA} (h : a σ H fun xs H1 => xs.length ≤ sizeLine ∧ ∀ p, H1 p = none → Q (.ref p) (upd H1 p (.lst xs))) : tLst a σ H Q := h
theorem ixL {p : Addr} {xs : List V} {i : Int} {v : V} (h : H p = some (.lst xs)) (e : atI xs i = some v) (q : Q v H) : rIxL K (.ref p) (.int i) H Q := ⟨p, xs, i, v, rfl, rfl, SqL.of h, e, q⟩
theorem ixT {p : Addr} {xs : List V} {i : Int} {v : V} (h : H p = some (.tup xs)) (e : atI xs i = some v) (q : Q v H) : rIxT K (.ref p) (.int i) H Q := ⟨p, xs, i, v, rfl, rfl, SqT.of h, e, q⟩
theorem ixN {p : Addr} {ns : List Int} {i : Int} (h : H p = some (.lst (ns.map V.int))) (h0 : 0 ≤ i) (h1 : i < (ns.length : Int)) (q : Q (.int (ns.getD i.toNat 0)) H) : rIxL K (.ref p) (.int i) H Q := ixL h (atI_ints h0 h1) q
theorem setN {p : Addr} {ns : List Int} {i v : Int} {q : Hp → Prop} (h : H p = some (.lst (ns.map V.int))) (h0 : 0 ≤ i) (h1 : i < (ns.length : Int)) (k : q (upd H p (.lst ((ns.set i.toNat v).map V.int)))) : rSetL (.ref p) (.int i) (.int v) H q :=
  ⟨p, _, i, _, rfl, rfl, h, ixN_ints h0 (by rw [List.length_map]; exact h1), by rw [← List.map_set]; exact k⟩
end
end Sx
namespace L2
open PySem PySem.Spec PyProof.Rows
def Ite (K : PySem.W.Frag) (a : Addr) : It :=
  ⟨fun i H => ∃ xs x, SqL K H a xs ∧ xs[i]? = some x, fun i H v H' => ∃ T x, v = .ref T ∧ H T = none ∧ (∀ xs, SqL K H a xs → xs[i]? = some x) ∧ H' = upd H T (.tup [.int i, x]), fun i H => ∃ xs, SqL K H a xs ∧ xs.length ≤ i⟩
theorem turn_enum {P : Program} {w : World} {K : PySem.W.Frag} {elts : List Expr} {x1} {pos : Pos} (a it e : Addr) (hne : e ≠ it) :
    Turn P w K (.Tuple elts x1 pos) (Ite K a) [e, it] e (fun i h => (∃ old, IsEnum h e it (i : Int) old) ∧ h.IsListIter it a i) where
  mem := by simp
  obj := fun i h st b hb => by
    obtain ⟨⟨old, he⟩, o, ho, c, d⟩ := st
    have hb' : b = e ∨ b = it := by simpa using hb
    rcases hb' with rfl | rfl
    · exact ⟨_, he, fun v z => by
        have z' : Data.fields _ = Data.cell v := z
        cases z'⟩
    · exact ⟨o, ho, fun v z => by rw [d] at z; cases z⟩
  keep := fun i h h' st k => by
    obtain ⟨⟨old, he⟩, hi⟩ := st
    exact ⟨⟨old, k e (by simp) _ he⟩, hi.at fun o q => k it (by simp) o q⟩
  item := by
    intro X hP hw hK hc i pins s σ H E I hf st hg
    subst hP hw hK
    obtain ⟨⟨old, he⟩, hit⟩ := st
    obtain ⟨xs, x, hq, hx⟩ := hg
    obtain ⟨its, rv, p, hz⟩ := I.list hq
    obtain ⟨u, hu, ru⟩ := rv.get hx
    have fe := hf e (by simp)
    have fi := hf it (by simp)
    refine wpAny_pyNext_enum_item he hit p.isList (x := u) (by simpa using hu) hne fun h1 ho hit1 hT hsz hk => ⟨_, rfl, wpAny_letOwnedTupleGo_enum ho fun h2 he2 hs2 => ?_⟩
    replace hs2 : Heap.SameBut e h1 h2 := hs2
    have fr : H s.heap.objs.size = none := I.hok.fresh (Nat.le_refl _)
    have neT : s.heap.objs.size ≠ e := fun z => by rw [z] at fr; exact absurd (Heap.lt_size he) (by rw [z]; exact Nat.lt_irrefl _)
    have keep : ∀ b o, b ≠ e → b ≠ it → s.heap.get? b = some o → h2.get? b = some o := fun b o n1 n2 q => (hs2.2 b n1).trans (hk b o n1 n2 q)
    have nT : ∀ b u, H b = some u → b ≠ s.heap.objs.size := fun b u q z => by rw [z, fr] at q; cases q
    have ne1 : ∀ b u, H b = some u → b ≠ e := fun b u q z => by rw [z, fe.1] at q; cases q
    have ne2 : ∀ b u, H b = some u → b ≠ it := fun b u q z => by rw [z, fi.1] at q; cases q
    refine ⟨.ref s.heap.objs.size, upd H s.heap.objs.size (.tup [.int i, x]), ?_, rfl, ⟨_, x, rfl, fr, fun ys hy => by rw [I.list_inj hy hq]; exact hx, rfl⟩, ⟨⟨_, by simpa using he2⟩, ?_⟩, fun b hb => ?_⟩
    · refine I.call' (ch := [e, it]) rfl ⟨fun b o q k hb hx => ?_, fun b o q k hb hx => ?_, fun b o q k hx => ?_, fun b o q hx => ?_, fun b xs q => ?_, fun b o u q => ?_, fun b ps q => ?_⟩ (fun b v q => ?_) I.bare fun b hb => ?_
      · exact keep b o (fun z => hx (by simp [z])) (fun z => hx (by simp [z])) q
      · exact ⟨o.slots, keep b o (fun z => hx (by simp [z])) (fun z => hx (by simp [z])) q⟩
      · rw [upd_ne (Nat.ne_of_lt (Heap.lt_size q))]; exact k
      · exact ⟨o, keep b o (fun z => hx (by simp [z])) (fun z => hx (by simp [z])) q⟩
      · rw [upd_ne (nT _ _ q)]; exact q
      · rw [upd_ne (nT _ _ q)]; exact q
      · exact ⟨#[], by rw [upd_ne (nT _ _ q), q]; simp⟩
      · by_cases hb : b = s.heap.objs.size
        · subst hb
          rw [upd_same] at q
          cases q
          exact ⟨by show 2 ≤ sizeLine; decide, [.int i s.toks, u], .cons ⟨_, rfl⟩ (.cons ru .nil), ⟨_, (hs2.2 _ neT).trans hT, rfl, _, rfl⟩⟩
        · rw [upd_ne hb] at q
          refine (I.hok b v q).stay (fun c v' hc q' => ?_) (fun c q' => ?_) fun c xs q' => ?_
          · rcases hc with z | z
            · exact keep c v' (by rw [z]; exact ne1 b v q) (by rw [z]; exact ne2 b v q) q'
            · exact keep c v' (ne1 c _ z) (ne2 c _ z) q'
          · rw [upd_ne (nT _ _ q')]; exact q'
          · rw [upd_ne (nT _ _ q')]; exact q'
      · have f := hf b hb
        exact ⟨f.2.2.2.1, f.2.1, f.2.2.2.2.1, f.2.2.2.2.2⟩
    · exact hit1.extBut hs2.extBut (Ne.symm hne)
    · have f := hf b hb
      rw [upd_ne fun z => ?_]
      · exact f.1
      · have hb' : b = e ∨ b = it := by simpa using hb
        rcases hb' with rfl | rfl
        · exact neT z.symm
        · obtain ⟨o, ho, _⟩ := hit
          exact absurd (Heap.lt_size ho) (by rw [z]; exact Nat.lt_irrefl _)
  done := by
    intro X hP hw hK hc i pins s σ H E I hf st hg
    subst hP hw hK
    obtain ⟨⟨old, he⟩, hit⟩ := st
    obtain ⟨xs, hq, hx⟩ := hg
    obtain ⟨its, rv, p, hz⟩ := I.list hq
    obtain ⟨f0, f1, f2, f3, f4, f5⟩ := hf it (by simp)
    have hl := rv.length
    exact wpAny_pyNext_enum_end (I.ok.hd hc) he hit p.isList (by simp; omega) fun h' eb => ⟨rfl, I.turned (t' := s.toks) (fun b o hb e => eb b o hb e) f0 f1 f3 f4 f5⟩
  self := fun _ _ _ _ _ st h => by
    obtain ⟨⟨old, he⟩, _⟩ := st
    exact wpAny_pyIter_enum he h
section
variable {X : Cx}
def iEnum (K : PySem.W.Frag) (ta : TA) : TI := fun σ H R => ta σ H fun vs H1 => ∃ a xs, vs = [.ref a] ∧ SqL K H1 a xs ∧ R (Ite K a) H1
theorem bo_enumerate : bootBuiltins "enumerate" = some (.type "enumerate") := by decide +kernel
theorem pi_enum {elts : List Expr} {x1} {tpos : Pos} {a : Expr} {ta : TA} {p pos : Pos} (hg : Gl X "enumerate") (hm : X.mg "enumerate" = none) (ha : PA X [a] ta) (hs : starEach [a] X.env = [(false, eval a X.env)] := by rfl) :
    PI X (.Tuple elts x1 tpos) (.Call (.Name "enumerate" p) [a] [] pos) (iEnum X.K ta) := by
  intro pins s σ H R I h
  refine Call_ (ld_blt I hg hm bo_enumerate (PyProof.Rows.callWith_type1 (thn (ha pos pins s σ H _ I h) fun us s1 ⟨vs, H1, I1, r1, q1⟩ => ?_) hs rfl))
  obtain ⟨l, xs, e, hq, q⟩ := q1
  subst e
  cases r1 with
  | cons r rr =>
    cases rr
    cases r
    obtain ⟨its, rv, pl, hz⟩ := I1.list hq
    refine call_enumerate_list pl.isList fun h' hE hI hsz hk => ?_
    refine wpAny_pyIter_enum (s := { s1 with heap := h' }) hE ?_
    refine ⟨s1.heap.objs.size + 1, [s1.heap.objs.size + 1, s1.heap.objs.size], _, _, H1, rfl, I1.kept (t' := s1.toks) hk, turn_enum l s1.heap.objs.size (s1.heap.objs.size + 1) (Nat.succ_ne_self _), ⟨⟨_, hE⟩, hI⟩, fun b hb => ?_, q⟩
    have hb' : s1.heap.objs.size ≤ b := by
      have hb2 : b = s1.heap.objs.size + 1 ∨ b = s1.heap.objs.size := by simpa using hb
      rcases hb2 with rfl | rfl
      · exact Nat.le_succ _
      · exact Nat.le_refl _
    exact I1.fpOk hb' (I1.hok.fresh hb')
theorem for_enum {K : PySem.W.Frag} {a : Addr} {xs : List V} {g : TG} {tb : TS} {D : Ends} {σ : St} {H : Hp} (Pv : Nat → St → Hp → Prop) (h0 : Pv 0 σ H) (hl : ∀ i σ H, i ≤ xs.length → Pv i σ H → SqL K H a xs)
    (hs : ∀ i x T σ H, xs[i]? = some x → Pv i σ H → H T = none → g (.ref T) σ (upd H T (.tup [.int i, x])) fun σ2 H2 => tb { D with nx := Pv (i + 1), ct := Pv (i + 1), bk := D.nx } σ2 H2) (hd : ∀ σ H, Pv xs.length σ H → D.nx σ H) :
    ∃ W : Nat → Nat → St → Hp → Prop, (∃ m, W 0 m σ H) ∧ ∀ i m σ H, W i m σ H →
      ((Ite K a).stop i H ∧ D.nx σ H) ∨ ((Ite K a).go i H ∧ ∃ N : St → Hp → Prop, (∀ σ' H', N σ' H' → ∃ m', m' < m ∧ W (i + 1) m' σ' H') ∧ ∀ x H', (Ite K a).yld i H x H' → g x σ H' fun σ2 H2 => tb { D with nx := N, ct := N, bk := D.nx } σ2 H2) := by
  refine ⟨fun i m σ H => m = xs.length - i ∧ i ≤ xs.length ∧ Pv i σ H, ⟨xs.length, by simp, Nat.zero_le _, h0⟩, ?_⟩
  rintro i m σ H ⟨rfl, hi, p⟩
  have q := hl i σ H hi p
  by_cases hlt : i < xs.length
  · refine .inr ⟨⟨xs, xs[i], q, by simp [hlt]⟩, Pv (i + 1), fun σ' H' p' => ⟨xs.length - (i + 1), by omega, rfl, hlt, p'⟩, fun x H' y => ?_⟩
    obtain ⟨T, v, e1, e2, y, e3⟩ := y
    subst e1 e3
    exact hs i v T σ H (y xs q) p e2
  · have e : i = xs.length := by omega
    subst e
    exact .inl ⟨⟨xs, q, Nat.le_refl _⟩, hd σ H p⟩
end
structure CompScN (X : Cx) (scope : Scope) (cl : List (Str × Addr)) (xs : List Str) (fr : List (Str × Nat)) : Prop where
  clos : closureFor scope X.env = pure cl
  kind : scope.kind = .function
  nocell : ∀ y ∈ scope.names, y.2 ≠ .cell
  locs : ∀ y ∈ scope.names, y.2 = .local → scope.names.lookup y.1 = some .local
  nd : (xs ++ fr.map (·.1)).Nodup
  sub : AllL (fun p => X.env.cells.lookup p.1 = some p.2) cl
  has : ((relabel scope X.env).names.all fun p => !(p.2 == .cell || p.2 == .free) || (cl.lookup p.1).isSome) = true
  frs : AllL (FrAt X scope cl) fr
theorem CompScN.subL {X : Cx} {scope : Scope} {cl : List (Str × Addr)} {xs : List Str} {fr : List (Str × Nat)} (S : CompScN X scope cl xs fr) : ∀ y c, cl.lookup y = some c → X.env.cells.lookup y = some c :=
  fun y c e => S.sub.mem (y, c) (mem_of_lk e)
def tLCN (wi : TI) (xs : List Str) (fr : List (Str × Nat)) (g : TG) (tc : TT) (te : TE) : TE := fun σ H Q => wi σ H fun J H1 => ∃ W : Nat → Nat → List V → Hp → Prop, (∃ m, W 0 m [] H1) ∧ ∀ i m acc H, W i m acc H →
  (J.stop i H ∧ acc.length ≤ sizeLine ∧ ∀ p, H p = none → Q (.ref p) (upd H p (.lst acc))) ∨
  (J.go i H ∧ ∀ x H', J.yld i H x H' → ∀ ys : St, ys.length = xs.length → g x (ys ++ frv fr σ) H' fun σ2 H2 => (∃ zs : St, zs.length = xs.length ∧ σ2 = zs ++ frv fr σ) ∧ tc σ2 H2 fun b H3 => if b = true then te σ2 H3 fun v H4 => acc.length < sizeLine ∧ ∃ m', m' < m ∧ W (i + 1) m' (acc ++ [v]) H4
    else ∃ m', m' < m ∧ W (i + 1) m' acc H3)
section
variable {X : Cx} {xs : List Str} {pos : Pos} {iter elt tgt : Expr} {g : TG} {ifs : List Expr} {scope : Scope} {cl : List (Str × Addr)} {wi : TI} {tc : TT} {te : TE} {fr : List (Str × Nat)}
theorem compCxN_ok {pins : List (Addr × Obj)} {σ : St} {H : Hp} {s : Shared} {fp : List Addr} {C : Addr} (S : CompScN X scope cl xs fr) (I : Inv X pins σ H s) (hC : s.heap.objs.size ≤ C)
    (hf : ∀ b ∈ fp, FpOk X pins H b) (ho : ∀ b ∈ fp, ∃ o, s.heap.get? b = some o) : (compCx X (xs ++ fr.map (·.1)) scope cl C s H fp).Ok where
  mod := I.ok.mod
  kind := S.kind
  glob := I.ok.glob
  blt := I.ok.blt
  above := hC
  inj := fun y z c h1 h2 => I.ok.inj y z c (S.subL y c h1) (S.subL z c h2)
  has := fun y hy => by
    have all := List.all_eq_true.mp S.has
    have go : ∀ k, (k == NameKind.cell || k == NameKind.free) = true → (relabel scope X.env).names.lookup y = some k → ∃ c, cl.lookup y = some c := fun k hk e => by
      have q := all (y, k) (mem_of_lk e)
      have q' : (!(k == NameKind.cell || k == NameKind.free) || (cl.lookup y).isSome) = true := q
      rw [hk] at q'
      exact Option.isSome_iff_exists.mp (by simpa using q')
    rcases hy with hy | hy
    · exact go .cell rfl hy
    · exact go .free rfl hy
  cab := fun y c hfn _ => by cases hfn
  hd := I.ok.hd
  frames := I.ok.frames
  stk := .inl rfl
  exf := fun b hb => by
    obtain ⟨o, e⟩ := ho b hb
    exact ⟨Nat.ne_of_lt (Nat.lt_of_lt_of_le (Heap.lt_size e) hC), fun y c h => (hf b hb).2.2.2.2.1 y c (S.subL y c h)⟩
  bs := I.bs
  bsz := Nat.le_trans I.ok.bsz I.sz
  noex := fun b o e hb => by
    rcases (hf b hb).2.2.2.1 with z | z
    · exact I.ok.noex b o e z
    · exact absurd (Nat.lt_of_lt_of_le (Heap.lt_size e) (Nat.le_trans I.ok.bsz z)) (Nat.lt_irrefl _)
  exfs := fun b hb z => by
    rcases List.mem_cons.mp (I.stkSub b z) with e | e
    · exact (hf b hb).2.1 e
    · exact (hf b hb).2.2.1 e
  funs := I.stack
  frf := I.stkFree
theorem compCxN_inv {pins : List (Addr × Obj)} {σ : St} {H : Hp} {s s' : Shared} {fp : List Addr} {C D : Addr} {oD : Obj} {m : Str → Option Value} (S : CompScN X scope cl xs fr) (I : Inv X pins σ H s) (hC : s.heap.objs.size ≤ C)
    (hf : ∀ b ∈ fp, FpOk X pins H b) (ho : ∀ b ∈ fp, ∃ o, s.heap.get? b = some o) (os : s'.os = s.os) (bare : AllBare s'.gens) (old : ∀ b o, s.heap.get? b = some o → s'.heap.get? b = some o) (ns : s'.heap.Ns C m)
    (hD : s.heap.objs.size ≤ D) (hDC : D ≠ C) (eD : s'.heap.get? D = some oD) (dD : ∀ v, oD.data ≠ .cell v) :
    Inv (compCx X (xs ++ fr.map (·.1)) scope cl C s H fp) [(D, oD)] (List.replicate xs.length none ++ frv fr σ) H s' where
  ok := compCxN_ok S I hC hf ho
  os := os
  bare := bare
  base := Un.kept old
  loc := by
    refine ⟨m, ns, fun i y v h1 h2 _ => ?_⟩
    by_cases hi : i < xs.length
    · rw [List.getElem?_append_left (by simp; exact hi), List.getElem?_replicate] at h2
      simp [hi] at h2
    · have h1' : (fr.map (·.1))[i - xs.length]? = some y := by
        have q : (xs ++ fr.map (·.1))[i]? = some y := h1
        rw [List.getElem?_append_right (by omega)] at q
        exact q
      have h2' : (frv fr σ)[i - xs.length]? = some (some v) := by
        rw [List.getElem?_append_right (by simp; omega), List.length_replicate] at h2
        exact h2
      generalize i - xs.length = j at h1' h2'
      rw [List.getElem?_map] at h1'
      unfold frv at h2'
      rw [List.getElem?_map] at h2'
      cases e : fr[j]? with
      | none => rw [e] at h1'; cases h1'
      | some p =>
        rw [e] at h1' h2'
        have ey : p.1 = y := Option.some.inj h1'
        have ev : (σ[p.2]?).join = some v := Option.some.inj h2'
        have ev' : σ[p.2]? = some (some v) := by
          cases q : σ[p.2]? with
          | none => rw [q] at ev; cases ev
          | some w =>
            rw [q] at ev
            have : w = some v := ev
            rw [this]
        have F := S.frs.get e
        obtain ⟨c, c1, c2⟩ := F.cl
        obtain ⟨m', hn', hl'⟩ := I.loc
        have vis : Vis X.env.scope p.1 := by
          rcases F.kx with k | k
          · exact .inr (.inl k)
          · exact .inr (.inr k)
        obtain ⟨u, r, l⟩ := hl' p.2 p.1 v F.nm ev' vis
        rcases l with ⟨k, _⟩ | ⟨k, c', e', hc'⟩
        · rcases F.kx with k' | k' <;> · rw [k] at k'; cases k'
        · rw [c2] at e'
          cases e'
          subst ey
          refine ⟨u, r, .inr ⟨F.kc, c, c1, ?_⟩⟩
          obtain ⟨oc, hoc, hd⟩ := hc'
          exact ⟨oc, old _ _ hoc, hd⟩
  cell := fun y c e => by
    obtain ⟨v, oc, hoc, hd⟩ := I.cell y c (S.subL y c e)
    exact ⟨v, oc, old _ _ hoc, hd⟩
  free := I.hok.fresh hC
  freeC := fun y c e => I.freeC y c (S.subL y c e)
  pin := fun p hp => by
    have e : p = (D, oD) := by
      have : p ∈ ([] : List (Addr × Obj)) ++ [(D, oD)] := hp
      simpa using this
    subst e
    refine ⟨eD, I.hok.fresh hD, hDC, fun hb => ?_, dD⟩
    have hb' : D ∈ frs X.stack := hb
    have ok := compCxN_ok S I hC hf ho
    obtain ⟨_, o, q, _⟩ := ok.funs.mem hb
    exact absurd (Nat.lt_of_lt_of_le (Heap.lt_size q) hD) (Nat.lt_irrefl _)
  hok := I.hok.kept old
  len := by
    show (List.replicate xs.length none ++ frv fr σ).length = (xs ++ fr.map (·.1)).length
    simp [frv]
theorem comp_backN {pins : List (Addr × Obj)} {σ σ' : St} {H H' : Hp} {s s' : Shared} {fp : List Addr} {C D : Addr} {its : List Value} {n : Nat} {acc : List V} {h'' : Heap} (I : Inv X pins σ H s) (hC : s.heap.objs.size ≤ C) (hD : s.heap.objs.size ≤ D) (hDC : D ≠ C)
    (hf : ∀ b ∈ fp, FpOk X pins H b) (J : Inv (compCx X (xs ++ fr.map (·.1)) scope cl C s H fp) [(D, oL its n)] σ' H' s') (r : Vals acc its) (hz : acc.length ≤ sizeLine) (sb : Heap.SameBut C s'.heap h'') :
    Inv X pins σ (upd H' D (.lst acc)) { s' with heap := h'' } := by
  have pD := J.pin (D, oL its n) (List.mem_append_right _ List.mem_cons_self)
  have nC : ∀ b o, s.heap.get? b = some o → b ≠ C := fun b o e => Nat.ne_of_lt (Nat.lt_of_lt_of_le (Heap.lt_size e) hC)
  have nD : ∀ b o, s.heap.get? b = some o → b ≠ D := fun b o e => Nat.ne_of_lt (Nat.lt_of_lt_of_le (Heap.lt_size e) hD)
  have HC : H' C = none := J.free
  have HD : H D = none := I.hok.fresh hD
  refine I.call' (ch := fp) J.os ⟨fun b o e k hb hx => ?_, fun b o e k hb hx => ?_, fun b o e k hx => ?_, fun b o e hx => ?_, fun b xs e => ?_, fun b o u e => ?_, fun b ps e => ?_⟩ (fun b u e => ?_) J.bare fun b hb => ?_
  · exact (sb.2 b (nC b o e)).trans (J.base.keep b o e k hb hx)
  · obtain ⟨sl, q⟩ := J.base.slot b o e k hb hx
    exact ⟨sl, (sb.2 b (nC b o e)).trans q⟩
  · rw [upd_ne (nD b o e)]
    exact J.base.free b o e k hx
  · obtain ⟨o', q⟩ := J.base.there b o e hx
    exact ⟨o', (sb.2 b (nC b o e)).trans q⟩
  · rw [upd_ne (ne_of_none e HD)]
    exact J.base.tups b xs e
  · rw [upd_ne (ne_of_none e HD)]
    exact J.base.frzs b o u e
  · rw [upd_ne (ne_of_none e HD)]
    exact J.base.tbls b ps e
  · by_cases hb : b = D
    · subst hb
      rw [upd_same] at e
      cases e
      exact ⟨hz, its, n, r, (sb.2 b hDC).trans pD.1⟩
    · rw [upd_ne hb] at e
      refine (J.hok b u e).stay (fun c v hc q => (sb.2 c ?_).trans q) (fun c q => ?_) fun c xs q => ?_
      · rcases hc with z | z
        · rw [z]; exact ne_of_none e HC
        · exact ne_of_none z HC
      · rw [upd_ne (ne_of_none q pD.2.1)]; exact q
      · rw [upd_ne (ne_of_none q pD.2.1)]; exact q
  · exact ⟨(hf b hb).2.2.2.1, (hf b hb).2.1, (hf b hb).2.2.2.2.1, (hf b hb).2.2.2.2.2⟩
theorem pe_lcompN (hc : X.calm = true) (hi : PI X tgt iter wi) (S : CompScN X scope cl xs fr)
    (hgt : ∀ C s H fp, PG (compCx X (xs ++ fr.map (·.1)) scope cl C s H fp) tgt g)
    (ht : ∀ C s H fp, PTs (compCx X (xs ++ fr.map (·.1)) scope cl C s H fp) ifs tc) (he : ∀ C s H fp, PE (compCx X (xs ++ fr.map (·.1)) scope cl C s H fp) elt te)
    (hs : ∀ v, foldedSetIterable iter X.env v = pure v := by intro _; rfl) : PE X (.ListComp elt [⟨tgt, iter, ifs, 0⟩] scope pos) (tLCN wi xs fr g tc te) := by
  intro pins s σ H Q I h
  rw [eval_ListComp]
  refine wpAny_comprehension_free (use := none) (cl := cl) rfl hs S.clos S.kind S.locs (thn (hi pins s σ H _ I h) fun v s1 h1 => thn h1 fun itv s2 h2 => ?_)
  obtain ⟨it, fp, tn, J, H2, e, I2, T, st2, f2, W, ⟨m0, w0⟩, turn⟩ := h2
  subst e
  refine wpAny_newObj_type (wpAny_newFunctionEnv S.nocell (by intro y hy; simp at hy) (fun h₁ hns₁ hsb₁ => ?_) S.kind)
  dsimp only at hns₁ hsb₁ ⊢
  generalize hHp : s2.heap.push { cls := .type "list", dict := none, data := .seq ([] : List Value).toArray } = hp at hns₁ hsb₁ ⊢
  have eC : hp.objs.size = s2.heap.objs.size + 1 := by rw [← hHp, Heap.size_push]
  have hDC : s2.heap.objs.size ≠ hp.objs.size := by rw [eC]; exact Nat.ne_of_lt (Nat.lt_succ_self _)
  have hC : s2.heap.objs.size ≤ hp.objs.size := by rw [eC]; exact Nat.le_succ _
  have hD : s2.heap.objs.size ≤ s2.heap.objs.size := Nat.le_refl _
  have nC : ∀ b o, s2.heap.get? b = some o → b ≠ hp.objs.size := fun b o e => Nat.ne_of_lt (Nat.lt_of_lt_of_le (Heap.lt_size e) hC)
  have nD : ∀ b o, s2.heap.get? b = some o → b ≠ s2.heap.objs.size := fun b o e => Nat.ne_of_lt (Heap.lt_size e)
  have old : ∀ b o, s2.heap.get? b = some o → h₁.get? b = some o := fun b o e => hsb₁.extBut b o (nC b o e) (Heap.get?_push_of_some _ (hHp ▸ Heap.get?_push_of_some _ e))
  have eD : h₁.get? s2.heap.objs.size = some (oL [] 0) := hsb₁.extBut _ _ hDC (Heap.get?_push_of_some _ (hHp ▸ Heap.get?_push_size _ rfl))
  have ho : ∀ b ∈ fp, ∃ o, s2.heap.get? b = some o := fun b hb => by
    obtain ⟨o, e, _⟩ := T.obj 0 _ st2 b hb
    exact ⟨o, e⟩
  have J0 : Inv (compCx X (xs ++ fr.map (·.1)) scope cl hp.objs.size s2 H2 fp) [(s2.heap.objs.size, oL [] 0)] (List.replicate xs.length none ++ frv fr σ) H2 { s2 with heap := h₁, toks := s2.toks + ([] : List (Str × Value)).length } :=
    compCxN_inv S I2 hC f2 ho rfl I2.bare old hns₁ hD hDC eD (oL_nc [] 0)
  have fpne : ∀ b ∈ fp, b ≠ s2.heap.objs.size := fun b hb => by
    obtain ⟨o, e⟩ := ho b hb
    exact nD b o e
  have fpC : ∀ b ∈ fp, b ≠ hp.objs.size := fun b hb => by
    obtain ⟨o, e⟩ := ho b hb
    exact nC b o e
  have okX := J0.ok
  -- what stays true of the iterator's objects through the loop
  have stat : ∀ {H' : Hp} {oD : Obj}, (∀ b ∈ fp, H' b = none) → ∀ b ∈ fp, FpOk (compCx X (xs ++ fr.map (·.1)) scope cl hp.objs.size s2 H2 fp) [(s2.heap.objs.size, oD)] H' b := fun {H' oD} hn b hb =>
    ⟨hn b hb, fpC b hb, okX.exfs b hb, .inl hb, (okX.exf b hb).2, fun p hp' => by
      have e : p = (s2.heap.objs.size, oD) := by
        have : p ∈ ([] : List (Addr × Obj)) ++ [(s2.heap.objs.size, oD)] := hp'
        simpa using this
      rw [e]
      exact (fpne b hb).symm⟩
  have st1 : tn 0 h₁ := T.keep _ _ _ st2 fun b _ o e => old b o e
  have loop : ∀ s₃ : Shared, s₃ = { s2 with heap := h₁, toks := s2.toks + ([] : List (Str × Value)).length } →
      codeAny (model X.prog X.w) X.A (.compLoop (.ListComp elt [⟨tgt, iter, ifs, 0⟩] scope pos) 0 (.ref it) (.ref s2.heap.objs.size) (compEnvC scope cl hp.objs.size X.env))
        (compPost (model X.prog X.w) X.A X.xe none (EP X pins σ Q) (.ref s2.heap.objs.size) hp.objs.size) s₃ := by
    rintro s₃ rfl
    refine compLoop_any (fun n s' => ∃ i ys H' acc its k, ys.length = xs.length ∧ Inv (compCx X (xs ++ fr.map (·.1)) scope cl hp.objs.size s2 H2 fp) [(s2.heap.objs.size, oL its k)] (ys ++ frv fr σ) H' s' ∧ tn i s'.heap ∧ (∀ b ∈ fp, H' b = none) ∧ Vals acc its ∧ W i n acc H') ?_ m0
      ⟨0, List.replicate xs.length none, H2, [], [], 0, by simp, J0, st1, fun b hb => (f2 b hb).1, .nil, w0⟩
    rintro n s3 ⟨i, ys, H3, acc, its, k, hys, I3, st3, fr3, rv, w3⟩
    have noE : ∀ {α : Type} {t : Sem α} {Q' : α → Shared → Prop} {s' : Shared} {E' : Value → Shared → Prop}, wpAny (model X.prog X.w) X.A t Q' (fun _ _ => False) s' → wpAny (model X.prog X.w) X.A t Q' E' s' := fun {α t Q' s' E'} h => wpAny_mono h (fun _ _ q => q) fun _ _ z => z.elim
    rcases turn i n acc H3 w3 with ⟨stop, hz, qn⟩ | ⟨go, step⟩
    · refine thn (T.done (compCx X (xs ++ fr.map (·.1)) scope cl hp.objs.size s2 H2 fp) rfl rfl rfl hc i _ s3 _ H3 _ I3 (stat fr3) st3 stop) fun r s4 ⟨hr, I4⟩ => ?_
      subst hr
      obtain ⟨m4, hn4, _⟩ := I4.loc
      have pD := I4.pin (s2.heap.objs.size, oL its k) (List.mem_append_right _ List.mem_cons_self)
      refine ⟨m4, hn4, fun h'' sb => ⟨.ref s2.heap.objs.size, _, comp_backN I2 hC hD hDC f2 I4 rv hz sb, rfl, qn _ pD.2.1⟩⟩
    · refine thn (T.item (compCx X (xs ++ fr.map (·.1)) scope cl hp.objs.size s2 H2 fp) rfl rfl rfl hc i _ s3 _ H3 _ I3 (stat fr3) st3 go) fun r s4 ⟨u, hr, h4⟩ => ?_
      subst hr
      refine thn h4 fun _ s5 ⟨xv, H5, I5, r5, y5, st5, fr5⟩ => ?_
      have I5' := I5.pinned (stat fr5) (T.obj _ _ st5)
      refine noE (thn (hgt _ _ _ _ _ s5 _ H5 xv u _ I5' r5 (step xv H5 y5 ys hys)) fun _ s6 ⟨σ6, H6, I6', ⟨zs, hzs, e6⟩, q6⟩ => ?_)
      subst e6
      refine noE (thn (ht _ _ _ _ _ s6 _ H6 _ I6' q6) fun b s7 ⟨H7, I7, q7⟩ => ?_)
      have back : ∀ {σ8 : St} {H8 : Hp} {s8 : Shared}, Inv (compCx X (xs ++ fr.map (·.1)) scope cl hp.objs.size s2 H2 fp) ([(s2.heap.objs.size, oL its k)] ++ pinsAt fp s5.heap) σ8 H8 s8 → tn (i + 1) s8.heap ∧ ∀ b ∈ fp, H8 b = none := fun {σ8 H8 s8} I8 => by
        refine ⟨T.keep _ _ _ st5 fun b hb o e => (I8.pin (b, o) (List.mem_append_right _ (List.mem_append_right _ (mem_pinsAt hb e)))).1, fun b hb => ?_⟩
        obtain ⟨o, e, d⟩ := T.obj _ _ st5 b hb
        exact (I8.pin (b, o) (List.mem_append_right _ (List.mem_append_right _ (mem_pinsAt hb e)))).2.1
      cases b with
      | false =>
        rw [if_neg Bool.false_ne_true] at q7 ⊢
        obtain ⟨m', hm, w7⟩ := q7
        obtain ⟨t7, n7⟩ := back I7
        exact ⟨m', hm, i + 1, zs, H7, acc, its, k, hzs, I7.unpinned, t7, n7, rv, w7⟩
      | true =>
        rw [if_pos rfl] at q7 ⊢
        refine noE (thn (he _ _ _ _ _ s7 _ H7 _ I7 q7) fun u8 s8 ⟨v8, H8, I8, r8, hlt, m', hm, w8⟩ => ?_)
        obtain ⟨t8, n8⟩ := back I8
        have pD := I8.pin (s2.heap.objs.size, oL its k) (List.mem_append_right _ (List.mem_append_left _ List.mem_cons_self))
        have hl := rv.length
        refine wpAny_list_append_plain (items := its.toArray) ⟨k, pD.1⟩ (fun h9 ⟨k9, e9⟩ sb9 => ?_) (by rw [List.size_toArray]; omega)
        have e9' : h9.get? s2.heap.objs.size = some (oL (its ++ [u8]) k9) := by
          rw [e9]
          simp [oL]
        have I9 : Inv (compCx X (xs ++ fr.map (·.1)) scope cl hp.objs.size s2 H2 fp) [] (zs ++ frv fr σ) H8 { s8 with heap := h9, toks := s8.toks } :=
          (I8.pins_of (pins' := []) fun p z => absurd z (by simp)).turned (it := s2.heap.objs.size) (fun b o hb e => (sb9.2 b hb).trans e) pD.2.1 hDC (.inr hD) (fun y c e z => by
            obtain ⟨w', oc, hoc, hd⟩ := I8.cell y c e
            rw [z, pD.1] at hoc
            cases hoc
            exact oL_nc _ _ _ hd) fun p z => absurd (show p ∈ ([] : List (Addr × Obj)) ++ [] from z) (by simp)
        refine ⟨m', hm, i + 1, zs, H8, acc ++ [v8], its ++ [u8], k9, hzs, I9.pins_of fun p z => ?_, T.keep _ _ _ t8 fun b hb o e => (sb9.2 b (fpne b hb)).trans e, n8, rv.append (.cons r8 .nil), w8⟩
        have e : p = (s2.heap.objs.size, oL (its ++ [u8]) k9) := by simpa using z
        subst e
        exact ⟨e9', pD.2.1, pD.2.2.1, pD.2.2.2.1, oL_nc _ _⟩
  exact codeAny_compStart_list (loop _ rfl) (T.self _ 0 _ _ _ st1 (loop _ rfl))
end
end L2
namespace L2
open PySem PySem.Spec PyProof.Rows
end L2
namespace L2
open PySem PySem.Spec PyProof.Rows
section
variable {X : Cx} {K : PySem.W.Frag} {a e : Expr} {ta : TE} {f : Str} {pos : Pos}
theorem ix_listK (h : X.K = K) : IxR X (rIxL K) := by subst h; exact ix_list
theorem ix_tupK (h : X.K = K) : IxR X (rIxT K) := by subst h; exact ix_tup
theorem pg_tupK {es : List Expr} {k : Nat} {t : TGs} {n : Nat} (h : X.K = K) (hc : X.calm = true) (hp : PGs X es t)
    (hn : (assignEach es X.env).length = n := by rfl) (hst : (assignEach es X.env).findIdx? (·.1) = none := by rfl) : PG X (.Tuple es k pos) (gTup K n t) := by subst h; exact pg_tup hc hp hn hst
theorem pi_enumK {elts : List Expr} {x1} {tpos : Pos} {ta : TA} {p : Pos} (h : X.K = K) (hg : Gl X "enumerate") (hm : X.mg "enumerate" = none) (ha : PA X [a] ta) (hs : starEach [a] X.env = [(false, eval a X.env)] := by rfl) :
    PI X (.Tuple elts x1 tpos) (.Call (.Name "enumerate" p) [a] [] pos) (iEnum K ta) := by subst h; exact pi_enum hg hm ha hs
theorem sl_listK (h : X.K = K) : SlR X (rSlL K) := by subst h; exact sl_list
theorem bo_str : bootBuiltins "str" = some (.type "str") := by decide +kernel
def tTru (K : PySem.W.Frag) (ta : TE) : TT := fun σ H Q => ta σ H fun x H' => ∃ k, TruV K x H' k ∧ Q k H'
theorem call_len_seqK (h : X.K = K) : CallR X (.builtin "len") (fun xs H Q => ∃ p ys, xs = [.ref p] ∧ (SqL K H p ys ∨ SqT K H p ys) ∧ Q (.int ys.length) H) := by subst h; exact call_len_seq
end
end L2
namespace L2
open PySem PySem.Spec PyProof.Rows
def noStar : Expr → Bool
  | .Starred .. => false
  | _ => true
theorem star_ns {e : Expr} {es : List Expr} {env : Env} (h : noStar e = true) : starEach (e :: es) env = (false, eval e env) :: starEach es env := by
  cases e <;> first | rfl | cases h
theorem any_ns {pos : Pos} {env : Env} : ∀ {es : List Expr}, es.all noStar = true → (backTo pos (starEach es env)).any (·.1) = false
  | [], _ => rfl
  | e :: es, h => by
    rw [List.all_cons, Bool.and_eq_true] at h
    rw [star_ns h.1]
    show (false || (backTo pos (starEach es env)).any (·.1)) = false
    rw [any_ns h.2]
    rfl
section
variable {X : Cx} {x : Str} {ps : List Str} {k : Nat} {sp : Sp} {e : Expr} {es : List Expr} {t : TA} {te : TE} {p pos : Pos} {C : Addr} {r : List V → Hp → VK → Prop} {id T : String}
def cInt : Expr → Option Int
  | .Constant (.int i) _ _ => some i
  | _ => none
def cInts : List Expr → Option (List Int)
  | [] => some []
  | e :: es => (cInt e).bind fun i => (cInts es).map fun r => i :: r
def tInts (ns : List Int) : TA := fun _ H Q => Q (ns.map V.int) H
theorem pa_ints : ∀ {es : List Expr} {ns : List Int}, cInts es = some ns → PA X es (tInts ns)
  | [], ns, h => by
    cases h
    exact pa_nil
  | e :: es, ns, h => by
    rw [cInts] at h
    cases e1 : cInt e with
    | none => rw [e1] at h; cases h
    | some i =>
      cases e2 : cInts es with
      | none => rw [e1, e2] at h; cases h
      | some r =>
        rw [e1, e2] at h
        cases h
        have hr := pa_ints e2
        have : ∃ j p, e = .Constant (.int i) j p := by
          unfold cInt at e1
          split at e1
          · cases e1; exact ⟨_, _, rfl⟩
          · cases e1
        obtain ⟨j, p, rfl⟩ := this
        exact pa_cons pe_int hr (star_ns rfl)
theorem pa_c (ha : PE X e te) (hr : PA X es t) (h : noStar e = true := by rfl) : PA X (e :: es) (tCons te t) := pa_cons ha hr (star_ns h)
theorem pe_gcallN (G : GF X.prog X.w X.K X.mg X.base x ps k sp) (hr : Room k X.A) (hg : Gl X x) (ha : PA X (e :: es) t) (hdb : (x == ("__debug__" : Str)) = false := by decide)
    (h : (e :: es).all noStar = true := by rfl) : PE X (.Call (.Name x p) (e :: es) [] pos) (tCall sp [] E0 t) :=
  pe_gcall G hr hg ha hdb (star_ns (Bool.and_eq_true_iff.mp h).1) (any_ns (Bool.and_eq_true_iff.mp h).2)
theorem pe_callBN (hc : CallR X (.builtin id) r) (hg : Gl X x) (hm : X.mg x = none) (hv : bootBuiltins x = some (.builtin id)) (ha : PA X (e :: es) t) (hn : x ≠ "__name__" := by decide) (hdb : (x == ("__debug__" : Str)) = false := by decide)
    (h : (e :: es).all noStar = true := by rfl) : PE X (.Call (.Name x p) (e :: es) [] pos) (tCB r t) :=
  pe_callB hc hg hm hv ha hn hdb (star_ns (Bool.and_eq_true_iff.mp h).1) (any_ns (Bool.and_eq_true_iff.mp h).2)
theorem pe_callTyN (hc : CallR X (.type T) r) (hg : Gl X x) (hm : X.mg x = none) (hv : bootBuiltins x = some (.type T)) (ha : PA X (e :: es) t) (hn : x ≠ "__name__" := by decide) (hdb : (x == ("__debug__" : Str)) = false := by decide)
    (h : (e :: es).all noStar = true := by rfl) : PE X (.Call (.Name x p) (e :: es) [] pos) (tCB r t) :=
  pe_callTy hc hg hm hv ha hn hdb (star_ns (Bool.and_eq_true_iff.mp h).1) (any_ns (Bool.and_eq_true_iff.mp h).2)
end
end L2
namespace Sx
open PySem L2
section
variable {σ : St} {H : Hp} {Q : VK} {QT : Bool → Hp → Prop} {D : Ends} {K : PySem.W.Frag} {t : TS} {E : XK}
theorem cut (R : St → Hp → Prop) (h : t { D with nx := R } σ H) (k : ∀ σ' H', R σ' H' → D.nx σ' H') : tCut t D σ H := ⟨R, h, k⟩
theorem lc {wi : TI} {fr : List (Str × Nat)} {tc : TT} {te : TE} (h : wi σ H fun J H1 => ∃ W : Nat → Nat → List V → Hp → Prop, (∃ m, W 0 m [] H1) ∧ ∀ i m acc H, W i m acc H →
  (J.stop i H ∧ acc.length ≤ sizeLine ∧ ∀ p, H p = none → Q (.ref p) (upd H p (.lst acc))) ∨
  (J.go i H ∧ ∀ x H', J.yld i H x H' → tc (some x :: frv fr σ) H' fun b H2 => if b = true then te (some x :: frv fr σ) H2 fun v H3 => acc.length < sizeLine ∧ ∃ m', m' < m ∧ W (i + 1) m' (acc ++ [v]) H3
    else ∃ m', m' < m ∧ W (i + 1) m' acc H2)) : tLC wi fr tc te σ H Q := h
theorem lcN {wi : TI} {xs : List Str} {fr : List (Str × Nat)} {g : TG} {tc : TT} {te : TE} (h : wi σ H fun J H1 => ∃ W : Nat → Nat → List V → Hp → Prop, (∃ m, W 0 m [] H1) ∧ ∀ i m acc H, W i m acc H →
  (J.stop i H ∧ acc.length ≤ sizeLine ∧ ∀ p, H p = none → Q (.ref p) (upd H p (.lst acc))) ∨
  (J.go i H ∧ ∀ x H', J.yld i H x H' → ∀ ys : St, ys.length = xs.length → g x (ys ++ frv fr σ) H' fun σ2 H2 => (∃ zs : St, zs.length = xs.length ∧ σ2 = zs ++ frv fr σ) ∧ tc σ2 H2 fun b H3 => if b = true then te σ2 H3 fun v H4 => acc.length < sizeLine ∧ ∃ m', m' < m ∧ W (i + 1) m' (acc ++ [v]) H4
    else ∃ m', m' < m ∧ W (i + 1) m' acc H3)) : tLCN wi xs fr g tc te σ H Q := h
theorem iL {ta : TE} {R : It → Hp → Prop} (h : ta σ H fun x H1 => ∃ a, x = .ref a ∧ (∃ xs, SqL K H1 a xs) ∧ R (Itl K a) H1) : iList K ta σ H R := h
theorem iT {ta : TE} {R : It → Hp → Prop} (h : ta σ H fun x H1 => ∃ a, x = .ref a ∧ (∃ xs, SqT K H1 a xs) ∧ R (Itt K a) H1) : iTup K ta σ H R := h
theorem iE {ta : TA} {R : It → Hp → Prop} (h : ta σ H fun vs H1 => ∃ a xs, vs = [.ref a] ∧ SqL K H1 a xs ∧ R (Ite K a) H1) : iEnum K ta σ H R := h
theorem iR1 {ta : TA} {R : It → Hp → Prop} (h : ta σ H fun vs H1 => ∃ j : Int, vs = [.int j] ∧ -(2 ^ 62) ≤ j ∧ j < 2 ^ 62 ∧ R (Itr 0 j.toNat) H1) : iRng1 ta σ H R := h
theorem iR2 {ta : TA} {R : It → Hp → Prop} (h : ta σ H fun vs H1 => ∃ i j : Int, vs = [.int i, .int j] ∧ (-(2 ^ 62) ≤ i ∧ i < 2 ^ 62 ∧ -(2 ^ 62) ≤ j ∧ j < 2 ^ 62) ∧ R (Itr i (j - i).toNat) H1) : iRng2 ta σ H R := h
theorem for_ {wi : TI} {g : TG} {tb : TS} (h : wi σ H fun J H1 => ∃ W : Nat → Nat → St → Hp → Prop, (∃ m, W 0 m σ H1) ∧ ∀ i m σ H, W i m σ H →
  (J.stop i H ∧ D.nx σ H) ∨ (J.go i H ∧ ∃ N : St → Hp → Prop, (∀ σ' H', N σ' H' → ∃ m', m' < m ∧ W (i + 1) m' σ' H') ∧ ∀ x H', J.yld i H x H' → g x σ H' fun σ2 H2 => tb { D with nx := N, ct := N, bk := D.nx } σ2 H2)) : tFor wi g tb D σ H := h
theorem make {C : Addr} {sp : Sp} {dvs : List V} {ta : TA} (h : ta σ H fun vs H1 => ∀ x dx, H1 x = none → H1 dx = none → dx ≠ x → sp (.ref x :: (vs ++ dvs)) (upd (upd H1 dx (.own x)) x (.ins C dx [])) (fun v H2 => v = .non ∧ Q (.ref x) H2) E) : tMake C sp dvs E ta σ H Q := h
theorem dget {td ty : TE} (h : td σ H fun x H1 => ty σ H1 fun y H2 => ∃ a v, x = .ref a ∧ DGet H2 a y (some v) ∧ Q v H2) : tDGet td ty σ H Q := h
theorem dput {td ty tv : TE} (h : tv σ H fun v H1 => td σ H1 fun x H2 => ty σ H2 fun y H3 => ∃ a H4, x = .ref a ∧ DPut H3 a y v H4 ∧ D.nx σ H4) : sDPut td ty tv D σ H := h
theorem sfld {ta tv : TE} {f : Str} (h : tv σ H fun y H1 => ta σ H1 fun x H2 => ∃ a C dx fs, x = .ref a ∧ H2 a = some (.ins C dx fs) ∧ Cls K C ∧ NoAttr K C f ∧ fs.length < 1000 ∧ D.nx σ (upd H2 a (.ins C dx (putF f y fs)))) : sFld K ta tv f D σ H := h
theorem intsA {ns : List Int} {QA : List V → Hp → Prop} (h : QA (ns.map V.int) H) : tInts ns σ H QA := h
theorem pnil {QP : List (V × V) → Hp → Prop} (h : QP [] H) : tPairs [] σ H QP := h
theorem pcons {tk tv : TE} {r : List (TE × TE)} {QP : List (V × V) → Hp → Prop} (h : tk σ H fun x H1 => tv σ H1 fun y H2 => tPairs r σ H2 fun ps H3 => QP ((x, y) :: ps) H3) : tPairs ((tk, tv) :: r) σ H QP := h
theorem disp {trs : List (TE × TE)} (h : ∀ p, H p = none → tPairs trs σ (upd H p (.dK [])) fun ps H2 => H2 p = some (.dK []) ∧ ∃ kvs : List (Key × V), ps = kvs.map (fun kv => (kV kv.1, kv.2)) ∧ kvs.length ≤ 15 ∧ Q (.ref p) (upd H2 p (.dK (mergeK [] kvs)))) : tDisp trs σ H Q := h
theorem sl {r : V → Option Int → Option Int → Hp → VK → Prop} {te : TE} {tl th : TO} (h : te σ H fun x H1 => tl σ H1 fun l H2 => th σ H2 fun u H3 => r x l u H3 Q) : tSl r te tl th σ H Q := h
theorem part {te : TE} {QO : Option Int → Hp → Prop} (h : te σ H fun x H1 => ∃ i, x = .int i ∧ QO (some i) H1) : tPart te σ H QO := h
theorem nopart {QO : Option Int → Hp → Prop} (h : QO none H) : tNoPart σ H QO := h
theorem isI {i : Int} {P : Int → Prop} (q : P i) : ∃ k, V.int i = .int k ∧ P k := ⟨i, rfl, q⟩
theorem tru {ta : TE} (h : ta σ H fun x H' => ∃ k, TruV K x H' k ∧ QT k H') : tTru K ta σ H QT := h
theorem cat {l b : Addr} {xs zs : List V} (h1 : H l = some (.lst xs)) (h2 : H b = some (.lst zs)) (hz : xs.length + zs.length ≤ sizeLine) (q : ∀ p, H p = none → Q (.ref p) (upd H p (.lst (xs ++ zs)))) : rCat (.ref l) (.ref b) H Q := ⟨l, b, xs, zs, rfl, rfl, h1, h2, hz, q⟩
theorem bm {T : String} {r : V → List V → Hp → VK → Prop} {to : TE} {a : TA} (h : to σ H fun x H1 => tyV K T x H1 ∧ a σ H1 fun xs H2 => r x xs H2 Q) : tBM K T r to a σ H Q := h
theorem iteNT {A B : Prop} (h : B) : if (!true) = true then A else B := h
theorem iteNF {A B : Prop} (h : A) : if (!false) = true then A else B := h
theorem nonAnd {P : Prop} (q : P) : V.non = V.non ∧ P := ⟨rfl, q⟩
end
end Sx
namespace L2
open PySem PySem.Spec PyProof.Rows
section
variable {X : Cx} {x : Str} {px pos : Pos} {iter elt : Expr} {ifs : List Expr} {scope : Scope} {cl : List (Str × Addr)} {wi : TI} {tc : TT} {te : TE} {fr : List (Str × Nat)}
theorem ps_setLC {i : Nat} {yn : Str} {py spos : Pos} (hN : X.N.Nodup) (hiy : X.N[i]? = some yn) (hy : Loc X.env.scope yn) (hsw : swapsWith (.ListComp elt [⟨.Name x px, iter, ifs, 0⟩] scope pos) (some (.Name yn py)) spos.line X.env = pure true) (hc : X.calm = true) (hi : PI X (.Name x px) iter wi) (S : CompSc X scope cl x fr)
    (ht : ∀ C s H fp, PTs (compCx X (x :: fr.map (·.1)) scope cl C s H fp) ifs tc) (he : ∀ C s H fp, PE (compCx X (x :: fr.map (·.1)) scope cl C s H fp) elt te)
    (hs : ∀ v, foldedSetIterable iter X.env v = pure v := by intro _; rfl) (hf : X.fn yn = true ∨ X.env.scope.names.lookup yn = some .local := by first | exact .inl rfl | exact .inr rfl | assumption) :
    PS X (.Assign [.Name yn py] (.ListComp elt [⟨.Name x px, iter, ifs, 0⟩] scope pos) spos) (tAsg (tLC wi fr tc te) (gName i)) := by
  intro pins s σ H D I h
  rw [exec_Assign_Name_used _ _ _ _ hsw]
  refine wpAny_bind (wpAny_standAt (wpAny_bind ?_))
  show wpAny _ X.A (do let _ ← comprehension (.ListComp elt [⟨.Name x px, iter, ifs, 0⟩] scope pos) scope X.env _ (newList []) false (eval iter X.env) (some (assign (.Name yn py) X.env))) _ _ s
  refine wpAny_bind (wpAny_mono (wpAny_comprehension_free (use := some (assign (.Name yn py) X.env)) (Q := fun _ s' => SP X pins D .next s') (cl := cl) rfl hs S.clos S.kind S.locs (thn (hi pins s σ H _ I h) fun v s1 h1 => thn h1 fun itv s2 h2 => ?_)) (fun _ s' hq => wpAny_pure (wpAny_pure hq)) fun _ _ e => e)
  obtain ⟨it, fp, tn, J, H2, e, I2, T, st2, f2, W, ⟨m0, w0⟩, turn⟩ := h2
  subst e
  refine wpAny_newObj_type (wpAny_newFunctionEnv S.nocell (by intro y hy; simp at hy) (fun h₁ hns₁ hsb₁ => ?_) S.kind)
  dsimp only at hns₁ hsb₁ ⊢
  generalize hHp : s2.heap.push { cls := .type "list", dict := none, data := .seq ([] : List Value).toArray } = hp at hns₁ hsb₁ ⊢
  have eC : hp.objs.size = s2.heap.objs.size + 1 := by rw [← hHp, Heap.size_push]
  have hDC : s2.heap.objs.size ≠ hp.objs.size := by rw [eC]; exact Nat.ne_of_lt (Nat.lt_succ_self _)
  have hC : s2.heap.objs.size ≤ hp.objs.size := by rw [eC]; exact Nat.le_succ _
  have hD : s2.heap.objs.size ≤ s2.heap.objs.size := Nat.le_refl _
  have nC : ∀ b o, s2.heap.get? b = some o → b ≠ hp.objs.size := fun b o e => Nat.ne_of_lt (Nat.lt_of_lt_of_le (Heap.lt_size e) hC)
  have nD : ∀ b o, s2.heap.get? b = some o → b ≠ s2.heap.objs.size := fun b o e => Nat.ne_of_lt (Heap.lt_size e)
  have old : ∀ b o, s2.heap.get? b = some o → h₁.get? b = some o := fun b o e => hsb₁.extBut b o (nC b o e) (Heap.get?_push_of_some _ (hHp ▸ Heap.get?_push_of_some _ e))
  have eD : h₁.get? s2.heap.objs.size = some (oL [] 0) := hsb₁.extBut _ _ hDC (Heap.get?_push_of_some _ (hHp ▸ Heap.get?_push_size _ rfl))
  have ho : ∀ b ∈ fp, ∃ o, s2.heap.get? b = some o := fun b hb => by
    obtain ⟨o, e, _⟩ := T.obj 0 _ st2 b hb
    exact ⟨o, e⟩
  have J0 : Inv (compCx X (x :: fr.map (·.1)) scope cl hp.objs.size s2 H2 fp) [(s2.heap.objs.size, oL [] 0)] (none :: frv fr σ) H2 { s2 with heap := h₁, toks := s2.toks + ([] : List (Str × Value)).length } :=
    compCx_inv S I2 hC f2 ho rfl I2.bare old hns₁ hD hDC eD (oL_nc [] 0)
  have fpne : ∀ b ∈ fp, b ≠ s2.heap.objs.size := fun b hb => by
    obtain ⟨o, e⟩ := ho b hb
    exact nD b o e
  have fpC : ∀ b ∈ fp, b ≠ hp.objs.size := fun b hb => by
    obtain ⟨o, e⟩ := ho b hb
    exact nC b o e
  have okX := J0.ok
  -- what stays true of the iterator's objects through the loop
  have stat : ∀ {H' : Hp} {oD : Obj}, (∀ b ∈ fp, H' b = none) → ∀ b ∈ fp, FpOk (compCx X (x :: fr.map (·.1)) scope cl hp.objs.size s2 H2 fp) [(s2.heap.objs.size, oD)] H' b := fun {H' oD} hn b hb =>
    ⟨hn b hb, fpC b hb, okX.exfs b hb, .inl hb, (okX.exf b hb).2, fun p hp' => by
      have e : p = (s2.heap.objs.size, oD) := by
        have : p ∈ ([] : List (Addr × Obj)) ++ [(s2.heap.objs.size, oD)] := hp'
        simpa using this
      rw [e]
      exact (fpne b hb).symm⟩
  have st1 : tn 0 h₁ := T.keep _ _ _ st2 fun b _ o e => old b o e
  have loop : ∀ s₃ : Shared, s₃ = { s2 with heap := h₁, toks := s2.toks + ([] : List (Str × Value)).length } →
      codeAny (model X.prog X.w) X.A (.compLoop (.ListComp elt [⟨.Name x px, iter, ifs, 0⟩] scope pos) 0 (.ref it) (.ref s2.heap.objs.size) (compEnvC scope cl hp.objs.size X.env))
        (compPost (model X.prog X.w) X.A X.xe (some (assign (.Name yn py) X.env)) (fun _ s' => SP X pins D .next s') (.ref s2.heap.objs.size) hp.objs.size) s₃ := by
    rintro s₃ rfl
    refine compLoop_any (fun n s' => ∃ i y H' acc its k, Inv (compCx X (x :: fr.map (·.1)) scope cl hp.objs.size s2 H2 fp) [(s2.heap.objs.size, oL its k)] (y :: frv fr σ) H' s' ∧ tn i s'.heap ∧ (∀ b ∈ fp, H' b = none) ∧ Vals acc its ∧ W i n acc H') ?_ m0
      ⟨0, none, H2, [], [], 0, J0, st1, fun b hb => (f2 b hb).1, .nil, w0⟩
    rintro n s3 ⟨i, y, H3, acc, its, k, I3, st3, fr3, rv, w3⟩
    have noE : ∀ {α : Type} {t : Sem α} {Q' : α → Shared → Prop} {s' : Shared} {E' : Value → Shared → Prop}, wpAny (model X.prog X.w) X.A t Q' (fun _ _ => False) s' → wpAny (model X.prog X.w) X.A t Q' E' s' := fun {α t Q' s' E'} h => wpAny_mono h (fun _ _ q => q) fun _ _ z => z.elim
    rcases turn i n acc H3 w3 with ⟨stop, hz, qn⟩ | ⟨go, step⟩
    · refine thn (T.done (compCx X (x :: fr.map (·.1)) scope cl hp.objs.size s2 H2 fp) rfl rfl rfl hc i _ s3 _ H3 _ I3 (stat fr3) st3 stop) fun r s4 ⟨hr, I4⟩ => ?_
      subst hr
      obtain ⟨m4, hn4, _⟩ := I4.loc
      have pD := I4.pin (s2.heap.objs.size, oL its k) (List.mem_append_right _ List.mem_cons_self)
      have I5 : Inv X pins σ (upd H3 s2.heap.objs.size (.lst acc)) s4 := comp_back I2 hC hD hDC f2 I4 rv hz ⟨rfl, fun _ _ => rfl⟩
      have nCl : hp.objs.size ≠ X.env.locals := fun z => absurd (Nat.lt_of_lt_of_le I2.lt hC) (by rw [z]; exact Nat.lt_irrefl _)
      have nCc : ∀ z c, X.env.cells.lookup z = some c → c ≠ hp.objs.size := fun z c e q => by
        obtain ⟨w', oc, hoc, _⟩ := I2.cell z c e
        exact nC c oc hoc q
      have HC : (upd H3 s2.heap.objs.size (.lst acc)) hp.objs.size = none := by rw [upd_ne hDC.symm]; exact I4.free
      show wpAny _ X.A (assign (.Name yn py) X.env (.ref s2.heap.objs.size)) _ _ s4
      refine wpAny_assign_Name (store_ok2 (v := .ref s2.heap.objs.size) I5 hN hiy hy rfl (fun s6 I6 hsb => ?_) hf)
      obtain ⟨ad, sb, hb⟩ := hsb
      have nCa : hp.objs.size ≠ ad := by
        rcases hb with e | e
        · rw [e]; exact nCl
        · exact fun q => nCc yn ad e q.symm
      refine ⟨m4, hn4.sameBut sb nCa, fun h'' sb2 => ⟨_, _, I6.turned (it := hp.objs.size) (t' := s6.toks) (fun b o hb' e => (sb2.2 b hb').trans e) HC nCl (.inr (Nat.le_trans I2.sz hC)) nCc fun p hp' z => ?_, qn _ pD.2.1⟩⟩
      exact nC p.1 p.2 (I2.pin p hp').1 z
    · refine thn (T.item (compCx X (x :: fr.map (·.1)) scope cl hp.objs.size s2 H2 fp) rfl rfl rfl hc i _ s3 _ H3 _ I3 (stat fr3) st3 go) fun r s4 ⟨u, hr, h4⟩ => ?_
      subst hr
      refine thn h4 fun _ s5 ⟨xv, H5, I5, r5, y5, st5, fr5⟩ => ?_
      have I5' := I5.pinned (stat fr5) (T.obj _ _ st5)
      have hx' : (relabel scope X.env).names.lookup x = some .local := lookup_relabel_local S.here
      refine wpAny_assign_Name (store_ok (i := 0) I5' S.nd rfl (.inl hx') r5 (fun s6 I6 => ?_) (.inr hx'))
      have I6' : Inv (compCx X (x :: fr.map (·.1)) scope cl hp.objs.size s2 H2 fp) ([(s2.heap.objs.size, oL its k)] ++ pinsAt fp s5.heap) (some xv :: frv fr σ) H5 s6 := I6
      refine noE (thn (ht _ _ _ _ _ s6 _ H5 _ I6' (step xv H5 y5)) fun b s7 ⟨H7, I7, q7⟩ => ?_)
      have back : ∀ {σ8 : St} {H8 : Hp} {s8 : Shared}, Inv (compCx X (x :: fr.map (·.1)) scope cl hp.objs.size s2 H2 fp) ([(s2.heap.objs.size, oL its k)] ++ pinsAt fp s5.heap) σ8 H8 s8 → tn (i + 1) s8.heap ∧ ∀ b ∈ fp, H8 b = none := fun {σ8 H8 s8} I8 => by
        refine ⟨T.keep _ _ _ st5 fun b hb o e => (I8.pin (b, o) (List.mem_append_right _ (List.mem_append_right _ (mem_pinsAt hb e)))).1, fun b hb => ?_⟩
        obtain ⟨o, e, d⟩ := T.obj _ _ st5 b hb
        exact (I8.pin (b, o) (List.mem_append_right _ (List.mem_append_right _ (mem_pinsAt hb e)))).2.1
      cases b with
      | false =>
        rw [if_neg Bool.false_ne_true] at q7 ⊢
        obtain ⟨m', hm, w7⟩ := q7
        obtain ⟨t7, n7⟩ := back I7
        exact ⟨m', hm, i + 1, _, H7, acc, its, k, I7.unpinned, t7, n7, rv, w7⟩
      | true =>
        rw [if_pos rfl] at q7 ⊢
        refine noE (thn (he _ _ _ _ _ s7 _ H7 _ I7 q7) fun u8 s8 ⟨v8, H8, I8, r8, hlt, m', hm, w8⟩ => ?_)
        obtain ⟨t8, n8⟩ := back I8
        have pD := I8.pin (s2.heap.objs.size, oL its k) (List.mem_append_right _ (List.mem_append_left _ List.mem_cons_self))
        have hl := rv.length
        refine wpAny_list_append_plain (items := its.toArray) ⟨k, pD.1⟩ (fun h9 ⟨k9, e9⟩ sb9 => ?_) (by rw [List.size_toArray]; omega)
        have e9' : h9.get? s2.heap.objs.size = some (oL (its ++ [u8]) k9) := by
          rw [e9]
          simp [oL]
        have I9 : Inv (compCx X (x :: fr.map (·.1)) scope cl hp.objs.size s2 H2 fp) [] (some xv :: frv fr σ) H8 { s8 with heap := h9, toks := s8.toks } :=
          (I8.pins_of (pins' := []) fun p z => absurd z (by simp)).turned (it := s2.heap.objs.size) (fun b o hb e => (sb9.2 b hb).trans e) pD.2.1 hDC (.inr hD) (fun y c e z => by
            obtain ⟨w', oc, hoc, hd⟩ := I8.cell y c e
            rw [z, pD.1] at hoc
            cases hoc
            exact oL_nc _ _ _ hd) fun p z => absurd (show p ∈ ([] : List (Addr × Obj)) ++ [] from z) (by simp)
        refine ⟨m', hm, i + 1, _, H8, acc ++ [v8], its ++ [u8], k9, I9.pins_of fun p z => ?_, T.keep _ _ _ t8 fun b hb o e => (sb9.2 b (fpne b hb)).trans e, n8, rv.append (.cons r8 .nil), w8⟩
        have e : p = (s2.heap.objs.size, oL (its ++ [u8]) k9) := by simpa using z
        subst e
        exact ⟨e9', pD.2.1, pD.2.2.1, pD.2.2.2.1, oL_nc _ _⟩
  exact codeAny_compStart_list (loop _ rfl) (T.self _ 0 _ _ _ st1 (loop _ rfl))
end
end L2
namespace L2
open PySem PySem.Spec PyProof.Rows
section
variable {K : PySem.W.Frag} {mg : Str → Option Value} {x : Str}
end
section
variable {X : Cx} {x : Str} {pos : Pos}
end
end L2
namespace Sx
open PySem L2
section
variable {K : PySem.W.Frag} {H : Hp} {Q : VK} {l : Addr}
end
end Sx
namespace L2
open PySem
end L2
namespace L2
open PySem PySem.Spec PyProof.Rows
end L2
namespace L2
open PySem
theorem cutFrom (xs : List V) (k : Nat) : cutV xs (some (k : Int)) none = xs.drop k := by
  unfold cutV
  rw [HT.sIx_nat, HT.sIx_none]
  rcases Nat.le_total k xs.length with h | h
  · rw [Nat.min_eq_left h]
    exact List.take_of_length_le (by simp)
  · rw [Nat.min_eq_right h, List.drop_length, List.drop_eq_nil_of_le h]
    simp
end L2
namespace L2
open PySem PySem.Spec PyProof.Rows
section
variable {X : Cx} {K : PySem.W.Frag}
end
section
variable {X : Cx} {K : PySem.W.Frag}
end
end L2
namespace Sx
open PySem L2
section
variable {K : PySem.W.Frag} {H : Hp} {Q : VK} {l : Addr}
end
end Sx
namespace L2
open PySem PySem.Spec PyProof.Rows
theorem Same.newH {H : Hp} {l : Addr} {o : HO} (n : H l = none) : Same H (upd H l o) := fun b u e => by rw [upd_ne (ne_of_none e n)]; exact e
def rLenOf (K : PySem.W.Frag) : List V → Hp → VK → Prop := fun xs H Q => ∃ p ys, xs = [.ref p] ∧ (SqL K H p ys ∨ SqT K H p ys) ∧ Q (.int ys.length) H
def rIsT (K : PySem.W.Frag) : List V → Hp → VK → Prop := fun xs H Q => ∃ x n t b, xs = [x, .ty n] ∧ TyOf K H x t ∧ PySem.W.kitOne K t (.type n) = some b ∧ Q (.bl b) H
def rInt1 : List V → Hp → VK → Prop := fun xs H Q => (∃ i, xs = [.int i] ∧ Q (.int i) H) ∨ ∃ k, xs = [.bl k] ∧ Q (.int (if k then 1 else 0)) H
section
variable {X : Cx} {K : PySem.W.Frag}
theorem call_len_seqN (h : X.K = K) : CallR X (.builtin "len") (rLenOf K) := call_len_seqK h
theorem call_int1N : CallR X (.type "int") rInt1 := call_int1
end
end L2
namespace Sx
open PySem L2
section
variable {K : PySem.W.Frag} {σ : St} {H : Hp} {Q : VK} {l : Addr} {a : TA} {xs ys : List V}
def NewT (xs : List V) (H : Hp) (Q : VK) : Prop := xs.length ≤ sizeLine ∧ ∀ p, H p = none → Q (.ref p) (upd H p (.tup xs))
def NewL (xs : List V) (H : Hp) (Q : VK) : Prop := xs.length ≤ sizeLine ∧ ∀ p, H p = none → Q (.ref p) (upd H p (.lst xs))
theorem tupN (h : a σ H fun xs H1 => NewT xs H1 Q) : tTup a σ H Q := h
theorem lstN (h : a σ H fun xs H1 => NewL xs H1 Q) : tLst a σ H Q := h
theorem newT (hz : xs.length ≤ sizeLine) (k : ∀ p H', H p = none → H' p = some (.tup xs) → Same H H' → Q (.ref p) H') : NewT xs H Q := ⟨hz, fun p n => k p _ n upd_same (Same.newH n)⟩
theorem newL (hz : xs.length ≤ sizeLine) (k : ∀ p H', H p = none → H' p = some (.lst xs) → Same H H' → Q (.ref p) H') : NewL xs H Q := ⟨hz, fun p n => k p _ n upd_same (Same.newH n)⟩
theorem isT {x : V} {n : String} {t : Value} {b : Bool} (ty : TyOf K H x t) (e : PySem.W.kitOne K t (.type n) = some b) (k : Q (.bl b) H) : rIsT K [x, .ty n] H Q := ⟨x, n, t, b, rfl, ty, e, k⟩
theorem intB {b : Bool} (k : Q (.int (if b then 1 else 0)) H) : rInt1 [.bl b] H Q := .inr ⟨b, rfl, k⟩
theorem catN {b : Addr} (h1 : H l = some (.lst xs)) (h2 : H b = some (.lst ys)) (hz : xs.length + ys.length ≤ 16777216) (k : ∀ p H', H p = none → H' p = some (.lst (xs ++ ys)) → Same H H' → Q (.ref p) H') : rCat (.ref l) (.ref b) H Q := Sx.cat h1 h2 (by rw [sizeLine_eq]; exact hz) fun p n => k p _ n upd_same (Same.newH n)
theorem slN {lo hi : Option Int} (h : SqL K H l xs) (k : ∀ p H', H p = none → H' p = some (.lst (cutV xs lo hi)) → Same H H' → Q (.ref p) H') : rSlL K (.ref l) lo hi H Q := ⟨l, xs, rfl, h, fun p n => k p _ n upd_same (Same.newH n)⟩
end
end Sx
namespace L2
theorem iteDS {c A B : Prop} [Decidable c] (h : c) (a : A) : if decide c = true then A else B := by rw [if_pos (decide_eq_true h)]; exact a
end L2
namespace L2
open PySem PySem.Spec PyProof.Rows
end L2
namespace L2
open PySem PySem.Spec PyProof.Rows
section
variable {X : Cx} {K : PySem.W.Frag}
end
end L2
namespace Sx
open PySem L2 PyProof.Rows
section
variable {K : PySem.W.Frag} {H : Hp} {Q : VK} {l b : Addr} {xs ys : List V}
end
end Sx
namespace L2
open PySem PySem.Spec PyProof.Rows
end L2
namespace L2
open PySem PySem.Spec PyProof.Rows
end L2
namespace L2
open PySem PySem.Spec PyProof.Rows
section
variable {X : Cx}
end
theorem lc_enumI {K : PySem.W.Frag} {a : Addr} {xs : List V} {x1 x2 : Str} {fr : List (Str × Nat)} {te : TE} {σ : St} {H : Hp} {Qp : Addr → List V → Hp → Prop} (I : Nat → List V → Hp → Prop) (hn : xs.length ≤ sizeLine) (h0 : I 0 [] H) (hl : ∀ i acc H', I i acc H' → acc.length = i) (hs : ∀ i acc H', I i acc H' → SqL K H' a xs)
    (hf : ∀ i x acc H', xs[i]? = some x → I i acc H' → ∀ H1, Same H' H1 → ∀ Q' : VK, (∀ v H2, I (i + 1) (acc ++ [v]) H2 → Q' v H2) → te ([some (.int i), some x] ++ frv fr σ) H1 Q') (hQ : ∀ acc H', I xs.length acc H' → ∀ p, H' p = none → Qp p acc H') :
    ∃ W : Nat → Nat → List V → Hp → Prop, (∃ m, W 0 m [] H) ∧ ∀ i m acc H, W i m acc H →
      ((Ite K a).stop i H ∧ acc.length ≤ sizeLine ∧ ∀ p, H p = none → Qp p acc H) ∨
      ((Ite K a).go i H ∧ ∀ x H', (Ite K a).yld i H x H' → ∀ ys : St, ys.length = [x1, x2].length → (gTup K 2 (gCons (gName 0) (gCons (gName 1) gNil))) x (ys ++ frv fr σ) H' fun σ2 H2 => (∃ zs : St, zs.length = [x1, x2].length ∧ σ2 = zs ++ frv fr σ) ∧ tYes σ2 H2 fun b H3 => if b = true then te σ2 H3 fun v H4 => acc.length < sizeLine ∧ ∃ m', m' < m ∧ W (i + 1) m' (acc ++ [v]) H4
        else ∃ m', m' < m ∧ W (i + 1) m' acc H3) := by
  refine ⟨fun i m acc H' => I i acc H' ∧ i ≤ xs.length ∧ m = xs.length - i, ⟨xs.length, h0, Nat.zero_le _, by simp⟩, ?_⟩
  rintro i m acc H' ⟨hI, hi, rfl⟩
  have el := hl i acc H' hI
  have hq' := hs i acc H' hI
  by_cases hlt : i < xs.length
  · refine .inr ⟨⟨xs, xs[i], hq', by simp [hlt]⟩, fun x H1 y ys hys => ?_⟩
    obtain ⟨T, v, e1, e2, y, e3⟩ := y
    subst e1 e3
    have ex := y xs hq'
    match ys, hys with
    | [y1, y2], _ =>
      refine ⟨T, _, rfl, SqT.of upd_same, rfl, _, _, rfl, _, _, rfl, rfl, ⟨[some (.int i), some v], rfl, rfl⟩, ?_⟩
      dsimp only [tYes]
      rw [if_pos rfl]
      exact hf i v acc _ ex hI _ (Same.newH e2) _ fun v H2 q => ⟨by omega, xs.length - (i + 1), by omega, q, hlt, rfl⟩
  · have e : i = xs.length := by omega
    subst e
    exact .inl ⟨⟨xs, hq', Nat.le_refl _⟩, by omega, hQ acc H' hI⟩
end L2
namespace L2
open PySem PySem.Spec PyProof.Rows
section
variable {X : Cx} {xs : List Str} {pos : Pos} {iter elt tgt : Expr} {g : TG} {ifs : List Expr} {scope : Scope} {cl : List (Str × Addr)} {wi : TI} {tc : TT} {te : TE} {fr : List (Str × Nat)}
theorem ps_setLCN {i : Nat} {yn : Str} {py spos : Pos} (hN : X.N.Nodup) (hiy : X.N[i]? = some yn) (hy : Loc X.env.scope yn) (hsw : swapsWith (.ListComp elt [⟨tgt, iter, ifs, 0⟩] scope pos) (some (.Name yn py)) spos.line X.env = pure true) (hc : X.calm = true) (hi : PI X tgt iter wi) (S : CompScN X scope cl xs fr)
    (hgt : ∀ C s H fp, PG (compCx X (xs ++ fr.map (·.1)) scope cl C s H fp) tgt g)
    (ht : ∀ C s H fp, PTs (compCx X (xs ++ fr.map (·.1)) scope cl C s H fp) ifs tc) (he : ∀ C s H fp, PE (compCx X (xs ++ fr.map (·.1)) scope cl C s H fp) elt te)
    (hs : ∀ v, foldedSetIterable iter X.env v = pure v := by intro _; rfl) (hf : X.fn yn = true ∨ X.env.scope.names.lookup yn = some .local := by first | exact .inl rfl | exact .inr rfl | assumption) :
    PS X (.Assign [.Name yn py] (.ListComp elt [⟨tgt, iter, ifs, 0⟩] scope pos) spos) (tAsg (tLCN wi xs fr g tc te) (gName i)) := by
  intro pins s σ H D I h
  rw [exec_Assign_Name_used _ _ _ _ hsw]
  refine wpAny_bind (wpAny_standAt (wpAny_bind ?_))
  show wpAny _ X.A (do let _ ← comprehension (.ListComp elt [⟨tgt, iter, ifs, 0⟩] scope pos) scope X.env _ (newList []) false (eval iter X.env) (some (assign (.Name yn py) X.env))) _ _ s
  refine wpAny_bind (wpAny_mono (wpAny_comprehension_free (use := some (assign (.Name yn py) X.env)) (Q := fun _ s' => SP X pins D .next s') (cl := cl) rfl hs S.clos S.kind S.locs (thn (hi pins s σ H _ I h) fun v s1 h1 => thn h1 fun itv s2 h2 => ?_)) (fun _ s' hq => wpAny_pure (wpAny_pure hq)) fun _ _ e => e)
  obtain ⟨it, fp, tn, J, H2, e, I2, T, st2, f2, W, ⟨m0, w0⟩, turn⟩ := h2
  subst e
  refine wpAny_newObj_type (wpAny_newFunctionEnv S.nocell (by intro y hy; simp at hy) (fun h₁ hns₁ hsb₁ => ?_) S.kind)
  dsimp only at hns₁ hsb₁ ⊢
  generalize hHp : s2.heap.push { cls := .type "list", dict := none, data := .seq ([] : List Value).toArray } = hp at hns₁ hsb₁ ⊢
  have eC : hp.objs.size = s2.heap.objs.size + 1 := by rw [← hHp, Heap.size_push]
  have hDC : s2.heap.objs.size ≠ hp.objs.size := by rw [eC]; exact Nat.ne_of_lt (Nat.lt_succ_self _)
  have hC : s2.heap.objs.size ≤ hp.objs.size := by rw [eC]; exact Nat.le_succ _
  have hD : s2.heap.objs.size ≤ s2.heap.objs.size := Nat.le_refl _
  have nC : ∀ b o, s2.heap.get? b = some o → b ≠ hp.objs.size := fun b o e => Nat.ne_of_lt (Nat.lt_of_lt_of_le (Heap.lt_size e) hC)
  have nD : ∀ b o, s2.heap.get? b = some o → b ≠ s2.heap.objs.size := fun b o e => Nat.ne_of_lt (Heap.lt_size e)
  have old : ∀ b o, s2.heap.get? b = some o → h₁.get? b = some o := fun b o e => hsb₁.extBut b o (nC b o e) (Heap.get?_push_of_some _ (hHp ▸ Heap.get?_push_of_some _ e))
  have eD : h₁.get? s2.heap.objs.size = some (oL [] 0) := hsb₁.extBut _ _ hDC (Heap.get?_push_of_some _ (hHp ▸ Heap.get?_push_size _ rfl))
  have ho : ∀ b ∈ fp, ∃ o, s2.heap.get? b = some o := fun b hb => by
    obtain ⟨o, e, _⟩ := T.obj 0 _ st2 b hb
    exact ⟨o, e⟩
  have J0 : Inv (compCx X (xs ++ fr.map (·.1)) scope cl hp.objs.size s2 H2 fp) [(s2.heap.objs.size, oL [] 0)] (List.replicate xs.length none ++ frv fr σ) H2 { s2 with heap := h₁, toks := s2.toks + ([] : List (Str × Value)).length } :=
    compCxN_inv S I2 hC f2 ho rfl I2.bare old hns₁ hD hDC eD (oL_nc [] 0)
  have fpne : ∀ b ∈ fp, b ≠ s2.heap.objs.size := fun b hb => by
    obtain ⟨o, e⟩ := ho b hb
    exact nD b o e
  have fpC : ∀ b ∈ fp, b ≠ hp.objs.size := fun b hb => by
    obtain ⟨o, e⟩ := ho b hb
    exact nC b o e
  have okX := J0.ok
  -- what stays true of the iterator's objects through the loop
  have stat : ∀ {H' : Hp} {oD : Obj}, (∀ b ∈ fp, H' b = none) → ∀ b ∈ fp, FpOk (compCx X (xs ++ fr.map (·.1)) scope cl hp.objs.size s2 H2 fp) [(s2.heap.objs.size, oD)] H' b := fun {H' oD} hn b hb =>
    ⟨hn b hb, fpC b hb, okX.exfs b hb, .inl hb, (okX.exf b hb).2, fun p hp' => by
      have e : p = (s2.heap.objs.size, oD) := by
        have : p ∈ ([] : List (Addr × Obj)) ++ [(s2.heap.objs.size, oD)] := hp'
        simpa using this
      rw [e]
      exact (fpne b hb).symm⟩
  have st1 : tn 0 h₁ := T.keep _ _ _ st2 fun b _ o e => old b o e
  have loop : ∀ s₃ : Shared, s₃ = { s2 with heap := h₁, toks := s2.toks + ([] : List (Str × Value)).length } →
      codeAny (model X.prog X.w) X.A (.compLoop (.ListComp elt [⟨tgt, iter, ifs, 0⟩] scope pos) 0 (.ref it) (.ref s2.heap.objs.size) (compEnvC scope cl hp.objs.size X.env))
        (compPost (model X.prog X.w) X.A X.xe (some (assign (.Name yn py) X.env)) (fun _ s' => SP X pins D .next s') (.ref s2.heap.objs.size) hp.objs.size) s₃ := by
    rintro s₃ rfl
    refine compLoop_any (fun n s' => ∃ i ys H' acc its k, ys.length = xs.length ∧ Inv (compCx X (xs ++ fr.map (·.1)) scope cl hp.objs.size s2 H2 fp) [(s2.heap.objs.size, oL its k)] (ys ++ frv fr σ) H' s' ∧ tn i s'.heap ∧ (∀ b ∈ fp, H' b = none) ∧ Vals acc its ∧ W i n acc H') ?_ m0
      ⟨0, List.replicate xs.length none, H2, [], [], 0, by simp, J0, st1, fun b hb => (f2 b hb).1, .nil, w0⟩
    rintro n s3 ⟨i, ys, H3, acc, its, k, hys, I3, st3, fr3, rv, w3⟩
    have noE : ∀ {α : Type} {t : Sem α} {Q' : α → Shared → Prop} {s' : Shared} {E' : Value → Shared → Prop}, wpAny (model X.prog X.w) X.A t Q' (fun _ _ => False) s' → wpAny (model X.prog X.w) X.A t Q' E' s' := fun {α t Q' s' E'} h => wpAny_mono h (fun _ _ q => q) fun _ _ z => z.elim
    rcases turn i n acc H3 w3 with ⟨stop, hz, qn⟩ | ⟨go, step⟩
    · refine thn (T.done (compCx X (xs ++ fr.map (·.1)) scope cl hp.objs.size s2 H2 fp) rfl rfl rfl hc i _ s3 _ H3 _ I3 (stat fr3) st3 stop) fun r s4 ⟨hr, I4⟩ => ?_
      subst hr
      obtain ⟨m4, hn4, _⟩ := I4.loc
      have pD := I4.pin (s2.heap.objs.size, oL its k) (List.mem_append_right _ List.mem_cons_self)
      have I5 : Inv X pins σ (upd H3 s2.heap.objs.size (.lst acc)) s4 := comp_backN I2 hC hD hDC f2 I4 rv hz ⟨rfl, fun _ _ => rfl⟩
      have nCl : hp.objs.size ≠ X.env.locals := fun z => absurd (Nat.lt_of_lt_of_le I2.lt hC) (by rw [z]; exact Nat.lt_irrefl _)
      have nCc : ∀ z c, X.env.cells.lookup z = some c → c ≠ hp.objs.size := fun z c e q => by
        obtain ⟨w', oc, hoc, _⟩ := I2.cell z c e
        exact nC c oc hoc q
      have HC : (upd H3 s2.heap.objs.size (.lst acc)) hp.objs.size = none := by rw [upd_ne hDC.symm]; exact I4.free
      show wpAny _ X.A (assign (.Name yn py) X.env (.ref s2.heap.objs.size)) _ _ s4
      refine wpAny_assign_Name (store_ok2 (v := .ref s2.heap.objs.size) I5 hN hiy hy rfl (fun s6 I6 hsb => ?_) hf)
      obtain ⟨ad, sb, hb⟩ := hsb
      have nCa : hp.objs.size ≠ ad := by
        rcases hb with e | e
        · rw [e]; exact nCl
        · exact fun q => nCc yn ad e q.symm
      refine ⟨m4, hn4.sameBut sb nCa, fun h'' sb2 => ⟨_, _, I6.turned (it := hp.objs.size) (t' := s6.toks) (fun b o hb' e => (sb2.2 b hb').trans e) HC nCl (.inr (Nat.le_trans I2.sz hC)) nCc fun p hp' z => ?_, qn _ pD.2.1⟩⟩
      exact nC p.1 p.2 (I2.pin p hp').1 z
    · refine thn (T.item (compCx X (xs ++ fr.map (·.1)) scope cl hp.objs.size s2 H2 fp) rfl rfl rfl hc i _ s3 _ H3 _ I3 (stat fr3) st3 go) fun r s4 ⟨u, hr, h4⟩ => ?_
      subst hr
      refine thn h4 fun _ s5 ⟨xv, H5, I5, r5, y5, st5, fr5⟩ => ?_
      have I5' := I5.pinned (stat fr5) (T.obj _ _ st5)
      refine noE (thn (hgt _ _ _ _ _ s5 _ H5 xv u _ I5' r5 (step xv H5 y5 ys hys)) fun _ s6 ⟨σ6, H6, I6', ⟨zs, hzs, e6⟩, q6⟩ => ?_)
      subst e6
      refine noE (thn (ht _ _ _ _ _ s6 _ H6 _ I6' q6) fun b s7 ⟨H7, I7, q7⟩ => ?_)
      have back : ∀ {σ8 : St} {H8 : Hp} {s8 : Shared}, Inv (compCx X (xs ++ fr.map (·.1)) scope cl hp.objs.size s2 H2 fp) ([(s2.heap.objs.size, oL its k)] ++ pinsAt fp s5.heap) σ8 H8 s8 → tn (i + 1) s8.heap ∧ ∀ b ∈ fp, H8 b = none := fun {σ8 H8 s8} I8 => by
        refine ⟨T.keep _ _ _ st5 fun b hb o e => (I8.pin (b, o) (List.mem_append_right _ (List.mem_append_right _ (mem_pinsAt hb e)))).1, fun b hb => ?_⟩
        obtain ⟨o, e, d⟩ := T.obj _ _ st5 b hb
        exact (I8.pin (b, o) (List.mem_append_right _ (List.mem_append_right _ (mem_pinsAt hb e)))).2.1
      cases b with
      | false =>
        rw [if_neg Bool.false_ne_true] at q7 ⊢
        obtain ⟨m', hm, w7⟩ := q7
        obtain ⟨t7, n7⟩ := back I7
        exact ⟨m', hm, i + 1, zs, H7, acc, its, k, hzs, I7.unpinned, t7, n7, rv, w7⟩
      | true =>
        rw [if_pos rfl] at q7 ⊢
        refine noE (thn (he _ _ _ _ _ s7 _ H7 _ I7 q7) fun u8 s8 ⟨v8, H8, I8, r8, hlt, m', hm, w8⟩ => ?_)
        obtain ⟨t8, n8⟩ := back I8
        have pD := I8.pin (s2.heap.objs.size, oL its k) (List.mem_append_right _ (List.mem_append_left _ List.mem_cons_self))
        have hl := rv.length
        refine wpAny_list_append_plain (items := its.toArray) ⟨k, pD.1⟩ (fun h9 ⟨k9, e9⟩ sb9 => ?_) (by rw [List.size_toArray]; omega)
        have e9' : h9.get? s2.heap.objs.size = some (oL (its ++ [u8]) k9) := by
          rw [e9]
          simp [oL]
        have I9 : Inv (compCx X (xs ++ fr.map (·.1)) scope cl hp.objs.size s2 H2 fp) [] (zs ++ frv fr σ) H8 { s8 with heap := h9, toks := s8.toks } :=
          (I8.pins_of (pins' := []) fun p z => absurd z (by simp)).turned (it := s2.heap.objs.size) (fun b o hb e => (sb9.2 b hb).trans e) pD.2.1 hDC (.inr hD) (fun y c e z => by
            obtain ⟨w', oc, hoc, hd⟩ := I8.cell y c e
            rw [z, pD.1] at hoc
            cases hoc
            exact oL_nc _ _ _ hd) fun p z => absurd (show p ∈ ([] : List (Addr × Obj)) ++ [] from z) (by simp)
        refine ⟨m', hm, i + 1, zs, H8, acc ++ [v8], its ++ [u8], k9, hzs, I9.pins_of fun p z => ?_, T.keep _ _ _ t8 fun b hb o e => (sb9.2 b (fpne b hb)).trans e, n8, rv.append (.cons r8 .nil), w8⟩
        have e : p = (s2.heap.objs.size, oL (its ++ [u8]) k9) := by simpa using z
        subst e
        exact ⟨e9', pD.2.1, pD.2.2.1, pD.2.2.2.1, oL_nc _ _⟩
  exact codeAny_compStart_list (loop _ rfl) (T.self _ 0 _ _ _ st1 (loop _ rfl))
end
end L2
namespace L2
open PySem PySem.Spec PyProof.Rows
section
variable {X : Cx}
end
end L2
namespace L2
open PySem PySem.Spec PyProof.Rows
def TupK (K : PySem.W.Frag) (a : Addr) (xs : List V) : Prop :=
  ∃ (o : Obj) (its : Array Value) (n : Nat), K.lookup a = some o ∧ o.cls = .type "tuple" ∧ o.dict = none ∧ o.data = .seq its n ∧ its.size ≤ sizeLine ∧ Vals xs its.toList
def TupG (K : PySem.W.Frag) (mg : Str → Option Value) (x : Str) (xs : List V) : Prop := ∃ a, mg x = some (.ref a) ∧ TupK K a xs
section
variable {K : PySem.W.Frag} {mg : Str → Option Value} {x : Str} {a : Addr} {xs : List V} {H : Hp}
theorem TupK.sq (h : TupK K a xs) : SqT K H a xs := by
  obtain ⟨o, its, n, h1, h2, _, h3, h4, h5⟩ := h
  exact .inr ⟨o, its, n, h1, h2, h3, h4, h5⟩
theorem tup_mk {h : Heap} {its : Array Value} {n : Nat} {osl : Array (Option Value)} (X : K.In h) (G : h.Ns mainGlobals mg) (e : PySem.W.nsIn K mainGlobals x = some (some (.ref a)))
    (l : K.lookup a = some ⟨.type "tuple", none, .seq its n, osl⟩) (hz : its.size ≤ sizeLine) (v : Vals xs its.toList) : TupG K mg x xs :=
  ⟨a, PySem.W.mg_of X G e, _, its, n, l, rfl, rfl, rfl, hz, v⟩
end
inductive Fmt : V → Str → Prop where
  | int {i : Int} (h : i.natAbs.log2 < 1920) : Fmt (.int i) (toString i : String)
  | str {y : Str} (h : y.length ≤ sizeLine) : Fmt (.str y) y
abbrev TJ := Str → TE
section
variable {X : Cx} {K : PySem.W.Frag} {x : Str} {pos : Pos} {xs : List V}
def tTopT (K : PySem.W.Frag) (xs : List V) : TE := fun _ H Q => ∀ a, TupK K a xs → Q (.ref a) H
theorem pe_gtup (hk : X.K = K) (hg : Gl X x) (h : TupG K X.mg x xs) (hd : (x == ("__debug__" : Str)) = false := by decide) : PE X (.Name x pos) (tTopT K xs) := by
  obtain ⟨a, e, h⟩ := h
  exact fun _ _ _ H _ I q => ld_glob I hg e ⟨.ref a, H, I, rfl, q a h⟩ hd
def PJ (X : Cx) (es : List Expr) (t : TJ) : Prop :=
  ∀ (pins : List (Addr × Obj)) (s : Shared) (σ : St) (H : Hp) (acc : Str) (Q : VK), Inv X pins σ H s → t acc σ H Q →
    PySem.Joins (model X.prog X.w) X.A X.xe (evalEach es X.env) acc (fun out s1 => out.length ≤ sizeLine ∧ EP X pins σ Q (.str out s1.toks) { s1 with toks := s1.toks + 1 }) s
def jNil : TJ := fun acc _ H Q => acc.length ≤ sizeLine ∧ Q (.str acc) H
def jStr (x : Str) (u : TJ) : TJ := fun acc σ H Q => (acc ++ x).length ≤ sizeLine ∧ u (acc ++ x) σ H Q
def jVal (ta : TE) (u : TJ) : TJ := fun acc σ H Q => ta σ H fun v H1 => ∃ y, Fmt v y ∧ (acc ++ y).length ≤ sizeLine ∧ u (acc ++ y) σ H1 Q
theorem pj_nil : PJ X [] jNil := fun pins s σ H acc Q I h => ⟨h.1, .str acc, H, I.tok _, ⟨_, rfl⟩, h.2⟩
theorem pj_str {j} {es : List Expr} {u : TJ} (hu : PJ X es u) : PJ X (.Constant (.str x) j pos :: es) (jStr x u) := by
  intro pins s σ H acc Q I h
  obtain ⟨hz, h⟩ := h
  exact Calls.Constant_str ⟨x, _, rfl, hz, hu pins _ σ H (acc ++ x) Q (I.tok _) h⟩
theorem pj_val {e : Expr} {ta : TE} {es : List Expr} {u : TJ} (he : PE X e ta) (hu : PJ X es u) : PJ X (.FormattedValue e (-1) none pos :: es) (jVal ta u) := by
  intro pins s σ H acc Q I h
  refine wpAny_FormattedValue_plain (thn (he pins s σ H _ I h) fun v s1 ⟨x, H1, I1, r1, y, f, hz, q⟩ => ?_)
  cases f with
  | int hl =>
    obtain ⟨t, rfl⟩ := r1
    exact wpAny_formatField_int hl ⟨_, _, rfl, hz, hu pins _ σ H1 _ Q (I1.tok _) q⟩
  | str hl =>
    obtain ⟨t, rfl⟩ := r1
    exact wpAny_formatField_str ⟨_, _, rfl, hz, hu pins _ σ H1 _ Q I1 q⟩ ⟨_, _, rfl, hz, hu pins _ σ H1 _ Q (I1.tok _) q⟩ hl
def tJoined (u : TJ) : TE := u Str.empty
theorem pe_joined {v1 v2 : Expr} {rest : List Expr} {u : TJ} (hu : PJ X (v1 :: v2 :: rest) u) : PE X (.JoinedStr (v1 :: v2 :: rest) pos) (tJoined u) :=
  fun pins s σ H Q I h => wpAny_JoinedStr (hu pins s σ H Str.empty Q I h)
theorem pe_gcall0 {k : Nat} {sp : Sp} {p : Pos} {ps : List Str} (G : GF X.prog X.w X.K X.mg X.base x ps k sp) (hr : Room k X.A) (hg : Gl X x) (hdb : (x == ("__debug__" : Str)) = false := by decide) : PE X (.Call (.Name x p) [] [] pos) (tCall sp [] E0 tNil) := by
  obtain ⟨f, fd, hm, _, hk, hb, F⟩ := G
  exact pe_call0 F hr hg hm hk hb .nil pass0 hdb
theorem strVals : ∀ {ts : List Str} {us : List Value}, Vals (ts.map V.str) us → ∃ l : List (Str × Tok), us = strValues l ∧ l.map (·.1) = ts
  | [], _, .nil => ⟨[], rfl, rfl⟩
  | y :: ts, _, .cons ⟨t, e⟩ r => by
    obtain ⟨l, e1, e2⟩ := strVals r
    subst e e1 e2
    exact ⟨(y, t) :: l, rfl, rfl⟩
def rJoin (K : PySem.W.Frag) : V → List V → Hp → VK → Prop := fun x vs H Q => ∃ (sep : Str) (a : Addr) (ts : List Str), x = .str sep ∧ vs = [.ref a] ∧ SqL K H a (ts.map V.str) ∧ JoinOk sep ts = true ∧ Q (.str (Str.join sep ts)) H
theorem mt_join (h : X.K = K) : MtM X "str.join" (rJoin K) := by
  subst h
  intro pins s σ H x vs v us Q I rx rv h
  obtain ⟨sep, a, ts, rfl, rfl, hq, hj, q⟩ := h
  obtain ⟨t, rfl⟩ := rx
  obtain ⟨u, rfl, ru⟩ := rv.one
  cases ru
  obtain ⟨its, r, pl, hz⟩ := I.list hq
  obtain ⟨l, rfl, e⟩ := strVals r
  have e2 : Txt.join sep ts = Str.join sep ts := StrLaws.glued_eq_join sep ts
  exact SC.join pl.isList e hj fun t' k => ⟨.str _, H, I.tok _, ⟨t', rfl⟩, by rw [e2]; exact q⟩
end
end L2
namespace Sx
open PySem L2
section
variable {σ : St} {H : Hp} {Q : VK} {K : PySem.W.Frag} {ta : TE} {u : TJ} {acc x : Str}
theorem topT {xs : List V} (h : ∀ a, TupK K a xs → Q (.ref a) H) : tTopT K xs σ H Q := h
theorem fs (h : u Str.empty σ H Q) : tJoined u σ H Q := h
theorem jn (h : acc.length ≤ sizeLine ∧ Q (.str acc) H) : jNil acc σ H Q := h
theorem jv (h : ta σ H fun v H1 => ∃ y, Fmt v y ∧ (acc ++ y).length ≤ sizeLine ∧ u (acc ++ y) σ H1 Q) : jVal ta u acc σ H Q := h
theorem js (h : (acc ++ x).length ≤ sizeLine ∧ u (acc ++ x) σ H Q) : jStr x u acc σ H Q := h
end
end Sx
namespace L2
open PySem PySem.Spec PyProof.Rows
section
variable {prog : Program} {w : World} {A : Around} {E : Value → Shared → Prop} {s : Shared}
theorem tupNext {i a : Addr} {k : Nat} {its : Array Value} {v : Value} {Q : Value → Shared → Prop} (st : s.heap.IsTupleIter i a k) (hq : s.heap.IsTuple a its) (hv : its[k]? = some v)
    (q : ∀ g, g.IsTupleIter i a (k + 1) → Heap.SameBut i s.heap g → Q v { s with heap := g }) : wpAny (model prog w) A (Builtin.SmallTypes.nextOf (.ref i)) Q E s := by
  obtain ⟨p, p1, p2, p3⟩ := id st
  obtain ⟨r, r1, _, m, r3⟩ := hq
  unfold Builtin.SmallTypes.nextOf
  refine wpAny_bind (wpAny_callSpecial?_slot (name := Str.ofString "__next__") st.typeIs F.slot_tuple_iterator_next (wpAny_call_entry F.slot_tuple_iterator_next st.typeIs F.entry_tuple_iterator_next ?_ (F.args_tuple_iterator_next_1 _)))
  refine wpAny_bind (m := field (.ref i) 0) (wpAny_field p1 p3 (x := .ref a) rfl ?_)
  show wpAny _ _ (if (Value.ref a == Value.none) = true then _ else _) _ _ s
  rw [if_neg (show ¬ ((Value.ref a == Value.none) = true) from Bool.false_ne_true)]
  refine wpAny_bind (m := field (.ref i) 1) (wpAny_field p1 p3 (x := .int k 0) rfl ?_)
  refine wpAny_bind (m := seqItems? (.ref a)) (wpAny_seqItems r1 r3 ?_)
  simp only [Int.toNat_natCast, hv]
  refine wpAny_bind (wpAny_setField p1 p3 (by simp) (wpAny_pure ⟨v, rfl, wpAny_pure (q _ ?_ (Heap.SameBut.update ..))⟩))
  exact ⟨_, Heap.get?_update_self _ p1 (Obj.isFreed_of_fields (Obj.data_mapFields p3 _)), (Obj.cls_mapFields ..).trans p2, by rw [Obj.data_mapFields p3]; simp [rawInt]⟩
theorem tupStop {i a : Addr} {k : Nat} {its : Array Value} {Q : Value → Shared → Prop} (hA : A.handled = none) (st : s.heap.IsTupleIter i a k) (hq : s.heap.IsTuple a its) (hv : its[k]? = none)
    (q : ∀ g e, Heap.ExtBut i s.heap g → (∃ o, g.get? e = some o ∧ o.cls = .type "StopIteration") → E (.ref e) { s with heap := g }) : wpAny (model prog w) A (Builtin.SmallTypes.nextOf (.ref i)) Q E s := by
  obtain ⟨p, p1, p2, p3⟩ := id st
  obtain ⟨r, r1, _, m, r3⟩ := hq
  unfold Builtin.SmallTypes.nextOf
  refine wpAny_bind (wpAny_callSpecial?_slot (name := Str.ofString "__next__") st.typeIs F.slot_tuple_iterator_next (wpAny_call_entry F.slot_tuple_iterator_next st.typeIs F.entry_tuple_iterator_next ?_ (F.args_tuple_iterator_next_1 _)))
  refine wpAny_bind (m := field (.ref i) 0) (wpAny_field p1 p3 (x := .ref a) rfl ?_)
  show wpAny _ _ (if (Value.ref a == Value.none) = true then _ else _) _ _ s
  rw [if_neg (show ¬ ((Value.ref a == Value.none) = true) from Bool.false_ne_true)]
  refine wpAny_bind (m := field (.ref i) 1) (wpAny_field p1 p3 (x := .int k 0) rfl ?_)
  refine wpAny_bind (m := seqItems? (.ref a)) (wpAny_seqItems r1 r3 ?_)
  simp only [Int.toNat_natCast, hv]
  refine wpAny_bind (wpAny_rule (wpAny_bind (wpAny_setField p1 p3 (by simp) ?_)))
  refine wpAny_bind (m := newExc (.type "StopIteration") []) ?_
  simp only [newExc, newTuple]
  refine wpAny_bind (wpAny_newObj_type ?_ (by size_fits))
  refine wpAny_bind (m := firstArgMember _ _) (wpAny_of_eq (a := Value.none) (by first | rfl | (simp only [firstArgMember]; rfl)) (wpAny_newObj_type ?_ (by size_fits)))
  simp only [raiseNew]
  refine wpAny_bind (wpAny_handled ?_)
  first | rw [show A.in1.handled = none from hA] | rw [hA]
  exact wpAny_bind (wpAny_pure (wpAny_throw (q _ _ (((Heap.SameBut.update ..).extBut.push _).push _) ⟨_, Heap.get?_push_size _ rfl, rfl⟩)))
abbrev ZipBut (z u i j : Addr) (g g' : Heap) : Prop := ∀ c o, c ≠ z → c ≠ u → c ≠ i → c ≠ j → g.get? c = some o → g'.get? c = some o
theorem zipItem {z t u i j a b : Addr} {k : Nat} {xs ys : Array Value} {x y c d : Value} {Q : Value → Shared → Prop} (D : ZipApart z t u i j a b) (hz : IsZip s.heap z t u .none) (ht : IsPair s.heap t (.ref i) (.ref j))
    (hu : IsPair s.heap u c d) (hi : s.heap.IsTupleIter i a k) (hj : s.heap.IsTupleIter j b k) (ha : s.heap.IsTuple a xs) (hb : s.heap.IsTuple b ys) (hx : xs[k]? = some x) (hy : ys[k]? = some y)
    (q : ∀ g, IsZip g z t u (rawInt s.heap.objs.size) → IsPair g u x y → g.IsTupleIter i a (k + 1) → g.IsTupleIter j b (k + 1) → IsPair g s.heap.objs.size x y → g.objs.size = s.heap.objs.size + 1 →
      ZipBut z u i j s.heap g → Q (.ref s.heap.objs.size) { s with heap := g }) :
    wpAny (model prog w) A (Builtin.«zip.__next__» ⟨[.ref z], []⟩) (fun fin s' => ∃ v, fin = .done (.ret v) ∧ Q v s') E s := by
  refine wpAny_bind (m := field (.ref z) 2) (wpAny_field hz rfl (x := .bool false) rfl ?_)
  refine wpAny_bind (m := field (.ref z) 3) (wpAny_field hz rfl (x := .ref t) rfl ?_)
  refine wpAny_bind (wpAny_seqItems ht rfl ?_)
  refine wpAny_bind (m := Builtin.SmallTypes.ownedTupleIsFree (.ref z)) ?_
  unfold Builtin.SmallTypes.ownedTupleIsFree
  refine wpAny_bind (wpAny_field hz rfl (x := .none) rfl (wpAny_pure ?_))
  simp only [if_true]
  refine wpAny_bind (wpAny_rule (wpAny_bind (wpAny_field hz rfl (x := .ref u) rfl ?_)))
  refine wpAny_bind (wpAny_setField_rec hz (by simp) fun g1 z1 s1 => ?_)
  replace z1 : IsZip g1 z t u .ellipsis := z1
  refine wpAny_bind ?_
  simp only [List.zipIdx_cons, List.zipIdx_nil, List.forIn_cons, List.forIn_nil]
  refine wpAny_bind (wpAny_bind (wpAny_onRaise (wpAny_bind (m := Builtin.SmallTypes.nextOf (.ref i)) ?_)))
  refine tupNext (hi.extBut s1.extBut D.i1z) (ha.extBut s1.extBut D.l1z) hx fun g2 n2 s2 => wpAny_pure ?_
  have u2 : IsPair g2 u c d := s2.extBut _ _ D.TOi1 (s1.extBut _ _ D.TOz hu)
  refine wpAny_bind (wpAny_seqItems u2 rfl (wpAny_bind (wpAny_updateSeq_pair u2 fun g3 u3 s3 => ?_)))
  replace u3 : IsPair g3 u x d := u3
  refine wpAny_bind (wpAny_letGo (wpAny_pure ?_))
  refine wpAny_bind (wpAny_bind (wpAny_onRaise (wpAny_bind (m := Builtin.SmallTypes.nextOf (.ref j)) ?_)))
  refine tupNext (((hj.extBut s1.extBut D.i2z).extBut s2.extBut D.i12.symm).extBut s3.extBut D.TOi2.symm) (((hb.extBut s1.extBut D.l2z).extBut s2.extBut D.l2i1).extBut s3.extBut D.l2TO) hy fun g4 n4 s4 => wpAny_pure ?_
  have u4 : IsPair g4 u x d := s4.extBut _ _ D.TOi2 u3
  refine wpAny_bind (wpAny_seqItems u4 rfl (wpAny_bind (wpAny_updateSeq_pair u4 fun g5 u5 s5 => ?_)))
  replace u5 : IsPair g5 u x y := u5
  refine wpAny_bind (wpAny_letGo (wpAny_pure (wpAny_pure ?_)))
  refine wpAny_bind (wpAny_seqItems u5 rfl (wpAny_bind (wpAny_newTuple ?_)))
  have sz : g5.objs.size = s.heap.objs.size := by rw [s5.1, s4.1, s3.1, s2.1, s1.1]
  have z5 : IsZip g5 z t u .ellipsis := s5.extBut _ _ D.TOz.symm (s4.extBut _ _ D.i2z.symm (s3.extBut _ _ D.TOz.symm (s2.extBut _ _ D.i1z.symm z1)))
  have k5 : ZipBut z u i j s.heap g5 := fun c o c1 c2 c3 c4 e => s5.extBut _ _ c2 (s4.extBut _ _ c4 (s3.extBut _ _ c2 (s2.extBut _ _ c3 (s1.extBut _ _ c1 e))))
  have i5 : g5.IsTupleIter i a (k + 1) := ((n2.extBut s3.extBut D.TOi1.symm).extBut s4.extBut D.i12).extBut s5.extBut D.TOi1.symm
  have j5 : g5.IsTupleIter j b (k + 1) := n4.extBut s5.extBut D.TOi2.symm
  have zl : z < g5.objs.size := Heap.lt_size z5
  refine wpAny_bind (m := Builtin.SmallTypes.ownedTupleHandOut (.ref z) (.ref g5.objs.size)) ?_
  unfold Builtin.SmallTypes.ownedTupleHandOut
  have z6 : IsZip (g5.push { cls := .type "tuple", data := .seq #[x, y] }) z t u .ellipsis := Heap.get?_push_of_some _ z5
  refine wpAny_bind (wpAny_setField_rec z6 (by simp) fun g7 z7 s7 => ?_)
  replace z7 : IsZip g7 z t u (rawInt g5.objs.size) := z7
  refine wpAny_setField_rec z7 (by simp) fun g8 z8 s8 => ?_
  replace z8 : IsZip g8 z t u (rawInt g5.objs.size) := z8
  have up : ∀ c o, c ≠ z → g5.get? c = some o → g8.get? c = some o := fun c o c1 e => s8.extBut _ _ c1 (s7.extBut _ _ c1 (Heap.get?_push_of_some _ e))
  have t8 : IsPair g8 g5.objs.size x y := s8.extBut _ _ (Nat.ne_of_gt zl) (s7.extBut _ _ (Nat.ne_of_gt zl) (Heap.get?_push_size _ rfl))
  have e8 : g8.objs.size = g5.objs.size + 1 := by rw [s8.1, s7.1, Heap.size_push]
  rw [sz] at z8 t8 e8
  refine wpAny_pure ⟨_, rfl, ?_⟩
  show Q (.ref g5.objs.size) _
  rw [sz]
  exact q g8 z8 (up _ _ D.TOz u5) (i5.at fun o e => up _ o D.i1z e) (j5.at fun o e => up _ o D.i2z e) t8 e8 fun c o c1 c2 c3 c4 e => up c o c1 (k5 c o c1 c2 c3 c4 e)
theorem zipStop {z t u i j a b : Addr} {k : Nat} {xs ys : Array Value} {c d : Value} {Q : Fin → Shared → Prop} (hA : A.handled = none) (D : ZipApart z t u i j a b) (hz : IsZip s.heap z t u .none) (ht : IsPair s.heap t (.ref i) (.ref j))
    (hu : IsPair s.heap u c d) (hi : s.heap.IsTupleIter i a k) (ha : s.heap.IsTuple a xs) (hx : xs[k]? = none)
    (q : ∀ g e, ZipBut z u i j s.heap g → (∃ o, g.get? e = some o ∧ o.cls = .type "StopIteration") → E (.ref e) { s with heap := g }) :
    wpAny (model prog w) A (Builtin.«zip.__next__» ⟨[.ref z], []⟩) Q E s := by
  refine wpAny_bind (m := field (.ref z) 2) (wpAny_field hz rfl (x := .bool false) rfl ?_)
  refine wpAny_bind (m := field (.ref z) 3) (wpAny_field hz rfl (x := .ref t) rfl ?_)
  refine wpAny_bind (wpAny_seqItems ht rfl ?_)
  refine wpAny_bind (m := Builtin.SmallTypes.ownedTupleIsFree (.ref z)) ?_
  unfold Builtin.SmallTypes.ownedTupleIsFree
  refine wpAny_bind (wpAny_field hz rfl (x := .none) rfl (wpAny_pure ?_))
  simp only [if_true]
  refine wpAny_bind (wpAny_rule (wpAny_bind (wpAny_field hz rfl (x := .ref u) rfl ?_)))
  refine wpAny_bind (wpAny_setField_rec hz (by simp) fun g1 z1 s1 => ?_)
  replace z1 : IsZip g1 z t u .ellipsis := z1
  refine wpAny_bind ?_
  simp only [List.zipIdx_cons, List.zipIdx_nil, List.forIn_cons, List.forIn_nil]
  refine wpAny_bind (wpAny_bind (wpAny_onRaise (wpAny_bind (m := Builtin.SmallTypes.nextOf (.ref i)) ?_)))
  refine tupStop hA (hi.extBut s1.extBut D.i1z) (ha.extBut s1.extBut D.l1z) hx fun g2 e s2 he => ?_
  obtain ⟨oe, e1, e2⟩ := he
  have z2 : IsZip g2 z t u .ellipsis := s2 _ _ D.i1z.symm z1
  have ne : e ≠ z := fun x => by subst x; rw [z2] at e1; cases e1; simp at e2
  exact wpAny_setField_rec z2 (by simp) fun g3 _ s3 => q g3 e (fun c o c1 _ c3 _ x => s3.extBut _ _ c1 (s2 _ _ c3 (s1.extBut _ _ c1 x))) ⟨oe, s3.extBut _ _ ne e1, e2⟩
theorem zipNextItem {z t u i j a b : Addr} {k : Nat} {xs ys : Array Value} {x y c d : Value} {Q : Option Value → Shared → Prop} (D : ZipApart z t u i j a b) (hz : IsZip s.heap z t u .none) (ht : IsPair s.heap t (.ref i) (.ref j))
    (hu : IsPair s.heap u c d) (hi : s.heap.IsTupleIter i a k) (hj : s.heap.IsTupleIter j b k) (ha : s.heap.IsTuple a xs) (hb : s.heap.IsTuple b ys) (hx : xs[k]? = some x) (hy : ys[k]? = some y)
    (q : ∀ g, IsZip g z t u (rawInt s.heap.objs.size) → IsPair g u x y → g.IsTupleIter i a (k + 1) → g.IsTupleIter j b (k + 1) → IsPair g s.heap.objs.size x y → g.objs.size = s.heap.objs.size + 1 →
      ZipBut z u i j s.heap g → Q (some (.ref s.heap.objs.size)) { s with heap := g }) : wpAny (model prog w) A (pyNext (.ref z)) Q E s := by
  have ty : s.TypeIs (.ref z) "zip" := ⟨_, hz, rfl⟩
  unfold pyNext
  exact wpAny_bind (wpAny_attempt (wpAny_callSpecial?_slot (name := Str.ofString "__next__") ty F.slot_zip_next (wpAny_call_entry F.slot_zip_next ty F.entry_zip_next
    (zipItem D hz ht hu hi hj ha hb hx hy fun g b1 b2 b3 b4 b5 b6 b7 => wpAny_pure (q g b1 b2 b3 b4 b5 b6 b7)) (F.args_zip_next_1 _))))
theorem zipNextStop {z t u i j a b : Addr} {k : Nat} {xs ys : Array Value} {c d : Value} {Q : Option Value → Shared → Prop} (hA : A.handled = none) (D : ZipApart z t u i j a b) (hz : IsZip s.heap z t u .none) (ht : IsPair s.heap t (.ref i) (.ref j))
    (hu : IsPair s.heap u c d) (hi : s.heap.IsTupleIter i a k) (ha : s.heap.IsTuple a xs) (hx : xs[k]? = none)
    (q : ∀ g, ZipBut z u i j s.heap g → Q none { s with heap := g }) : wpAny (model prog w) A (pyNext (.ref z)) Q E s := by
  have ty : s.TypeIs (.ref z) "zip" := ⟨_, hz, rfl⟩
  unfold pyNext
  refine wpAny_bind (wpAny_attempt (wpAny_callSpecial?_slot (name := Str.ofString "__next__") ty F.slot_zip_next (wpAny_call_entry F.slot_zip_next ty F.entry_zip_next
    (zipStop (ys := ys) hA D hz ht hu hi ha hx fun g e hk he => ?_) (F.args_zip_next_1 _))))
  obtain ⟨o, e1, e2⟩ := he
  exact wpAny_bind (wpAny_isInstance (T := "StopIteration") (b := true) ⟨o, e1, e2⟩ isSubtype_stop (wpAny_pure (q _ hk)))
abbrev zi (a : Addr) : Obj := { cls := .type "tuple_iterator", data := .fields #[.ref a, .int 0 0] }
abbrev zg1 (h : Heap) (a : Addr) : Heap := h.push (zi a)
abbrev zg2 (h : Heap) (a b : Addr) : Heap := (zg1 h a).push (zi b)
abbrev zg3 (h : Heap) (a b : Addr) : Heap := (zg2 h a b).push { cls := .type "tuple", data := .seq #[.ref h.objs.size, .ref (zg1 h a).objs.size] }
abbrev zg4 (h : Heap) (a b : Addr) : Heap := (zg3 h a b).push { cls := .type "tuple", data := .seq #[.none, .none] }
abbrev zg5 (h : Heap) (a b : Addr) : Heap := (zg4 h a b).push { cls := .type "zip", data := .fields #[.none, .bool false, .bool false, .ref (zg2 h a b).objs.size, .ref (zg3 h a b).objs.size] }
theorem zipMeets (a b : Addr) (xs ys : Array Value) : Meets (Builtin.«zip.__new__» ⟨[.type "zip", .ref a, .ref b], []⟩) (fun _ R s => s.heap.IsTuple a xs ∧ s.heap.IsTuple b ys ∧
      R (.ok (.ret (.ref (zg4 s.heap a b).objs.size))) { s with heap := zg5 s.heap a b }) :=
  .of_wp fun prog w A R s h => by
    obtain ⟨hp, g, d, tk, os⟩ := s; obtain ⟨ha, hb, h⟩ := h
    have hsub := sub_zip
    have e1 : Heap.IsTuple (Shared.heap ⟨hp, g, d, tk, os⟩) a xs := ha
    have e2 : Heap.IsTuple (Shared.heap ⟨hp.push (zi a), g, d, tk, os⟩) b ys := Heap.IsTuple.push hb _
    wp_walk using wpAny_pyIter_tuple e1, wpAny_pyIter_tuple e2
    exact ⟨_, rfl, h⟩
theorem zipCall {a b : Addr} {xs ys : Array Value} {Q : Value → Shared → Prop} (ha : s.heap.IsTuple a xs) (hb : s.heap.IsTuple b ys)
    (q : ∀ g, IsZip g (s.heap.objs.size + 4) (s.heap.objs.size + 2) (s.heap.objs.size + 3) .none → IsPair g (s.heap.objs.size + 2) (.ref s.heap.objs.size) (.ref (s.heap.objs.size + 1)) →
      IsPair g (s.heap.objs.size + 3) .none .none → g.IsTupleIter s.heap.objs.size a 0 → g.IsTupleIter (s.heap.objs.size + 1) b 0 → g.objs.size = s.heap.objs.size + 5 →
      (∀ c o, s.heap.get? c = some o → g.get? c = some o) → Q (.ref (s.heap.objs.size + 4)) { s with heap := g }) : wpAny (model prog w) A (call (.type "zip") [.ref a, .ref b]) Q E s := by
  refine callType_new F.called_zip (by decide) (F.typeCall_zip_2 _ _) (F.newCall_zip_2 _ _) (fun obj => F.args_object_init_3 obj _ _) F.entry_zip_new (zipMeets a b xs ys) ⟨ha, hb, ?_⟩
  have z1 : (zg1 s.heap a).objs.size = s.heap.objs.size + 1 := Heap.size_push ..
  have z2 : (zg2 s.heap a b).objs.size = s.heap.objs.size + 2 := by rw [Heap.size_push, z1]
  have z3 : (zg3 s.heap a b).objs.size = s.heap.objs.size + 3 := by rw [Heap.size_push, z2]
  have z4 : (zg4 s.heap a b).objs.size = s.heap.objs.size + 4 := by rw [Heap.size_push, z3]
  have z5 : (zg5 s.heap a b).objs.size = s.heap.objs.size + 5 := by rw [Heap.size_push, z4]
  have p : ∀ {h : Heap} {c : Addr} {o o' : Obj}, h.get? c = some o → (h.push o').get? c = some o := fun e => Heap.get?_push_of_some _ e
  have g5 : (zg5 s.heap a b).get? (zg4 s.heap a b).objs.size = some _ := Heap.get?_push_size _ rfl
  have g4 : (zg5 s.heap a b).get? (zg3 s.heap a b).objs.size = some _ := p (Heap.get?_push_size _ rfl)
  have g3 : (zg5 s.heap a b).get? (zg2 s.heap a b).objs.size = some _ := p (p (Heap.get?_push_size _ rfl))
  have g2 : (zg5 s.heap a b).get? (zg1 s.heap a).objs.size = some _ := p (p (p (Heap.get?_push_size _ rfl)))
  have g1 : (zg5 s.heap a b).get? s.heap.objs.size = some _ := p (p (p (p (Heap.get?_push_size _ rfl))))
  show _ ∧ _
  rw [z2, z3, z4] at g5
  rw [z1, z2] at g3
  rw [z3] at g4
  rw [z1] at g2
  rw [z4]
  exact ⟨⟨_, g5, rfl⟩, q _ g5 g3 g4 ⟨_, g1, rfl, rfl⟩ ⟨_, g2, rfl, rfl⟩ z5 fun c o x => p (p (p (p (p x))))⟩
end
def Itz (K : PySem.W.Frag) (xs ys : List V) : It :=
  ⟨fun i _ => i < xs.length ∧ i < ys.length, fun i H v H' => ∃ T x y, v = .ref T ∧ H T = none ∧ xs[i]? = some x ∧ ys[i]? = some y ∧ H' = upd H T (.tup [x, y]), fun i _ => xs.length ≤ i⟩
theorem isT {h : Heap} {a : Addr} {xs : Array Value} (p : IsTup h a xs) : h.IsTuple a xs := p
theorem turn_zip {P : Program} {w : World} {K : PySem.W.Frag} {elts : List Expr} {x1} {pos : Pos} {xs ys : List V} (z t u i j a b : Addr) (D : ZipApart z t u i j a b) (ha : TupK K a xs) (hb : TupK K b ys) :
    Turn P w K (.Tuple elts x1 pos) (Itz K xs ys) [z, t, u, i, j] z (fun k h => IsZip h z t u .none ∧ IsPair h t (.ref i) (.ref j) ∧ (∃ c d, IsPair h u c d) ∧ h.IsTupleIter i a k ∧ h.IsTupleIter j b k) where
  mem := by simp
  obj := fun k h st c hc => by
    obtain ⟨s1, s2, ⟨_, _, s3⟩, ⟨o4, s4, _, d4⟩, ⟨o5, s5, _, d5⟩⟩ := st
    simp only [List.mem_cons, List.not_mem_nil, or_false] at hc
    rcases hc with rfl | rfl | rfl | rfl | rfl
    · exact ⟨_, s1, fun v z => by cases (show Data.fields _ = Data.cell v from z)⟩
    · exact ⟨_, s2, fun v z => by cases (show Data.seq _ _ = Data.cell v from z)⟩
    · exact ⟨_, s3, fun v z => by cases (show Data.seq _ _ = Data.cell v from z)⟩
    · exact ⟨o4, s4, fun v z => by rw [d4] at z; cases z⟩
    · exact ⟨o5, s5, fun v z => by rw [d5] at z; cases z⟩
  keep := fun k h h' st kp => by
    obtain ⟨s1, s2, ⟨c, d, s3⟩, s4, s5⟩ := st
    exact ⟨kp z (by simp) _ s1, kp t (by simp) _ s2, ⟨c, d, kp u (by simp) _ s3⟩, s4.at fun o q => kp i (by simp) o q, s5.at fun o q => kp j (by simp) o q⟩
  item := by
    intro X hP hw hK hc k pins s σ H E I hf st hg
    subst hP hw hK
    obtain ⟨s1, s2, ⟨c, d, s3⟩, s4, s5⟩ := st
    obtain ⟨its, rv, pa, _⟩ := I.tuple (ha.sq (H := H))
    obtain ⟨jts, rw', pb, _⟩ := I.tuple (hb.sq (H := H))
    obtain ⟨k1, k2⟩ := hg
    obtain ⟨v1, e1, r1⟩ := rv.get (List.getElem?_eq_getElem k1)
    obtain ⟨v2, e2, r2⟩ := rw'.get (List.getElem?_eq_getElem k2)
    refine zipNextItem D s1 s2 s3 s4 s5 (isT pa) (isT pb) (x := v1) (y := v2) (by simpa using e1) (by simpa using e2) fun g b1 b2 b3 b4 b5 b6 b7 => ⟨_, rfl, wpAny_letOwnedTupleGo_zip b1 fun g2 z2 hs2 => ?_⟩
    replace hs2 : Heap.SameBut z g g2 := hs2
    have fr : H s.heap.objs.size = none := I.hok.fresh (Nat.le_refl _)
    have lt : ∀ {c o}, s.heap.get? c = some o → s.heap.objs.size ≠ c := fun e => Nat.ne_of_gt (Heap.lt_size e)
    have neT : s.heap.objs.size ≠ z := lt s1
    have keep : ∀ c o, c ≠ z → c ≠ u → c ≠ i → c ≠ j → s.heap.get? c = some o → g2.get? c = some o := fun c o n1 n2 n3 n4 q => (hs2.2 c n1).trans (b7 c o n1 n2 n3 n4 q)
    have nT : ∀ c v, H c = some v → c ≠ s.heap.objs.size := fun c v q z => by rw [z, fr] at q; cases q
    have nz : ∀ c v, H c = some v → ∀ b ∈ [z, t, u, i, j], c ≠ b := fun c v q b hb z => by rw [z, (hf b hb).1] at q; cases q
    have keepH : ∀ c v o, H c = some v → s.heap.get? c = some o → g2.get? c = some o := fun c v o q e => keep c o (nz c v q z (by simp)) (nz c v q u (by simp)) (nz c v q i (by simp)) (nz c v q j (by simp)) e
    refine ⟨.ref s.heap.objs.size, upd H s.heap.objs.size (.tup [xs[k], ys[k]]), ?_, rfl, ⟨_, _, _, rfl, fr, List.getElem?_eq_getElem k1, List.getElem?_eq_getElem k2, rfl⟩, ⟨z2, ?_, ⟨_, _, (hs2.2 u D.TOz).trans b2⟩, b3.at fun o q => (hs2.2 i D.i1z).trans q, b4.at fun o q => (hs2.2 j D.i2z).trans q⟩, fun c hc => ?_⟩
    · refine I.call' (ch := [z, t, u, i, j]) rfl ⟨fun b o q k hb hx => ?_, fun b o q k hb hx => ?_, fun b o q k hx => ?_, fun b o q hx => ?_, fun b xs q => ?_, fun b o u q => ?_, fun b ps q => ?_⟩ (fun b v q => ?_) I.bare fun b hb => ?_
      · exact keep b o (fun z => hx (by simp [z])) (fun z => hx (by simp [z])) (fun z => hx (by simp [z])) (fun z => hx (by simp [z])) q
      · exact ⟨o.slots, keep b o (fun z => hx (by simp [z])) (fun z => hx (by simp [z])) (fun z => hx (by simp [z])) (fun z => hx (by simp [z])) q⟩
      · rw [upd_ne (Nat.ne_of_lt (Heap.lt_size q))]; exact k
      · exact ⟨o, keep b o (fun z => hx (by simp [z])) (fun z => hx (by simp [z])) (fun z => hx (by simp [z])) (fun z => hx (by simp [z])) q⟩
      · rw [upd_ne (nT _ _ q)]; exact q
      · rw [upd_ne (nT _ _ q)]; exact q
      · exact ⟨#[], by rw [upd_ne (nT _ _ q), q]; simp⟩
      · by_cases hb : b = s.heap.objs.size
        · subst hb
          rw [upd_same] at q
          cases q
          exact ⟨by show 2 ≤ sizeLine; decide, [v1, v2], .cons r1 (.cons r2 .nil), ⟨_, (hs2.2 _ neT).trans b5, rfl, _, rfl⟩⟩
        · rw [upd_ne hb] at q
          refine (I.hok b v q).stay (fun c v' hc q' => ?_) (fun c q' => ?_) fun c xs q' => ?_
          · rcases hc with z | z
            · subst z; exact keepH _ v _ q q'
            · exact keepH c _ _ z q'
          · rw [upd_ne (nT _ _ q')]; exact q'
          · rw [upd_ne (nT _ _ q')]; exact q'
      · have f := hf b hb
        exact ⟨f.2.2.2.1, f.2.1, f.2.2.2.2.1, f.2.2.2.2.2⟩
    · exact (hs2.2 t D.TIz).trans (b7 t _ D.TIz D.TITO D.TIi1 D.TIi2 s2)
    · rw [upd_ne fun e => ?_]
      · exact (hf c hc).1
      · have hc' := hc
        simp only [List.mem_cons, List.not_mem_nil, or_false] at hc'
        obtain ⟨o4, p4, _⟩ := s4
        obtain ⟨o5, p5, _⟩ := s5
        rcases hc' with h | h | h | h | h
        · exact lt s1 (e.symm.trans h)
        · exact lt s2 (e.symm.trans h)
        · exact lt s3 (e.symm.trans h)
        · exact lt p4 (e.symm.trans h)
        · exact lt p5 (e.symm.trans h)
  done := by
    intro X hP hw hK hc k pins s σ H E I hf st hg
    subst hP hw hK
    obtain ⟨s1, s2, ⟨c, d, s3⟩, s4, s5⟩ := st
    obtain ⟨its, rv, pa, _⟩ := I.tuple (ha.sq (H := H))
    have hl := rv.length
    have hg' : xs.length ≤ k := hg
    refine zipNextStop (ys := #[]) (I.ok.hd hc) D s1 s2 s3 s4 (isT pa) (by simp; omega) fun g hk => ⟨rfl, ?_⟩
    have nz : ∀ c v, H c = some v → ∀ b ∈ [z, t, u, i, j], c ≠ b := fun c v q b hb z => by rw [z, (hf b hb).1] at q; cases q
    have keep : ∀ c o, c ∉ [z, t, u, i, j] → s.heap.get? c = some o → g.get? c = some o := fun c o n q => hk c o (fun z => n (by simp [z])) (fun z => n (by simp [z])) (fun z => n (by simp [z])) (fun z => n (by simp [z])) q
    have keepH : ∀ c v o, H c = some v → s.heap.get? c = some o → g.get? c = some o := fun c v o q e => keep c o (fun m => nz c v q c m rfl) e
    refine I.call' (H' := H) (ch := [z, t, u, i, j]) rfl ⟨fun b o q k hb hx => ?_, fun b o q k hb hx => ?_, fun b o q k hx => ?_, fun b o q hx => ?_, fun b xs q => ?_, fun b o u q => ?_, fun b ps q => ?_⟩ (fun b v q => ?_) I.bare fun b hb => ?_
    · exact keep b o hx q
    · exact ⟨o.slots, keep b o hx q⟩
    · exact k
    · exact ⟨o, keep b o hx q⟩
    · exact q
    · exact q
    · exact ⟨#[], by rw [q]; simp⟩
    · refine (I.hok b v q).stay (fun c v' hc q' => ?_) (fun c q' => q') fun c xs q' => q'
      rcases hc with z | z
      · subst z; exact keepH _ v _ q q'
      · exact keepH c _ _ z q'
    · have f := hf b hb
      exact ⟨f.2.2.2.1, f.2.1, f.2.2.2.2.1, f.2.2.2.2.2⟩
  self := fun _ _ _ _ _ st h => wpAny_pyIter_zip st.1 h
section
variable {X : Cx} {K : PySem.W.Frag}
def iZip (K : PySem.W.Frag) (ta : TA) : TI := fun σ H R => ta σ H fun vs H1 => ∃ a b xs ys, vs = [.ref a, .ref b] ∧ TupK K a xs ∧ TupK K b ys ∧ R (Itz K xs ys) H1
theorem bo_zip : bootBuiltins "zip" = some (.type "zip") := by decide +kernel
theorem pi_zipK {elts : List Expr} {x1} {tpos : Pos} {a b : Expr} {ta : TA} {p pos : Pos} (h : X.K = K) (hg : Gl X "zip") (hm : X.mg "zip" = none) (ha : PA X [a, b] ta)
    (hs : [a, b].all noStar = true := by rfl) : PI X (.Tuple elts x1 tpos) (.Call (.Name "zip" p) [a, b] [] pos) (iZip K ta) := by
  subst h
  intro pins s σ H R I h
  refine Call_ (ld_blt I hg hm bo_zip (PyProof.Rows.callWith_type1 (thn (ha pos pins s σ H _ I h) fun us s1 ⟨vs, H1, I1, r1, q1⟩ => ?_) (star_ns (Bool.and_eq_true_iff.mp hs).1) (any_ns (Bool.and_eq_true_iff.mp hs).2)))
  obtain ⟨a, b, xs, ys, e, ka, kb, q⟩ := q1
  subst e
  obtain ⟨u1, u2, e, k1, k2⟩ := r1.two
  subst e
  cases k1
  cases k2
  obtain ⟨its, rv, pa, _⟩ := I1.tuple (ka.sq (H := H1))
  obtain ⟨jts, rw', pb, _⟩ := I1.tuple (kb.sq (H := H1))
  refine zipCall (isT pa) (isT pb) fun g b1 b2 b3 b4 b5 b6 b7 => ?_
  refine wpAny_pyIter_zip (s := { s1 with heap := g }) b1 ?_
  have la : @LT.lt Nat _ a s1.heap.objs.size := by obtain ⟨o, e, _⟩ := pa; exact Heap.lt_size e
  have lb : @LT.lt Nat _ b s1.heap.objs.size := by obtain ⟨o, e, _⟩ := pb; exact Heap.lt_size e
  generalize hN : s1.heap.objs.size = N at *
  refine ⟨N + 4, [N + 4, N + 2, N + 3, N, N + 1], _, _, H1, rfl, I1.kept (t' := s1.toks) b7, turn_zip (N + 4) (N + 2) (N + 3) N (N + 1) a b ?_ ka kb, ⟨b1, b2, ⟨_, _, b3⟩, b4, b5⟩, fun c hc => ?_, q⟩
  · have la' : @LT.lt Nat _ a N := la
    have lb' : @LT.lt Nat _ b N := lb
    constructor <;> (intro e; have e' : @Eq Nat _ _ := e; omega)
  · have hc' : s1.heap.objs.size ≤ c := by
      simp only [List.mem_cons, List.not_mem_nil, or_false] at hc
      rw [hN]
      show @LE.le Nat _ N c
      rcases hc with h | h | h | h | h <;> (have h' : @Eq Nat c _ := h; omega)
    exact I1.fpOk hc' (I1.hok.fresh hc')
end
theorem lc_pairsF {K : PySem.W.Frag} {J : It} {n : Nat} {x1 x2 : Str} {fr : List (Str × Nat)} {tc : TT} {te : TE} {σ : St} {H : Hp} {Qp : Addr → List V → Hp → Prop} (I : Nat → List V → Hp → Prop) (g h : Nat → V) (hn : n ≤ sizeLine)
    (hy : ∀ i acc H v H', J.yld i H v H' → i < n → I i acc H → ∃ T, v = .ref T ∧ H T = none ∧ H' = upd H T (.tup [g i, h i])) (hgo : ∀ i acc H, i < n → I i acc H → J.go i H) (hstop : ∀ acc H, I n acc H → J.stop n H)
    (h0 : I 0 [] H) (hl : ∀ i acc H', I i acc H' → acc.length ≤ i)
    (hf : ∀ i acc H', i < n → I i acc H' → ∀ H1, Same H' H1 → ∀ (QT : Bool → Hp → Prop), (∀ H2, (∀ Q' : VK, (∀ v H3, I (i + 1) (acc ++ [v]) H3 → Q' v H3) → te ([some (g i), some (h i)] ++ frv fr σ) H2 Q') → QT true H2) →
      (∀ H2, I (i + 1) acc H2 → QT false H2) → tc ([some (g i), some (h i)] ++ frv fr σ) H1 QT) (hQ : ∀ acc H', I n acc H' → ∀ p, H' p = none → Qp p acc H') :
    ∃ W : Nat → Nat → List V → Hp → Prop, (∃ m, W 0 m [] H) ∧ ∀ i m acc H, W i m acc H →
      (J.stop i H ∧ acc.length ≤ sizeLine ∧ ∀ p, H p = none → Qp p acc H) ∨
      (J.go i H ∧ ∀ x H', J.yld i H x H' → ∀ ys : St, ys.length = [x1, x2].length → (gTup K 2 (gCons (gName 0) (gCons (gName 1) gNil))) x (ys ++ frv fr σ) H' fun σ2 H2 => (∃ zs : St, zs.length = [x1, x2].length ∧ σ2 = zs ++ frv fr σ) ∧ tc σ2 H2 fun b H3 => if b = true then te σ2 H3 fun v H4 => acc.length < sizeLine ∧ ∃ m', m' < m ∧ W (i + 1) m' (acc ++ [v]) H4
        else ∃ m', m' < m ∧ W (i + 1) m' acc H3) := by
  refine ⟨fun i m acc H' => I i acc H' ∧ i ≤ n ∧ m = n - i, ⟨n, h0, Nat.zero_le _, by simp⟩, ?_⟩
  rintro i m acc H' ⟨hI, hi, rfl⟩
  have el := hl i acc H' hI
  by_cases hlt : i < n
  · refine .inr ⟨hgo i acc H' hlt hI, fun x H1 y ys hys => ?_⟩
    obtain ⟨T, e1, e2, e3⟩ := hy i acc H' x H1 y hlt hI
    subst e1 e3
    match ys, hys with
    | [y1, y2], _ =>
      refine ⟨T, _, rfl, SqT.of upd_same, rfl, _, _, rfl, _, _, rfl, rfl, ⟨[some (g i), some (h i)], rfl, rfl⟩, ?_⟩
      refine hf i acc H' hlt hI _ (Same.newH e2) _ (fun H2 k => ?_) fun H2 k => ?_
      · rw [if_pos rfl]
        exact k _ fun v H3 q => ⟨by omega, n - (i + 1), by omega, q, hlt, rfl⟩
      · rw [if_neg Bool.false_ne_true]
        exact ⟨n - (i + 1), by omega, k, hlt, rfl⟩
  · have e : i = n := by omega
    subst e
    exact .inl ⟨hstop acc H' hI, by omega, hQ acc H' hI⟩
end L2
namespace Sx
open PySem L2
section
variable {K : PySem.W.Frag} {σ : St} {H : Hp} {Q : VK} {l : Addr}
theorem iZ {ta : TA} {R : It → Hp → Prop} (h : ta σ H fun vs H1 => ∃ a b xs ys, vs = [.ref a, .ref b] ∧ TupK K a xs ∧ TupK K b ys ∧ R (Itz K xs ys) H1) : iZip K ta σ H R := h
theorem bmS {r : V → List V → Hp → VK → Prop} {a : TA} {x : Str} (h : a σ H fun xs H2 => r (.str x) xs H2 Q) : tyV K "str" (.str x) H ∧ a σ H fun xs H2 => r (.str x) xs H2 Q := ⟨rfl, h⟩
theorem joinL {sep : Str} {ts : List Str} (h : H l = some (.lst (ts.map V.str))) (hj : JoinOk sep ts = true) (k : Q (.str (Str.join sep ts)) H) : rJoin K (.str sep) [.ref l] H Q := ⟨sep, l, ts, rfl, rfl, SqL.of h, hj, k⟩
theorem topIx {a : Addr} {xs : List V} {i : Int} {v : V} (h : TupK K a xs) (e : atI xs i = some v) (q : Q v H) : rIxT K (.ref a) (.int i) H Q := ⟨a, xs, i, v, rfl, rfl, h.sq, e, q⟩
theorem topLen {a : Addr} {xs : List V} (h : TupK K a xs) (k : Q (.int (xs.length : Nat)) H) : rLenOf K [.ref a] H Q := ⟨a, xs, rfl, .inr h.sq, k⟩
theorem addL {x : V} {xs : List V} {P : Hp → Prop} (h : H l = some (.lst xs)) (hz : xs.length < 16777216) (k : ∀ H', H' l = some (.lst (xs ++ [x])) → (∀ b o, b ≠ l → H b = some o → H' b = some o) → P H') : rAppend (.ref l) [x] H (fun _ H' => P H') :=
  ⟨l, xs, x, rfl, rfl, h, by rw [sizeLine_eq]; exact hz, k _ upd_same fun b o n e => by rw [upd_ne n]; exact e⟩
end
end Sx
open L2
local macro_rules | `(tactic| wtm_at "s") => `(tactic| first
  | ((with_reducible refine' Sx.var ?e ?_); (case e => exact rfl))
  | (with_reducible first
    | refine Sx.cst ?_ | refine Sx.op ?_ | refine Sx.un ?_ | refine Sx.i0 ?_ | refine Sx.eqI ?_ | refine Sx.neI ?_ | refine Sx.eqB ?_ | refine Sx.neB ?_ | refine Sx.eqS ?_ | refine Sx.neS ?_
    | refine Sx.test ?_ | refine Sx.tB ?_ | refine Sx.isbl ?_ | refine Sx.and ?_ | refine Sx.or ?_ | refine Sx.not ?_ | refine Sx.andV ?_ | refine Sx.orV ?_ | refine Sx.notV ?_ | refine Sx.ifE ?_ | refine Sx.chain ?_ | refine Sx.fld ?_
    | refine Sx.next ?_ | refine Sx.seq ?_ | refine Sx.drop ?_ | refine Sx.ret ?_ | refine Sx.retN ?_ | refine Sx.ifS ?_ | refine Sx.asg ?_ | refine Sx.nm ?_ | refine Sx.sub ?_ | refine Sx.call ?_ | refine Sx.callB ?_ | refine Sx.nil ?_ | refine Sx.cons ?_ | refine Sx.tup ?_ | refine Sx.lst ?_
    | refine Sx.lc ?_ | refine Sx.lcN ?_ | refine Sx.iL ?_ | refine Sx.iT ?_ | refine Sx.iE ?_ | refine Sx.iR1 ?_ | refine Sx.iR2 ?_ | refine Sx.for_ ?_ | refine Sx.make ?_ | refine Sx.dget ?_ | refine Sx.dput ?_ | refine Sx.sfld ?_ | refine Sx.intsA ?_ | refine Sx.pnil ?_ | refine Sx.pcons ?_ | refine Sx.disp ?_ | refine Sx.sl ?_ | refine Sx.part ?_ | refine Sx.nopart ?_ | refine Sx.isI ?_ | refine Sx.tru ?_ | refine Sx.bm ?_ | refine Sx.nonAnd ?_ | refine iteT ?_ | refine iteF ?_ | refine Sx.iteNT ?_ | refine Sx.iteNF ?_)
  | ((with_reducible refine' Sx.iC ?c ?_); (case c => first | exact ⟨by decide, by decide⟩ | exact .inl ⟨by decide, by decide⟩ | exact .inr ⟨by decide, by decide⟩ | (show (0 : Int) < _; first | decide | omega) | exact ⟨by omega, by omega⟩ | exact .inl ⟨by omega, by omega⟩ | exact .inr ⟨by omega, by omega⟩)))
local macro_rules | `(tactic| wtm_at "ss") => `(tactic| repeat wtm_at "s")
namespace Tx
open PySem L2
def top (i : Nat) : Stmt := PySem.Challenge.pw_corehouse_k38_how_cells_are_shown.main.body.getD i (.Pass ⟨0, 0, 0, 0⟩)
abbrev s_parts : Stmt := top 5
theorem sc_parts : FnScope ["word"] ["word"] (defScope s_parts) := ⟨rfl, rfl, rfl, by decide +kernel, rfl, by decide +kernel, by decide +kernel⟩
abbrev s_has_bit : Stmt := top 7
theorem sc_has_bit : FnScope ["place", "bit"] ["place", "bit"] (defScope s_has_bit) := ⟨rfl, rfl, rfl, by decide +kernel, rfl, by decide +kernel, by decide +kernel⟩
abbrev s_shown : Stmt := top 14
theorem sc_shown : FnScope ["cells", "rows", "following", "place", "told"] ["cells"] (defScope s_shown) := ⟨rfl, rfl, rfl, by decide +kernel, rfl, by decide +kernel, by decide +kernel⟩
abbrev s_deed_line : Stmt := top 15
theorem sc_deed_line : FnScope ["told", "shape", "kind", "far", "place"] ["told"] (defScope s_deed_line) := ⟨rfl, rfl, rfl, by decide +kernel, rfl, by decide +kernel, by decide +kernel⟩
abbrev s_cell_line : Stmt := top 16
theorem sc_cell_line : FnScope ["name", "far", "place"] ["name", "far", "place"] (defScope s_cell_line) := ⟨rfl, rfl, rfl, by decide +kernel, rfl, by decide +kernel, by decide +kernel⟩
abbrev s_ask_line : Stmt := top 17
theorem sc_ask_line : FnScope ["name"] ["name"] (defScope s_ask_line) := ⟨rfl, rfl, rfl, by decide +kernel, rfl, by decide +kernel, by decide +kernel⟩
abbrev s_bits_line : Stmt := top 18
theorem sc_bits_line : FnScope ["name", "names", "place"] ["name", "names", "place"] (defScope s_bits_line) := ⟨rfl, rfl, rfl, by decide +kernel, rfl, by decide +kernel, by decide +kernel⟩
abbrev s_law_cell : Stmt := top 20
theorem sc_law_cell : FnScope ["_law_script", "_law_k"] ["_law_script", "_law_k"] (defScope s_law_cell) := ⟨rfl, rfl, rfl, by decide +kernel, rfl, by decide +kernel, by decide +kernel⟩
abbrev s_law_mix : Stmt := top 21
theorem sc_law_mix : FnScope ["_law_cell_here", "_law_prime", "_law_many"] ["_law_cell_here", "_law_prime", "_law_many"] (defScope s_law_mix) := ⟨rfl, rfl, rfl, by decide +kernel, rfl, by decide +kernel, by decide +kernel⟩
abbrev s_law_fill : Stmt := top 22
theorem sc_law_fill : FnScope ["_law_cell_here", "_law_most"] ["_law_cell_here", "_law_most"] (defScope s_law_fill) := ⟨rfl, rfl, rfl, by decide +kernel, rfl, by decide +kernel, by decide +kernel⟩
abbrev s_law_kinds : Stmt := top 23
theorem sc_law_kinds : FnScope [] [] (defScope s_law_kinds) := ⟨rfl, rfl, rfl, by decide +kernel, rfl, by decide +kernel, by decide +kernel⟩
abbrev s_law_asks : Stmt := top 24
theorem sc_law_asks : FnScope [] [] (defScope s_law_asks) := ⟨rfl, rfl, rfl, by decide +kernel, rfl, by decide +kernel, by decide +kernel⟩
abbrev s_law_named : Stmt := top 25
theorem sc_law_named : FnScope ["_law_names", "_law_place"] ["_law_names", "_law_place"] (defScope s_law_named) := ⟨rfl, rfl, rfl, by decide +kernel, rfl, by decide +kernel, by decide +kernel⟩
abbrev s_law_changes : Stmt := top 26
theorem sc_law_changes : FnScope [] [] (defScope s_law_changes) := ⟨rfl, rfl, rfl, by decide +kernel, rfl, by decide +kernel, by decide +kernel⟩
abbrev s_law_tests : Stmt := top 27
theorem sc_law_tests : FnScope [] [] (defScope s_law_tests) := ⟨rfl, rfl, rfl, by decide +kernel, rfl, by decide +kernel, by decide +kernel⟩
abbrev s_law_line : Stmt := top 28
theorem sc_law_line : FnScope ["_law_number", "_law_kind", "_law_place", "_law_far"] ["_law_number"] (defScope s_law_line) := ⟨rfl, rfl, rfl, by decide +kernel, rfl, by decide +kernel, by decide +kernel⟩
abbrev s_law : Stmt := top 29
theorem sc_law : FnScope ["_law_script", "_law_cells", "_law_k", "_law_cell_here", "_law_due", "_law_number"] ["_law_script"] (defScope s_law) := ⟨rfl, rfl, rfl, by decide +kernel, rfl, by decide +kernel, by decide +kernel⟩
end Tx
/-! ### the machine, by plain functions -/
namespace Mir
open PySem
structure Mach where
  cells : List Int
  total : Int
  mark : Int
  at_ : Int
def cellM (m : Mach) (q : Int) : Int := m.cells.getD q.toNat 0
def moveOn (m : Mach) : Mach := { m with at_ := (m.at_ + 1) % 64 }
def raiseC (m : Mach) (q : Int) : Mach := { m with cells := m.cells.set q.toNat ((cellM m q + 1) % 1024) }
def farM (m : Mach) (q : Int) : Mach := if 8 ≤ q ∧ q ≤ 11 then raiseC m q else m
def farV (m : Mach) (q : Int) : Int := cellM (farM m q) q % 64
def turnK (m : Mach) : Mach := { m with mark := 1 - m.mark }
def addT (m : Mach) (a : Int) : Mach := if 1024 ≤ m.total + a then turnK { m with total := m.total + a - 1024 } else { m with total := m.total + a }
def doRise (m : Mach) (q : Int) : Mach := if cellM (raiseC m q) q = 0 then moveOn (raiseC m q) else raiseC m q
def withCell (m : Mach) (k q : Int) : Mach :=
  if k = 0 then { m with total := Builtin.bitAnd m.total (cellM m q) } else if k = 1 then addT m (cellM m q) else if k = 2 then doRise m q
  else if k = 3 then { m with cells := m.cells.set q.toNat m.total, total := 0 } else if k = 4 then { m with cells := m.cells.set q.toNat m.at_, at_ := (q + 1) % 64 }
  else if k = 5 then { m with at_ := q } else m
def bit (q b : Int) : Bool := decide (q / b % 2 = 1)
def shiftL (m : Mach) : Mach := { m with total := (m.total * 2 + m.mark) % 1024, mark := (m.total * 2 + m.mark) / 1024 }
def shiftR (m : Mach) : Mach := { m with total := m.total / 2 + m.mark * (1024 / 2), mark := m.total % 2 }
def ch1 (m : Mach) (q : Int) : Mach := if bit q 32 = true then { m with total := 0 } else m
def ch2 (m : Mach) (q : Int) : Mach := if bit q 16 = true then { m with total := 1024 - 1 - m.total } else m
def ch3 (m : Mach) (q : Int) : Mach := if bit q 8 = true then turnK m else m
def ch4 (m : Mach) (q : Int) : Mach := if bit q 4 = true then addT m 1 else m
def ch5 (m : Mach) (q : Int) : Mach := if bit q 2 = true ∧ bit q 1 = false then shiftL m else m
def ch6 (m : Mach) (q : Int) : Mach := if bit q 1 = true ∧ bit q 2 = false then shiftR m else m
def changeM (m : Mach) (q : Int) : Mach := ch6 (ch5 (ch4 (ch3 (ch2 (ch1 m q) q) q) q) q) q
def soM (m : Mach) (q : Int) : Bool := (bit q 32 && decide (1024 / 2 ≤ m.total)) || ((bit q 16 && decide (m.total = 0)) || (bit q 8 && decide (m.mark = 1)))
def testSo (m : Mach) (q : Int) : Bool := if bit q 4 = true then !(soM m q) else soM m q
def te1 (m : Mach) (q : Int) : Mach := if testSo m q = true then moveOn m else m
def te2 (m : Mach) (q : Int) : Mach := if bit q 2 = true then { m with total := 0 } else m
def te3 (m : Mach) (q : Int) : Mach := if bit q 1 = true then { m with mark := 0 } else m
def testM (m : Mach) (q : Int) : Mach := te3 (te2 (te1 m q) q) q
/-- the deed of a word: what it gives (none, or an ask's place), and the machine behind it -/
def deedW (m : Mach) (w : Int) : Option Int × Mach :=
  if w / 128 = 6 then (some (w % 64), m) else if w / 128 = 7 ∧ w % 128 / 64 = 0 then (none, changeM m (w % 64)) else if w / 128 = 7 then (none, testM m (w % 64))
  else if w % 128 / 64 = 0 then (none, withCell m (w / 128) (w % 64)) else (none, withCell (farM m (w % 64)) (w / 128) (farV m (w % 64)))
def deedM (m : Mach) : Option Int × Mach := deedW (moveOn m) (cellM m m.at_)
/-- what the program's own run asks -/
structure Wf (m : Mach) : Prop where
  len : m.cells.length = 64
  at0 : 0 ≤ m.at_
  at1 : m.at_ < 64
theorem raiseC_len (m : Mach) (q : Int) : (raiseC m q).cells.length = m.cells.length := by simp [raiseC]
theorem farM_len (m : Mach) (q : Int) : (farM m q).cells.length = m.cells.length := by unfold farM; split <;> simp [raiseC_len]
theorem moveOn_at0 (m : Mach) : 0 ≤ (moveOn m).at_ := by simp only [moveOn]; omega
theorem moveOn_at1 (m : Mach) : (moveOn m).at_ < 64 := by simp only [moveOn]; omega
end Mir
namespace Pr
end Pr
/-! ### the small defs that the laws share -/
namespace Lw
open PySem L2 Mir Pr Tx
structure TxtL (K : PySem.W.Frag) (mg : Str → Option Value) : Prop where
  len_ : mg "len" = none
  isinstance_ : mg "isinstance" = none
  int_ : mg "int" = none
  bool_ : mg "bool" = none
  list_ : mg "list" = none
  range_ : mg "range" = none
  sum_ : mg "sum" = none
  kii : PySem.W.kitOne K (.type "int") (.type "int") = some true
  kib : PySem.W.kitOne K (.type "int") (.type "bool") = some false
  kll : PySem.W.kitOne K (.type "list") (.type "list") = some true
  any_ : mg "any" = none
  enumerate_ : mg "enumerate" = none
  tuple_ : mg "tuple" = none
  str_ : mg "str" = none
  min_ : mg "min" = none
def sp_cell (K : PySem.W.Frag) : Sp := fun vs H Q _ => ∃ (a : Addr) (k : Nat) (ns : List Int), vs = [.ref a, .int (k : Int)] ∧ SqL K H a (ns.map V.int) ∧ Q (.int (ns.getD k 0)) H
def sp_mix : Sp := fun vs H Q _ => ∃ x p n : Int, vs = [.int x, .int p, .int n] ∧ 0 < p ∧ 0 < n ∧ Q (.int (x * 48271 % p % n)) H
def sp_whole : Sp := fun vs H Q _ => ∃ i : Int, vs = [.int i] ∧ Q (.bl true) H
def fillL (x n : Int) : List Int := (List.range 64).map fun (i : Nat) => (x + 977 * (i : Int)) * 48271 % 10007 % n
theorem fillL_len (x n : Int) : (fillL x n).length = 64 := by simp [fillL]
theorem fillL_in {x n : Int} (hn : 0 < n) : ∀ v ∈ fillL x n, 0 ≤ v ∧ v < n := by
  intro v hv
  obtain ⟨i, _, rfl⟩ := List.mem_map.mp hv
  exact ⟨Int.emod_nonneg _ (by omega), Int.emod_lt_of_pos _ hn⟩
def sp_fill : Sp := fun vs H Q _ => ∃ x n : Int, vs = [.int x, .int n] ∧ 0 < n ∧ ∀ l, H l = none → Q (.ref l) (upd H l (.lst ((fillL x n).map V.int)))
section
variable {P : Program} {w : World} {K : PySem.W.Frag} {mg : Str → Option Value} {base : Heap} {C : Addr}
theorem ok_cell (R : Raw K mg "_law_cell" s_law_cell) (T : TxtL K mg) : GF P w K mg base "_law_cell" ["_law_script", "_law_k"] 1 (sp_cell K) := by
  refine GF.mk R sc_law_cell (fun _ _ _ _ _ _ us hl => match us, hl with | [_, _], _ => rfl) (fun vs H Q E h => ?_) (fun f cdv A outer s H vs Q E hr h => ?_)
  · obtain ⟨a, k, ns, rfl, _⟩ := h; rfl
  · obtain ⟨a, k, ns, rfl, hS, q⟩ := h
    refine ⟨_, (pss_cons (ps_if (pt_cmpR op_lt (pv 1) (pe_callB call_len_seq (by rfl) T.len_ bo_len (pa_cons (pv 0) pa_nil)) (nomark _)) (pss_one (ps_ret (pe_ix ix_list (pv 0) (pv 1) (fun _ _ => rfl)))) pss_nil)
      (pss_one (ps_ret pe_int))), ?_⟩
    refine ⟨_, rfl, _, rfl, a, _, rfl, .inl hS, _, _, rfl, rfl, _, rfl, iteD (fun g => ?_) (fun g => ?_)⟩
    · rw [List.length_map] at g
      exact ⟨_, rfl, _, rfl, a, _, _, _, rfl, rfl, hS, atI_ints (Int.natCast_nonneg k) g, (by rw [Int.toNat_natCast]; exact q)⟩
    · rw [List.length_map] at g
      have e : ns.getD k 0 = 0 := by
        rw [List.getD_eq_getElem?_getD, List.getElem?_eq_none (by omega)]
        rfl
      rw [e] at q
      exact q
theorem ok_mix (R : Raw K mg "_law_mix" s_law_mix) : GF P w K mg base "_law_mix" ["_law_cell_here", "_law_prime", "_law_many"] 1 sp_mix := by
  refine GF.mk R sc_law_mix (fun _ _ _ _ _ _ us hl => match us, hl with | [_, _, _], _ => rfl) (fun vs H Q E h => ?_) (fun f cdv A outer s H vs Q E hr h => ?_)
  · obtain ⟨x, p, n, rfl, _⟩ := h; rfl
  · obtain ⟨x, p, n, rfl, hp, hn, q⟩ := h
    refine ⟨_, (pss_one (ps_ret (pe_op op_mod (pe_op op_mod (pe_op op_mul (pv 0) pe_int) (pv 1)) (pv 2)))), ?_⟩
    exact ⟨_, rfl, _, _, rfl, rfl, .inr ⟨by decide, by decide⟩, _, rfl, _, _, rfl, rfl, hp, _, rfl, _, _, rfl, rfl, hn, q⟩
end
end Lw
namespace Lw
open PySem L2 Mir Pr Tx
section
variable {P : Program} {w : World} {K : PySem.W.Frag} {mg : Str → Option Value} {base : Heap} {C : Addr}
theorem ok_fill (R : Raw K mg "_law_fill" s_law_fill) (T : TxtL K mg) (G_law_mix : GF P w K mg base "_law_mix" ["_law_cell_here", "_law_prime", "_law_many"] 1 sp_mix) : GF P w K mg base "_law_fill" ["_law_cell_here", "_law_most"] 2 sp_fill := by
  refine GF.mk R sc_law_fill (fun _ _ _ _ _ _ us hl => match us, hl with | [_, _], _ => rfl) (fun vs H Q E h => ?_) (fun f cdv A outer s H vs Q E hr h => ?_)
  · obtain ⟨x, n, rfl, _⟩ := h; rfl
  · obtain ⟨x, n, rfl, hn, q⟩ := h
    refine ⟨_, (pss_one (ps_ret (pe_lcomp (fr := [("_law_most", 1), ("_law_cell_here", 0)]) rfl (pi_range1 rfl T.range_ (pa_cons pe_int pa_nil)) ⟨rfl, rfl, by decide +kernel, by decide +kernel, rfl, by decide +kernel, ⟨rfl, rfl, trivial⟩, rfl, ⟨⟨rfl, .inl rfl, .inl rfl, _, rfl, rfl⟩, ⟨rfl, .inl rfl, .inl rfl, _, rfl, rfl⟩, trivial⟩⟩ (fun _ _ _ _ => pts_nil) (fun _ _ _ _ => (pe_gcall G_law_mix (hr.mono (by decide)) rfl (pa_cons (pe_op op_add (pv 2) (pe_op op_mul pe_int (pv 0))) (pa_cons pe_int (pa_cons (pv 1) pa_nil)))))))), ?_⟩
    refine ⟨64, rfl, by decide, by decide, lc_range (lo := 0) (n := 64) (fun i => .int ((x + 977 * (i : Int)) * 48271 % 10007 % n)) (by decide) (fun i hi Q' q' => ?_) (fun l hl => ?_)⟩
    · refine ⟨_, rfl, _, rfl, _, _, rfl, rfl, .inl ⟨by decide, by decide⟩, _, _, rfl, rfl, _, rfl, _, _, _, rfl, by decide, hn, ?_⟩
      rw [Int.zero_add]
      exact q'
    · have e : (List.range 64).map (fun i : Nat => V.int ((x + 977 * (i : Int)) * 48271 % 10007 % n)) = (fillL x n).map V.int := by
        unfold fillL
        rw [List.map_map]
        rfl
      rw [e]
      exact q l hl
end
end Lw
/-! ### cells shown as a text -/
namespace Ls
open PySem L2 Tx
def numS (i : Int) : Str := (toString i : String)
def kindsS : List Str := ["and", "add", "rise", "put", "call", "go"]
def asksS : List Str := ["heard", "hear", "room", "say", "sleep", "fetch", "store", "stop", "look"]
def changesS : List Str := ["zero", "turn", "flip", "more", "left", "right"]
def testsS : List Str := ["minus", "none", "mark", "not", "zero", "flat"]
def bitsL : List Int := [32, 16, 8, 4, 2, 1]
/-- the names whose bits the place has, up to the n-th -/
def pickN (ts : List Str) (p : Int) : Nat → List Str
  | 0 => []
  | n + 1 => if p / bitsL.getD n 0 % 2 = 1 then pickN ts p n ++ [ts.getD n Str.empty] else pickN ts p n
def pick (ts : List Str) (p : Int) : List Str := pickN ts p 6
/-- the line of a word -/
def lineS (n : Int) : Str :=
  if n / 128 < 6 then kindsS.getD (n / 128).toNat Str.empty ++ (if n / 64 % 2 = 1 then " far " else " ") ++ numS (n % 64)
  else if n / 128 = 7 ∧ n / 64 % 2 = 0 then Str.join " " ("change" :: pick changesS (n % 64))
  else if n / 128 = 7 then Str.join " " ("test" :: pick testsS (n % 64))
  else if n / 64 % 2 = 0 ∧ n % 64 < 9 then "ask " ++ asksS.getD (n % 64).toNat Str.empty
  else "word " ++ numS n
/-- the rows of the first n cells -/
def rowsN (cs : List Int) : Nat → List Str
  | 0 => []
  | i + 1 => if cs.getD i 0 = 0 then rowsN cs i else if i = 0 ∨ cs.getD (i - 1) 0 = 0 then rowsN cs i ++ ["place " ++ numS (i : Nat)] ++ [lineS (cs.getD i 0)] else rowsN cs i ++ [lineS (cs.getD i 0)]
theorem rows_succ (cs : List Int) (i : Nat) : rowsN cs (i + 1) = if cs.getD i 0 = 0 then rowsN cs i else if i = 0 ∨ cs.getD (i - 1) 0 = 0 then rowsN cs i ++ ["place " ++ numS (i : Nat)] ++ [lineS (cs.getD i 0)] else rowsN cs i ++ [lineS (cs.getD i 0)] := rfl
def shownS (cs : List Int) : Str := Str.join "\n" (rowsN cs cs.length)
theorem log_ok {i : Int} (h0 : 0 ≤ i) (h1 : i < 100000) : i.natAbs.log2 < 1920 := by
  have h : i.natAbs < 2 ^ 1920 := Nat.lt_of_lt_of_le (show i.natAbs < 2 ^ 17 by omega) (Nat.pow_le_pow_right (by decide) (by decide))
  by_cases e : i.natAbs = 0
  · rw [e]; decide
  · exact (Nat.log2_lt e).mpr h
theorem num_cps (n : Nat) : (numS (n : Int)).cps.toList = (Nat.toDigits 10 n).map Char.toNat := by
  have e : (toString (n : Int) : String) = String.ofList (Nat.toDigits 10 n) := rfl
  unfold numS
  rw [e, Str.ofString_eq_toList, String.toList_ofList]
theorem num_len {i : Nat} (h : i < 10000) : (numS (i : Int)).length ≤ 4 := by
  have e : (numS (i : Int)).length = (Nat.toDigits 10 i).length := by
    rw [← List.length_map (f := Char.toNat), ← num_cps, Array.length_toList]
    rfl
  rw [e]
  exact (Nat.length_toDigits_le_iff (by decide) (by decide)).mpr h
theorem num_len' {i : Int} (h0 : 0 ≤ i) (h1 : i < 10000) : (numS i).length ≤ 4 := by
  obtain ⟨k, rfl⟩ := Int.eq_ofNat_of_zero_le h0
  exact num_len (by omega)
theorem join_cons (sep a : Str) (b : Str) (r : List Str) : Str.join sep (a :: b :: r) = a ++ sep ++ Str.join sep (b :: r) := rfl
theorem pick_len (ts : List Str) (p : Int) : ∀ n, (pickN ts p n).length ≤ n
  | 0 => Nat.le_refl _
  | n + 1 => by
    unfold pickN
    have := pick_len ts p n
    split
    · rw [List.length_append, List.length_singleton]; omega
    · omega
theorem pick_in {ts : List Str} {p : Int} {P : Str → Prop} (h : ∀ t ∈ ts, P t) : ∀ n, n ≤ ts.length → ∀ t ∈ pickN ts p n, P t
  | 0, _ => fun t ht => nomatch ht
  | n + 1, hn => by
    unfold pickN
    have ih := pick_in (p := p) h n (by omega)
    split
    · intro t ht
      rcases List.mem_append.mp ht with ht | ht
      · exact ih t ht
      · rw [List.mem_singleton] at ht
        subst ht
        rw [List.getD_eq_getElem?_getD, List.getElem?_eq_getElem (by omega)]
        exact h _ (List.getElem_mem _)
    · exact ih
theorem join_len (sep : Str) : ∀ (ts : List Str) (m : Nat), (∀ t ∈ ts, t.length ≤ m) → (Str.join sep ts).length ≤ ts.length * (m + sep.length)
  | [], m, _ => Nat.zero_le _
  | [a], m, h => by
    have := h a List.mem_cons_self
    show a.length ≤ 1 * (m + sep.length)
    omega
  | a :: b :: r, m, h => by
    have h1 := h a List.mem_cons_self
    have h2 := join_len sep (b :: r) m fun t ht => h t (List.mem_cons_of_mem _ ht)
    rw [join_cons, strLen_append, strLen_append]
    have e : (a :: b :: r).length * (m + sep.length) = (m + sep.length) + (b :: r).length * (m + sep.length) := by rw [List.length_cons, Nat.succ_mul, Nat.add_comm]
    omega
theorem fold_len (sep : Str) : ∀ (ts : List Str) (acc m : Nat), (∀ t ∈ ts, t.length ≤ m) → ts.foldl (fun n (t : Str) => n + t.length + sep.length) acc ≤ acc + ts.length * (m + sep.length)
  | [], acc, m, _ => by simp
  | a :: r, acc, m, h => by
    have h1 := h a List.mem_cons_self
    have h2 := fold_len sep r (acc + a.length + sep.length) m fun t ht => h t (List.mem_cons_of_mem _ ht)
    rw [List.foldl_cons]
    have e : (a :: r).length * (m + sep.length) = (m + sep.length) + r.length * (m + sep.length) := by rw [List.length_cons, Nat.succ_mul, Nat.add_comm]
    omega
theorem joinOk {sep : Str} {ts : List Str} (m : Nat) (h : ∀ t ∈ ts, t.length ≤ m) (hz : ts.length * (m + sep.length) ≤ sizeLine) : JoinOk sep ts = true := by
  unfold JoinOk Builtin.Str.tooLong
  have := fold_len sep ts 0 m h
  rw [List.foldl_toArray] at *
  simp only [Bool.not_eq_true', decide_eq_false_iff_not]
  omega
theorem getD_in {ts : List Str} {P : Str → Prop} (h : ∀ t ∈ ts, P t) (h0 : P Str.empty) (i : Nat) : P (ts.getD i Str.empty) := by
  rw [List.getD_eq_getElem?_getD]
  cases e : ts[i]? with
  | none => exact h0
  | some t => exact h t (List.mem_of_getElem? e)
theorem kinds_len : ∀ t ∈ kindsS, t.length ≤ 6 := by decide +kernel
theorem asks_len : ∀ t ∈ asksS, t.length ≤ 6 := by decide +kernel
theorem changes_len : ∀ t ∈ changesS, t.length ≤ 6 := by decide +kernel
theorem tests_len : ∀ t ∈ testsS, t.length ≤ 6 := by decide +kernel
theorem l_far : (" far " : Str).length = 5 := by decide +kernel
theorem l_bl : (" " : Str).length = 1 := by decide +kernel
theorem l_ask : ("ask " : Str).length = 4 := by decide +kernel
theorem l_word : ("word " : Str).length = 5 := by decide +kernel
theorem l_place : ("place " : Str).length = 6 := by decide +kernel
theorem l_change : ("change" : Str).length = 6 := by decide +kernel
theorem l_test : ("test" : Str).length = 4 := by decide +kernel
theorem l_nl : ("\n" : Str).length = 1 := by decide +kernel
theorem bits_len {nm : Str} {ts : List Str} {p : Int} (h1 : nm.length ≤ 6) (h2 : ∀ t ∈ ts, t.length ≤ 6) (h3 : 6 ≤ ts.length) : (Str.join " " (nm :: pick ts p)).length ≤ 60 := by
  have a : ∀ t ∈ nm :: pick ts p, t.length ≤ 6 := fun t ht => by
    rcases List.mem_cons.mp ht with rfl | ht
    · exact h1
    · exact pick_in h2 6 h3 t ht
  have b := join_len " " _ 6 a
  have c := pick_len ts p 6
  rw [l_bl, List.length_cons] at b
  have d : (pick ts p).length ≤ 6 := c
  omega
theorem line_len {n : Int} (h0 : 0 ≤ n) (h1 : n < 1024) : (lineS n).length ≤ 60 := by
  unfold lineS
  have a := getD_in kinds_len (by decide) (n / 128).toNat
  have b := getD_in asks_len (by decide) (n % 64).toNat
  have c : (numS (n % 64)).length ≤ 4 := num_len' (by omega) (by omega)
  have d : (numS n).length ≤ 4 := num_len' h0 (by omega)
  split
  · rw [strLen_append, strLen_append]
    split
    · rw [l_far]; omega
    · rw [l_bl]; omega
  · split
    · exact bits_len (by rw [l_change]; decide) changes_len (by decide)
    · split
      · exact bits_len (by rw [l_test]; decide) tests_len (by decide)
      · split
        · rw [strLen_append, l_ask]; omega
        · rw [strLen_append, l_word]; omega
theorem rows_in {cs : List Int} (h : ∀ c ∈ cs, 0 ≤ c ∧ c < 1024) : ∀ n, n ≤ cs.length → n ≤ 64 → (rowsN cs n).length ≤ 2 * n ∧ ∀ t ∈ rowsN cs n, t.length ≤ 60
  | 0, _, _ => ⟨Nat.le_refl _, fun t ht => nomatch ht⟩
  | n + 1, hn, hm => by
    obtain ⟨a, b⟩ := rows_in h n (by omega) (by omega)
    have hc : 0 ≤ cs.getD n 0 ∧ cs.getD n 0 < 1024 := by
      rw [List.getD_eq_getElem?_getD, List.getElem?_eq_getElem (by omega)]
      exact h _ (List.getElem_mem _)
    have hl := line_len hc.1 hc.2
    have hp : ("place " ++ numS (n : Nat)).length ≤ 60 := by
      rw [strLen_append, l_place]
      have := num_len (i := n) (by omega)
      omega
    unfold rowsN
    split
    · exact ⟨by omega, b⟩
    · split
      · refine ⟨by rw [List.length_append, List.length_append, List.length_singleton, List.length_singleton]; omega, fun t ht => ?_⟩
        rcases List.mem_append.mp ht with ht | ht
        · rcases List.mem_append.mp ht with ht | ht
          · exact b t ht
          · rw [List.mem_singleton] at ht; rw [ht]; exact hp
        · rw [List.mem_singleton] at ht; rw [ht]; exact hl
      · refine ⟨by rw [List.length_append, List.length_singleton]; omega, fun t ht => ?_⟩
        rcases List.mem_append.mp ht with ht | ht
        · exact b t ht
        · rw [List.mem_singleton] at ht; rw [ht]; exact hl
end Ls
local macro_rules | `(tactic| wtm_at "t") => `(tactic| first | (with_reducible first | refine Sx.tupN ?_ | refine Sx.lstN ?_ | refine Sx.intB ?_ | refine Sx.fs ?_ | refine Sx.jv ?_ | refine Sx.iZ ?_) | ((with_reducible refine' Sx.bmS ?_)) | wtm_at "s" | (with_reducible refine iteNS rfl ?_) | (with_reducible refine iteDS rfl ?_))
local macro_rules | `(tactic| wtm_at "tt") => `(tactic| repeat wtm_at "t")
/-! ### calls of the shared defs, in laws of texts -/
namespace Lt
open PySem L2 Tx Lw
section
variable {K : PySem.W.Frag} {mg : Str → Option Value} {H : Hp} {Q : VK} {E : XK} {a : Addr} {ns : List Int}
theorem c_cell {i : Int} (hS : SqL K H a (ns.map V.int)) (h0 : 0 ≤ i) (q : Q (.int (ns.getD i.toNat 0)) H) : sp_cell K ([.ref a, .int i] ++ []) H Q E := ⟨a, i.toNat, ns, by rw [Int.toNat_of_nonneg h0]; rfl, hS, q⟩
theorem c_mix {x y n : Int} (hp : 0 < y) (hn : 0 < n) (q : Q (.int (x * 48271 % y % n)) H) : sp_mix ([.int x, .int y, .int n] ++ []) H Q E := ⟨x, y, n, rfl, hp, hn, q⟩
theorem c_whole {i : Int} (q : Q (.bl true) H) : sp_whole ([.int i] ++ []) H Q E := ⟨i, rfl, q⟩
theorem c_fill {x n : Int} (hn : 0 < n) (q : ∀ l H', H l = none → H' l = some (.lst ((fillL x n).map V.int)) → Same H H' → Q (.ref l) H') : sp_fill ([.int x, .int n] ++ []) H Q E := ⟨x, n, rfl, hn, fun l h => q l _ h upd_same (Same.newH h)⟩
end
end Lt
local macro_rules | `(tactic| wtm_at "l") => `(tactic| first | wtm_at "t" | ((with_reducible refine' Lt.c_cell ?h ?e ?_); (case h => assumption); (case e => decide)) | ((with_reducible refine' Lt.c_mix ?h ?e ?_); (case h => decide); (case e => decide)) | (with_reducible refine Lt.c_whole ?_))
local macro_rules | `(tactic| wtm_at "ll") => `(tactic| repeat wtm_at "l")
/-! ### what the defs of corehouse.listing promise -/
namespace Ls
open PySem L2 Tx
structure TxtS (K : PySem.W.Frag) (mg : Str → Option Value) : Prop where
  AND : IntG mg "AND" 0
  GO : IntG mg "GO" 5
  ASK : IntG mg "ASK" 6
  BITS : IntG mg "BITS" 7
  DEEDS : TupG K mg "DEEDS" (kindsS.map V.str)
  ASKS : TupG K mg "ASKS" (asksS.map V.str)
  CHANGES : TupG K mg "CHANGES" (changesS.map V.str)
  TESTS : TupG K mg "TESTS" (testsS.map V.str)
  BIT_ROW : TupG K mg "BIT_ROW" (bitsL.map V.int)
  zip_ : mg "zip" = none
  len_ : mg "len" = none
  enumerate_ : mg "enumerate" = none
def sp_parts : Sp := fun vs H Q _ => ∃ w, vs = [.int w] ∧ ∀ t H', H t = none → H' t = some (.tup [.int (w / 128), .int (w % 128 / 64), .int (w % 64)]) → Same H H' → Q (.ref t) H'
def sp_bit : Sp := fun vs H Q _ => ∃ p b : Int, vs = [.int p, .int b] ∧ 0 < b ∧ b < 100 ∧ Q (.bl (decide (p / b % 2 = 1))) H
def sp_cline : Sp := fun vs H Q _ => ∃ (nm : Str) (f p : Int), vs = [.str nm, .int f, .int p] ∧ nm.length ≤ 6 ∧ 0 ≤ p ∧ p < 1024 ∧ Q (.str (nm ++ (if f = 1 then " far " else " ") ++ numS p)) H
def sp_aline : Sp := fun vs H Q _ => ∃ nm : Str, vs = [.str nm] ∧ nm.length ≤ 6 ∧ Q (.str ("ask " ++ nm)) H
def sp_bline (K : PySem.W.Frag) : Sp := fun vs H Q _ => ∃ (nm : Str) (a : Addr) (ts : List Str) (p : Int), vs = [.str nm, .ref a, .int p] ∧ TupK K a (ts.map V.str) ∧ ts.length = 6 ∧ nm.length ≤ 6 ∧ (∀ t ∈ ts, t.length ≤ 6) ∧ ∀ H', Same H H' → Q (.str (Str.join " " (nm :: pick ts p))) H'
def sp_dline : Sp := fun vs H Q _ => ∃ n : Int, vs = [.int n] ∧ 0 ≤ n ∧ n < 1024 ∧ ∀ H', Same H H' → Q (.str (lineS n)) H'
def sp_shown (K : PySem.W.Frag) : Sp := fun vs H Q _ => ∃ (a : Addr) (cs : List Int), vs = [.ref a] ∧ SqL K H a (cs.map V.int) ∧ cs.length = 64 ∧ (∀ c ∈ cs, 0 ≤ c ∧ c < 1024) ∧ ∀ H', Same H H' → Q (.str (shownS cs)) H'
theorem empty_app (x : Str) : Str.empty ++ x = x := by
  show Str.mk (#[] ++ x.cps) = x
  rw [Array.empty_append]
theorem sz : (100000 : Nat) ≤ sizeLine := by decide
section
variable {P : Program} {w : World} {K : PySem.W.Frag} {mg : Str → Option Value} {base : Heap}
theorem ok_parts (R : Raw K mg "parts" s_parts) : GF P w K mg base "parts" ["word"] 1 sp_parts := by
  refine GF.mk R sc_parts (fun _ _ _ _ _ _ us hl => match us, hl with | [_], _ => rfl) (fun vs H Q E h => ?_) (fun f cdv A outer s H vs Q E hr h => ?_)
  · obtain ⟨a, rfl, _⟩ := h; rfl
  · obtain ⟨a, rfl, k⟩ := h
    refine ⟨_, (@pss_one _ _ _ (@ps_ret _ _ _ _ (@pe_tup _ _ _ _ _ (@pa_c _ _ _ _ _ (@pe_op _ _ _ _ _ _ _ _ op_fdiv (pv 0) pe_int) (@pa_c _ _ _ _ _ (@pe_op _ _ _ _ _ _ _ _ op_fdiv (@pe_op _ _ _ _ _ _ _ _ op_mod (pv 0) pe_int) pe_int) (@pa_c _ _ _ _ _ (@pe_op _ _ _ _ _ _ _ _ op_mod (pv 0) pe_int) pa_nil rfl) rfl) rfl)))), ?_⟩
    wtm_at "ss"
    exact ⟨by show 3 ≤ sizeLine; decide, fun t ht => k t _ ht upd_same (Same.newH ht)⟩
theorem ok_bit (R : Raw K mg "has_bit" s_has_bit) : GF P w K mg base "has_bit" ["place", "bit"] 1 sp_bit := by
  refine GF.mk R sc_has_bit (fun _ _ _ _ _ _ us hl => match us, hl with | [_, _], _ => rfl) (fun vs H Q E h => ?_) (fun f cdv A outer s H vs Q E hr h => ?_)
  · obtain ⟨p, b, rfl, _⟩ := h; rfl
  · obtain ⟨p, b, rfl, h0, h1, k⟩ := h
    refine ⟨_, (@pss_one _ _ _ (@ps_ret _ _ _ _ (@pe_cmpR _ _ _ _ _ _ _ _ op_eq (@pe_op _ _ _ _ _ _ _ _ op_mod (@pe_op _ _ _ _ _ _ _ _ op_fdiv (pv 0) (pv 1)) pe_int) pe_int (nomark _)))), ?_⟩
    wtm_at "ss"
    exact k
theorem ok_cline (R : Raw K mg "cell_line" s_cell_line) : GF P w K mg base "cell_line" ["name", "far", "place"] 1 sp_cline := by
  refine GF.mk R sc_cell_line (fun _ _ _ _ _ _ us hl => match us, hl with | [_, _, _], _ => rfl) (fun vs H Q E h => ?_) (fun f cdv A outer s H vs Q E hr h => ?_)
  · obtain ⟨nm, f, p, rfl, _⟩ := h; rfl
  · obtain ⟨nm, f, p, rfl, hl, h0, h1, k⟩ := h
    have hn : (numS p).length ≤ 4 := num_len' h0 (by omega)
    have hz := sz
    refine ⟨_, (@pss_cons _ _ _ _ _ (@ps_if _ _ _ _ _ _ _ _ (@pt_cmpR _ _ _ _ _ _ _ _ op_eq (pv 1) pe_int (nomark _)) (@pss_one _ _ _ (@ps_ret _ _ _ _ (pe_joined (pj_val (pv 0) (pj_str (pj_val (pv 2) pj_nil)))))) pss_nil) (@pss_one _ _ _ (@ps_ret _ _ _ _ (pe_joined (pj_val (pv 0) (pj_str (pj_val (pv 2) pj_nil))))))), ?_⟩
    wtm_at "ss"
    refine iteD (fun g => ?_) (fun g => ?_)
    · rw [if_pos g] at k
      refine Sx.ret (Sx.fs (Sx.jv (Sx.var rfl ⟨nm, .str (by omega), by rw [empty_app]; omega, ?_⟩)))
      rw [empty_app]
      refine Sx.js ⟨by rw [strLen_append, l_far]; omega, Sx.jv (Sx.var rfl ⟨_, .int (log_ok h0 (by omega)), ?_, Sx.jn ⟨?_, k⟩⟩)⟩
      all_goals
        show (nm ++ " far " ++ numS p).length ≤ sizeLine
        rw [strLen_append, strLen_append, l_far]
        omega
    · rw [if_neg g] at k
      wtm_at "ss"
      refine Sx.fs (Sx.jv (Sx.var rfl ⟨nm, .str (by omega), by rw [empty_app]; omega, ?_⟩))
      rw [empty_app]
      refine Sx.js ⟨by rw [strLen_append, l_bl]; omega, Sx.jv (Sx.var rfl ⟨_, .int (log_ok h0 (by omega)), ?_, Sx.jn ⟨?_, k⟩⟩)⟩
      all_goals
        show (nm ++ " " ++ numS p).length ≤ sizeLine
        rw [strLen_append, strLen_append, l_bl]
        omega
theorem ok_aline (R : Raw K mg "ask_line" s_ask_line) : GF P w K mg base "ask_line" ["name"] 1 sp_aline := by
  refine GF.mk R sc_ask_line (fun _ _ _ _ _ _ us hl => match us, hl with | [_], _ => rfl) (fun vs H Q E h => ?_) (fun f cdv A outer s H vs Q E hr h => ?_)
  · obtain ⟨nm, rfl, _⟩ := h; rfl
  · obtain ⟨nm, rfl, hl, k⟩ := h
    have hz := sz
    refine ⟨_, (@pss_one _ _ _ (@ps_ret _ _ _ _ (pe_joined (pj_str (pj_val (pv 0) pj_nil))))), ?_⟩
    wtm_at "ss"
    refine Sx.fs (Sx.js ⟨by rw [empty_app, l_ask]; omega, ?_⟩)
    rw [empty_app]
    refine Sx.jv (Sx.var rfl ⟨nm, .str (by omega), ?_, Sx.jn ⟨?_, k⟩⟩)
    all_goals
      rw [strLen_append, l_ask]
      omega
theorem pickN_get {ts : List Str} (p : Int) (n : Nat) : pickN ts p (n + 1) = if p / bitsL.getD n 0 % 2 = 1 then pickN ts p n ++ [ts.getD n Str.empty] else pickN ts p n := rfl
theorem ok_bline (R : Raw K mg "bits_line" s_bits_line) (T : TxtS K mg) (G_has_bit : GF P w K mg base "has_bit" ["place", "bit"] 1 sp_bit) : GF P w K mg base "bits_line" ["name", "names", "place"] 2 (sp_bline K) := by
  refine GF.mk R sc_bits_line (fun _ _ _ _ _ _ us hl => match us, hl with | [_, _, _], _ => rfl) (fun vs H Q E h => ?_) (fun f cdv A outer s H vs Q E hr h => ?_)
  · obtain ⟨nm, a, ts, p, rfl, _⟩ := h; rfl
  · obtain ⟨nm, a, ts, p, rfl, ha, hl, hn, ht, k⟩ := h
    refine ⟨_, (@pss_one _ _ _ (@ps_ret _ _ _ _ (pe_bm PySem.F.plainAttrs_str PySem.F.slot_str_join PySem.F.type_str_join (mt_join (K := K) rfl) pe_str (@pa_c _ _ _ _ _ (@pe_op _ _ _ _ _ _ _ _ op_cat (@pe_lst _ _ _ _ (@pa_c _ _ _ _ _ (pv 0) pa_nil rfl)) (@pe_lcompN _ (["told" , "bit"]) _ _ _ _ _ _ _ _ _ _ _ ([("place" , 2)]) rfl (pi_zipK (K := K) rfl rfl T.zip_ (@pa_c _ _ _ _ _ (pv 1) (@pa_c _ _ _ _ _ (pe_gtup (K := K) rfl rfl T.BIT_ROW) pa_nil rfl) rfl)) ⟨rfl, rfl, by decide +kernel, by decide +kernel, by decide +kernel, ⟨rfl, trivial⟩ , rfl, ⟨⟨rfl, .inl rfl, .inl rfl, _, rfl, rfl⟩ , trivial⟩⟩ (fun _ _ _ _ => (@pg_tupK _ (K) _ _ _ _ (2) rfl rfl (@pgs_cons _ _ _ _ _ (@pg_name _ _ (0) _ (show List.Nodup (["told" , "bit" , "place"] : List Str) from by decide +kernel) rfl (Or.inl rfl) (by first | exact .inl rfl | exact .inr rfl | assumption)) (@pgs_cons _ _ _ _ _ (@pg_name _ _ (1) _ (show List.Nodup (["told" , "bit" , "place"] : List Str) from by decide +kernel) rfl (Or.inl rfl) (by first | exact .inl rfl | exact .inr rfl | assumption)) pgs_nil rfl) rfl) rfl rfl)) (fun _ _ _ _ => (@pts_one _ _ _ (@pt_val _ _ _ (@pe_gcallN _ _ _ _ _ _ _ _ _ _ G_has_bit (hr.mono (by decide)) rfl (@pa_c _ _ _ _ _ (pv 2) (@pa_c _ _ _ _ _ (pv 1) pa_nil rfl) rfl) (by decide) rfl) (fun _ => rfl)))) (fun _ _ _ _ => (pv 0)) (fun _ => rfl))) pa_nil rfl)))), ?_⟩
    wtm_at "tt"
    refine Sx.newL (by show 1 ≤ sizeLine; decide) fun l1 G1 n1 h1 s1 => ?_
    wtm_at "tt"
    refine Sx.topT fun b hb => ?_
    wtm_at "tt"
    have bin : ∀ i, i < 6 → 0 < bitsL.getD i 0 ∧ bitsL.getD i 0 < 100 := by decide
    refine ⟨a, b, _, _, rfl, ha, hb, lc_pairsF (n := 6) (fun i acc H' => acc = (pickN ts p i).map V.str ∧ Same G1 H') (fun i => .str (ts.getD i Str.empty)) (fun i => .int (bitsL.getD i 0)) (by decide) ?_ ?_ ?_ ⟨rfl, Same.refl _⟩ ?_ ?_ ?_⟩
    · rintro i acc H0 v H1 ⟨T, x, y, e1, e2, e3, e4, e5⟩ hi _
      refine ⟨T, e1, e2, ?_⟩
      rw [List.getElem?_map] at e3 e4
      have f1 : ts[i]? = some (ts.getD i Str.empty) := by rw [List.getD_eq_getElem?_getD, List.getElem?_eq_getElem (by omega)]; rfl
      have f2 : bitsL[i]? = some (bitsL.getD i 0) := by rw [List.getD_eq_getElem?_getD, List.getElem?_eq_getElem (by show i < 6; omega)]; rfl
      rw [f1] at e3
      rw [f2] at e4
      cases e3
      cases e4
      exact e5
    · intro i acc H0 hi _
      exact ⟨by rw [List.length_map]; omega, by show i < 6; omega⟩
    · intro acc H0 _
      show (ts.map V.str).length ≤ 6
      rw [List.length_map]; omega
    · rintro i acc H0 ⟨e, _⟩
      rw [e, List.length_map]
      exact pick_len ts p i
    · rintro i acc H0 hi ⟨e, sm⟩ H1 s2 QT kt kf
      wtm_at "tt"
      refine ⟨p, bitsL.getD i 0, rfl, (bin i hi).1, (bin i hi).2, ?_⟩
      wtm_at "tt"
      by_cases g : p / bitsL.getD i 0 % 2 = 1
      · rw [decide_eq_true g]
        refine kt _ fun Q' q' => ?_
        wtm_at "tt"
        refine q' _ _ ⟨?_, sm.trans s2⟩
        rw [e, pickN_get, if_pos g, List.map_append]
        rfl
      · rw [decide_eq_false g]
        refine kf _ ⟨?_, sm.trans s2⟩
        rw [e, pickN_get, if_neg g]
    · rintro acc H0 ⟨e, sm⟩ l2 n2
      have s2 : Same H0 (upd H0 l2 (.lst acc)) := Same.newH n2
      have h2 : (upd H0 l2 (.lst acc)) l2 = some (.lst acc) := upd_same
      generalize upd H0 l2 (.lst acc) = G2 at s2 h2 ⊢
      subst e
      have h1' := (sm.trans s2) _ _ h1
      have pl := pick_len ts p 6
      refine Sx.catN h1' h2 (by rw [List.length_map, List.length_singleton]; omega) fun l3 G3 n3 h3 s3 => ?_
      wtm_at "tt"
      refine Sx.joinL (ts := nm :: pick ts p) h3 ?_ (k _ (s1.trans (sm.trans (s2.trans s3))))
      refine joinOk 6 (fun t h => ?_) ?_
      · rcases List.mem_cons.mp h with rfl | h
        · exact hn
        · exact pick_in ht 6 (by omega) t h
      · have : (pick ts p).length ≤ 6 := pl
        rw [List.length_cons, l_bl, sizeLine_eq]
        omega
theorem ok_dline (R : Raw K mg "deed_line" s_deed_line) (T : TxtS K mg) (G_parts : GF P w K mg base "parts" ["word"] 1 sp_parts) (G_cell_line : GF P w K mg base "cell_line" ["name", "far", "place"] 1 sp_cline) (G_ask_line : GF P w K mg base "ask_line" ["name"] 1 sp_aline)
    (G_bits_line : GF P w K mg base "bits_line" ["name", "names", "place"] 2 (sp_bline K)) : GF P w K mg base "deed_line" ["told"] 3 sp_dline := by
  refine GF.mk R sc_deed_line (fun _ _ _ _ _ _ us hl => match us, hl with | [_], _ => rfl) (fun vs H Q E h => ?_) (fun f cdv A outer s H vs Q E hr h => ?_)
  · obtain ⟨n, rfl, _⟩ := h; rfl
  · obtain ⟨n, rfl, h0, h1, k⟩ := h
    refine ⟨_, (@pss_cons _ _ _ _ _ (@ps_set _ _ (1) _ _ _ _ sc_deed_line.nd rfl (Or.inl rfl) (@pe_gcallN _ _ _ _ _ _ _ _ _ _ G_parts (hr.mono (by decide)) rfl (@pa_c _ _ _ _ _ (pv 0) pa_nil rfl) (by decide) rfl) rfl (by first | exact .inl rfl | exact .inr rfl | assumption)) (@pss_cons _ _ _ _ _ (@ps_set _ _ (2) _ _ _ _ sc_deed_line.nd rfl (Or.inl rfl) (@pe_ix _ _ _ _ _ _ _ (ix_tupK (K := K) rfl) (pv 1) pe_int (fun _ _ => rfl)) rfl (by first | exact .inl rfl | exact .inr rfl | assumption)) (@pss_cons _ _ _ _ _ (@ps_set _ _ (3) _ _ _ _ sc_deed_line.nd rfl (Or.inl rfl) (@pe_ix _ _ _ _ _ _ _ (ix_tupK (K := K) rfl) (pv 1) pe_int (fun _ _ => rfl)) rfl (by first | exact .inl rfl | exact .inr rfl | assumption)) (@pss_cons _ _ _ _ _ (@ps_set _ _ (4) _ _ _ _ sc_deed_line.nd rfl (Or.inl rfl) (@pe_ix _ _ _ _ _ _ _ (ix_tupK (K := K) rfl) (pv 1) pe_int (fun _ _ => rfl)) rfl (by first | exact .inl rfl | exact .inr rfl | assumption)) (@pss_cons _ _ _ _ _ (@ps_if _ _ _ _ _ _ _ _ (@pt_chain _ _ _ _ _ _ _ _ _ _ _ _ op_le op_le (@pe_gint _ _ _ _ rfl T.AND (by decide)) (pv 2) (@pe_gint _ _ _ _ rfl T.GO (by decide)) (by with_unfolding_all rfl)) (@pss_one _ _ _ (@ps_ret _ _ _ _ (@pe_gcallN _ _ _ _ _ _ _ _ _ _ G_cell_line (hr.mono (by decide)) rfl (@pa_c _ _ _ _ _ (@pe_ix _ _ _ _ _ _ _ (ix_tupK (K := K) rfl) (pe_gtup (K := K) rfl rfl T.DEEDS) (pv 2) (fun _ _ => rfl)) (@pa_c _ _ _ _ _ (pv 3) (@pa_c _ _ _ _ _ (pv 4) pa_nil rfl) rfl) rfl) (by decide) rfl))) pss_nil) (@pss_cons _ _ _ _ _ (@ps_if _ _ _ _ _ _ _ _ (@PW.pt _ _ _ (@pw_and _ _ _ _ _ _ _ (@pt_cmpR _ _ _ _ _ _ _ _ op_eq (pv 2) (@pe_gint _ _ _ _ rfl T.ASK (by decide)) (nomark _)) (@pw_and _ _ _ _ _ _ _ (@pt_cmpR _ _ _ _ _ _ _ _ op_eq (pv 3) pe_int (nomark _)) (@pw_and1 _ _ _ _ (@pt_cmpR _ _ _ _ _ _ _ _ op_lt (pv 4) (@pe_callBN _ _ _ _ _ _ _ _ _ (call_len_seqN (K := K) rfl) (by rfl) T.len_ bo_len (@pa_c _ _ _ _ _ (pe_gtup (K := K) rfl rfl T.ASKS) pa_nil rfl) (by decide) (by decide) rfl) (nomark _)))))) (@pss_one _ _ _ (@ps_ret _ _ _ _ (@pe_gcallN _ _ _ _ _ _ _ _ _ _ G_ask_line (hr.mono (by decide)) rfl (@pa_c _ _ _ _ _ (@pe_ix _ _ _ _ _ _ _ (ix_tupK (K := K) rfl) (pe_gtup (K := K) rfl rfl T.ASKS) (pv 4) (fun _ _ => rfl)) pa_nil rfl) (by decide) rfl))) pss_nil) (@pss_cons _ _ _ _ _ (@ps_if _ _ _ _ _ _ _ _ (@PW.pt _ _ _ (@pw_and _ _ _ _ _ _ _ (@pt_cmpR _ _ _ _ _ _ _ _ op_eq (pv 2) (@pe_gint _ _ _ _ rfl T.BITS (by decide)) (nomark _)) (@pw_and1 _ _ _ _ (@pt_cmpR _ _ _ _ _ _ _ _ op_eq (pv 3) pe_int (nomark _))))) (@pss_one _ _ _ (@ps_ret _ _ _ _ (@pe_gcallN _ _ _ _ _ _ _ _ _ _ G_bits_line (hr.mono (by decide)) rfl (@pa_c _ _ _ _ _ pe_str (@pa_c _ _ _ _ _ (pe_gtup (K := K) rfl rfl T.CHANGES) (@pa_c _ _ _ _ _ (pv 4) pa_nil rfl) rfl) rfl) (by decide) rfl))) pss_nil) (@pss_cons _ _ _ _ _ (@ps_if _ _ _ _ _ _ _ _ (@pt_cmpR _ _ _ _ _ _ _ _ op_eq (pv 2) (@pe_gint _ _ _ _ rfl T.BITS (by decide)) (nomark _)) (@pss_one _ _ _ (@ps_ret _ _ _ _ (@pe_gcallN _ _ _ _ _ _ _ _ _ _ G_bits_line (hr.mono (by decide)) rfl (@pa_c _ _ _ _ _ pe_str (@pa_c _ _ _ _ _ (pe_gtup (K := K) rfl rfl T.TESTS) (@pa_c _ _ _ _ _ (pv 4) pa_nil rfl) rfl) rfl) (by decide) rfl))) pss_nil) (@pss_one _ _ _ (@ps_ret _ _ _ _ (pe_joined (pj_str (pj_val (pv 0) pj_nil))))))))))))), ?_⟩
    wtm_at "tt"
    refine ⟨n, rfl, fun t G1 n1 ht s1 => ?_⟩
    wtm_at "tt"
    refine Sx.ixT ht rfl ?_
    wtm_at "tt"
    refine Sx.ixT ht rfl ?_
    wtm_at "tt"
    refine Sx.ixT ht rfl ?_
    wtm_at "tt"
    have ef : n % 128 / 64 = n / 64 % 2 := by omega
    rw [ef]
    refine iteD (fun g => ?_) (fun g => absurd (show 0 ≤ n / 128 by omega) g)
    wtm_at "tt"
    refine iteD (fun g => ?_) (fun g => ?_)
    · wtm_at "tt"
      refine Sx.topT fun b hb => ?_
      wtm_at "tt"
      have hi : (n / 128).toNat < kindsS.length := by show _ < 6; omega
      refine Sx.topIx (v := .str (kindsS.getD (n / 128).toNat Str.empty)) hb ?_ ?_
      · obtain ⟨m, hm⟩ := Int.eq_ofNat_of_zero_le (show 0 ≤ n / 128 by omega)
        rw [hm] at hi ⊢
        rw [Int.toNat_natCast] at hi ⊢
        rw [List.getD_eq_getElem?_getD, List.getElem?_eq_getElem hi]
        exact atI_nat (by rw [List.getElem?_map, List.getElem?_eq_getElem hi]; rfl)
      · wtm_at "tt"
        refine ⟨_, _, _, rfl, getD_in kinds_len (by decide) _, by omega, by omega, ?_⟩
        have e : lineS n = kindsS.getD (n / 128).toNat Str.empty ++ (if n / 64 % 2 = 1 then " far " else " ") ++ numS (n % 64) := by
          unfold lineS
          rw [if_pos (by omega)]
        rw [← e]
        exact k _ s1
    · have hk : ¬ n / 128 < 6 := by omega
      have word : ¬ (n / 128 = 7) → ¬ (n / 64 % 2 = 0 ∧ n % 64 < 9) → lineS n = "word " ++ numS n := fun a b => by
        unfold lineS
        rw [if_neg hk, if_neg fun z => a z.1, if_neg a, if_neg b]
      have last : ∀ (Gx : Hp) (σ : St), σ[0]? = some (some (V.int n)) → Same H Gx → ¬ (n / 128 = 7) → ¬ (n / 64 % 2 = 0 ∧ n % 64 < 9) → tJoined (jStr "word " (jVal (tVar 0) jNil)) σ Gx Q := by
        intro Gx σ hσ sx a b
        have hz := sz
        have hn := num_len' h0 (show n < 10000 by omega)
        refine Sx.fs (Sx.js ⟨by rw [empty_app, l_word]; omega, ?_⟩)
        rw [empty_app]
        have e : ("word " ++ numS n).length ≤ sizeLine := by rw [strLen_append, l_word]; omega
        refine Sx.jv (Sx.var hσ ⟨numS n, .int (log_ok h0 (by omega)), e, Sx.jn ⟨e, ?_⟩⟩)
        rw [← word a b]
        exact k _ sx
      wtm_at "tt"
      refine iteD (fun g6 => ?_) (fun g6 => ?_)
      · have n7 : ¬ n / 128 = 7 := by omega
        wtm_at "tt"
        refine iteD (fun g0 => ?_) (fun g0 => ?_)
        · wtm_at "tt"
          refine Sx.topT fun b hb => ?_
          wtm_at "tt"
          refine Sx.topLen hb ?_
          wtm_at "tt"
          refine iteD (fun g9 => ?_) (fun g9 => ?_)
          · have g9' : n % 64 < 9 := g9
            wtm_at "tt"
            refine Sx.topT fun b hb => ?_
            wtm_at "tt"
            have hi : (n % 64).toNat < asksS.length := by show _ < 9; omega
            refine Sx.topIx (v := .str (asksS.getD (n % 64).toNat Str.empty)) hb ?_ ?_
            · obtain ⟨m, hm⟩ := Int.eq_ofNat_of_zero_le (show 0 ≤ n % 64 by omega)
              rw [hm] at hi ⊢
              rw [Int.toNat_natCast] at hi ⊢
              rw [List.getD_eq_getElem?_getD, List.getElem?_eq_getElem hi]
              exact atI_nat (by rw [List.getElem?_map, List.getElem?_eq_getElem hi]; rfl)
            · wtm_at "tt"
              refine ⟨_, rfl, getD_in asks_len (by decide) _, ?_⟩
              have e : lineS n = "ask " ++ asksS.getD (n % 64).toNat Str.empty := by
                unfold lineS
                rw [if_neg hk, if_neg fun z => n7 z.1, if_neg n7, if_pos ⟨g0, g9'⟩]
              rw [← e]
              exact k _ s1
          · have g9' : ¬ n % 64 < 9 := g9
            wtm_at "tt"
            refine iteD (fun z => absurd z n7) (fun _ => ?_)
            wtm_at "tt"
            refine iteD (fun z => absurd z n7) (fun _ => ?_)
            wtm_at "ss"
            exact last _ _ rfl s1 n7 fun z => g9' z.2
        · wtm_at "tt"
          refine iteD (fun z => absurd z n7) (fun _ => ?_)
          wtm_at "tt"
          refine iteD (fun z => absurd z n7) (fun _ => ?_)
          wtm_at "ss"
          exact last _ _ rfl s1 n7 fun z => g0 z.1
      · have n7 : n / 128 = 7 := by omega
        wtm_at "tt"
        refine iteD (fun _ => ?_) (fun z => absurd n7 z)
        wtm_at "tt"
        refine iteD (fun g0 => ?_) (fun g0 => ?_)
        · wtm_at "tt"
          refine Sx.topT fun b hb => ?_
          wtm_at "tt"
          refine ⟨_, b, changesS, _, rfl, hb, rfl, by decide +kernel, changes_len, fun H' s2 => ?_⟩
          have e : lineS n = Str.join " " ("change" :: pick changesS (n % 64)) := by
            unfold lineS
            rw [if_neg hk, if_pos ⟨n7, g0⟩]
          rw [← e]
          exact k _ (s1.trans s2)
        · wtm_at "tt"
          refine iteD (fun _ => ?_) (fun z => absurd n7 z)
          wtm_at "tt"
          refine Sx.topT fun b hb => ?_
          wtm_at "tt"
          refine ⟨_, b, testsS, _, rfl, hb, rfl, by decide +kernel, tests_len, fun H' s2 => ?_⟩
          have e : lineS n = Str.join " " ("test" :: pick testsS (n % 64)) := by
            unfold lineS
            rw [if_neg hk, if_neg fun z => g0 z.2, if_pos n7]
          rw [← e]
          exact k _ (s1.trans s2)
def Fol (c : List Int) (i : Nat) (v : V) : Prop := (v = .non ∧ ¬ (0 < i ∧ c.getD (i - 1) 0 ≠ 0)) ∨ ∃ j : Nat, v = .int j ∧ j ≤ i ∧ (j = i ↔ (0 < i ∧ c.getD (i - 1) 0 ≠ 0))
theorem Fol.scal {c : List Int} {i : Nat} {v : V} (h : Fol c i v) (k : Int) : scal (.int k) v = true := by
  rcases h with ⟨rfl, _⟩ | ⟨j, rfl, _⟩ <;> rfl
theorem Fol.iff {c : List Int} {i : Nat} {v : V} (h : Fol c i v) : V.int (i : Int) = v ↔ (0 < i ∧ c.getD (i - 1) 0 ≠ 0) := by
  rcases h with ⟨rfl, n⟩ | ⟨j, rfl, _, e⟩
  · exact ⟨fun z => (nomatch z), fun z => absurd z n⟩
  · rw [← e]
    constructor
    · intro z; cases z; rfl
    · intro z; rw [z]
theorem Fol.zero {c : List Int} {i : Nat} {v : V} (h : Fol c i v) (g : c.getD i 0 = 0) : Fol c (i + 1) v := by
  rcases h with ⟨rfl, n⟩ | ⟨j, rfl, h, e⟩
  · exact .inl ⟨rfl, fun z => z.2 g⟩
  · exact .inr ⟨j, rfl, by omega, ⟨fun z => absurd z (by omega), fun z => absurd g z.2⟩⟩
theorem Fol.more {c : List Int} {i : Nat} (g : ¬ c.getD i 0 = 0) : Fol c (i + 1) (.int ((i : Int) + 1)) := .inr ⟨i + 1, rfl, Nat.le_refl _, ⟨fun _ => ⟨by omega, g⟩, fun _ => rfl⟩⟩
theorem ok_shown (R : Raw K mg "shown" s_shown) (T : TxtS K mg) (G_deed_line : GF P w K mg base "deed_line" ["told"] 3 sp_dline) : GF P w K mg base "shown" ["cells"] 4 (sp_shown K) := by
  refine GF.mk R sc_shown (fun _ _ _ _ _ _ us hl => match us, hl with | [_], _ => rfl) (fun vs H Q E h => ?_) (fun f cdv A outer s H vs Q E hr h => ?_)
  · obtain ⟨a, c, rfl, _⟩ := h; rfl
  · obtain ⟨a, c, rfl, hS, hl, hc, k⟩ := h
    refine ⟨_, (@pss_cons _ _ _ _ _ (@ps_set _ _ (1) _ _ _ _ sc_shown.nd rfl (Or.inl rfl) (@pe_lst _ _ _ _ pa_nil) rfl (by first | exact .inl rfl | exact .inr rfl | assumption)) (@pss_cons _ _ _ _ _ (@ps_set _ _ (2) _ _ _ _ sc_shown.nd rfl (Or.inl rfl) pe_non rfl (by first | exact .inl rfl | exact .inr rfl | assumption)) (@pss_cons _ _ _ _ _ (@ps_for _ _ _ _ _ _ _ _ PassesOwn.never rfl (@pi_enumK _ (K) _ _ _ _ _ _ _ rfl rfl T.enumerate_ (@pa_c _ _ _ _ _ (pv 0) pa_nil rfl) rfl) (@pg_tupK _ (K) _ _ _ _ (2) rfl rfl (@pgs_cons _ _ _ _ _ (@pg_name _ _ (3) _ sc_shown.nd rfl (Or.inl rfl) (by first | exact .inl rfl | exact .inr rfl | assumption)) (@pgs_cons _ _ _ _ _ (@pg_name _ _ (4) _ sc_shown.nd rfl (Or.inl rfl) (by first | exact .inl rfl | exact .inr rfl | assumption)) pgs_nil rfl) rfl) rfl rfl) (@pss_one _ _ _ (@ps_if _ _ _ _ _ _ _ _ (@pt_cmpR _ _ _ _ _ _ _ _ op_ne (pv 4) pe_int (nomark _)) (@pss_cons _ _ _ _ _ (@ps_cut _ _ _ (@ps_if _ _ _ _ _ _ _ _ (@pt_cmpR _ _ _ _ _ _ _ _ op_ne (pv 3) (pv 2) (nomark _)) (@pss_one _ _ _ (@ps_expr _ _ _ _ (pe_bm PySem.F.plainAttrs_list PySem.F.slot_list_append PySem.F.type_list_append mt_append (pv 1) (@pa_c _ _ _ _ _ (pe_joined (pj_str (pj_val (pv 3) pj_nil))) pa_nil rfl)) rfl)) pss_nil)) (@pss_cons _ _ _ _ _ (@ps_expr _ _ _ _ (pe_bm PySem.F.plainAttrs_list PySem.F.slot_list_append PySem.F.type_list_append mt_append (pv 1) (@pa_c _ _ _ _ _ (@pe_gcallN _ _ _ _ _ _ _ _ _ _ G_deed_line (hr.mono (by decide)) rfl (@pa_c _ _ _ _ _ (pv 4) pa_nil rfl) (by decide) rfl) pa_nil rfl)) rfl) (@pss_one _ _ _ (@ps_set _ _ (2) _ _ _ _ sc_shown.nd rfl (Or.inl rfl) (@pe_op _ _ _ _ _ _ _ _ op_add (pv 3) pe_int) rfl (by first | exact .inl rfl | exact .inr rfl | assumption))))) pss_nil)) (fun _ => rfl)) (@pss_one _ _ _ (@ps_ret _ _ _ _ (pe_bm PySem.F.plainAttrs_str PySem.F.slot_str_join PySem.F.type_str_join (mt_join (K := K) rfl) pe_str (@pa_c _ _ _ _ _ (pv 1) pa_nil rfl))))))), ?_⟩
    wtm_at "tt"
    refine Sx.newL (by show 0 ≤ sizeLine; decide) fun l1 G1 n1 h1 s1 => ?_
    wtm_at "tt"
    refine ⟨a, _, rfl, s1.seq hS, for_enum (xs := c.map V.int) (fun i σ' H' => ∃ fol x3 x4, σ' = [some (.ref a), some (.ref l1), some fol, x3, x4] ∧ H' l1 = some (.lst ((rowsN c i).map V.str)) ∧ Same H H' ∧ Fol c i fol) ?_ ?_ ?_ ?_⟩
    · exact ⟨_, _, _, rfl, h1, s1, .inl ⟨rfl, fun z => absurd z.1 (by omega)⟩⟩
    · rintro i σ' H' _ ⟨_, _, _, _, _, s2, _⟩
      exact s2.seq hS
    · rintro i x T0 σ' H' hx ⟨fol, x3, x4, rfl, h2, s2, hf⟩ hT
      rw [List.getElem?_map] at hx
      have hi : i < c.length := by
        cases e : c[i]? with
        | none => rw [e] at hx; cases hx
        | some v => exact (List.getElem?_eq_some_iff.mp e).1
      have ec : c[i]? = some (c.getD i 0) := by rw [List.getD_eq_getElem?_getD, List.getElem?_eq_getElem hi]; rfl
      rw [ec] at hx
      have hcc : 0 ≤ c.getD i 0 ∧ c.getD i 0 < 1024 := hc _ (List.mem_of_getElem? ec)
      cases hx
      have s3 : Same H' (upd H' T0 (.tup [.int i, .int (c.getD i 0)])) := Same.newH hT
      have t3 : (upd H' T0 (.tup [.int i, .int (c.getD i 0)])) T0 = some (.tup [.int i, .int (c.getD i 0)]) := upd_same
      generalize upd H' T0 (.tup [.int i, .int (c.getD i 0)]) = G3 at s3 t3 ⊢
      have h3 := s3 _ _ h2
      have sm := s2.trans s3
      refine ⟨T0, _, rfl, SqT.of t3, rfl, _, _, rfl, _, _, rfl, rfl, ?_⟩
      have hr0 := rows_in hc i (by omega) (by omega)
      wtm_at "tt"
      refine iteN (fun g => ?_) (fun g => ?_)
      · have frm : ∀ {H1 : Hp}, Same H H1 → ∀ H2 : Hp, (∀ b o, b ≠ l1 → H1 b = some o → H2 b = some o) → Same H H2 := fun s4 H2 fr b o e => fr b o (ne_of_none e n1) (s4 b o e)
        wtm_at "tt"
        refine Sx.cut (fun σ2 H2 => σ2 = [some (.ref a), some (.ref l1), some fol, some (.int i), some (.int (c.getD i 0))] ∧ H2 l1 = some (.lst ((if i = 0 ∨ c.getD (i - 1) 0 = 0 then rowsN c i ++ ["place " ++ numS (i : Nat)] else rowsN c i).map V.str)) ∧ Same H H2) ?_ ?_
        · wtm_at "tt"
          refine ⟨hf.scal _, ?_⟩
          wtm_at "tt"
          refine iteN (fun g2 => ?_) (fun g2 => ?_)
          · have g3 : i = 0 ∨ c.getD (i - 1) 0 = 0 := by
              have := fun z => g2 (hf.iff.mpr z)
              by_cases e : i = 0
              · exact .inl e
              · right
                by_cases e2 : c.getD (i - 1) 0 = 0
                · exact e2
                · exact absurd ⟨by omega, e2⟩ this
            wtm_at "tt"
            refine ⟨.inl ⟨rfl, _, SqL.of h3⟩, ?_⟩
            wtm_at "tt"
            have hz := sz
            have hn := num_len (i := i) (by omega)
            refine Sx.js ⟨by rw [empty_app, l_place]; omega, ?_⟩
            rw [empty_app]
            have e : ("place " ++ numS (i : Int)).length ≤ sizeLine := by rw [strLen_append, l_place]; omega
            refine Sx.jv (Sx.var rfl ⟨numS (i : Int), .int (log_ok (by omega) (by omega)), e, Sx.jn ⟨e, ?_⟩⟩)
            wtm_at "tt"
            refine Sx.addL h3 (by rw [List.length_map]; omega) fun H4 h4 fr => ?_
            refine ⟨rfl, ?_, frm sm H4 fr⟩
            rw [if_pos g3, h4, List.map_append]
            rfl
          · have g3 : ¬ (i = 0 ∨ c.getD (i - 1) 0 = 0) := by
              have := hf.iff.mp g2
              intro z
              rcases z with z | z
              · omega
              · exact this.2 z
            wtm_at "tt"
            exact ⟨rfl, by rw [if_neg g3]; exact h3, sm⟩
        · rintro _ H2 ⟨rfl, h4, s4⟩
          wtm_at "tt"
          refine ⟨.inl ⟨rfl, _, SqL.of h4⟩, ?_⟩
          wtm_at "tt"
          refine ⟨_, rfl, hcc.1, hcc.2, fun H5 s5 => ?_⟩
          wtm_at "tt"
          have hlen : (if i = 0 ∨ c.getD (i - 1) 0 = 0 then rowsN c i ++ ["place " ++ numS (i : Nat)] else rowsN c i).length ≤ 2 * i + 1 := by
            split
            · rw [List.length_append, List.length_singleton]; omega
            · omega
          refine Sx.addL (s5 _ _ h4) (by rw [List.length_map]; omega) fun H6 h6 fr => ?_
          wtm_at "tt"
          refine ⟨_, _, _, rfl, ?_, frm (s4.trans s5) H6 fr, Fol.more g⟩
          rw [h6]
          rw [rows_succ, if_neg g]
          split
          · rw [List.map_append, List.map_append, List.map_append]; rfl
          · rw [List.map_append]; rfl
      · wtm_at "tt"
        refine ⟨_, _, _, rfl, ?_, sm, hf.zero g⟩
        rw [h3]
        rw [rows_succ, if_pos g]
    · rintro σ' H' ⟨fol, x3, x4, rfl, h2, s2, _⟩
      rw [List.length_map] at h2
      have hr0 := rows_in hc c.length (Nat.le_refl _) (by omega)
      wtm_at "tt"
      refine Sx.joinL h2 (joinOk 60 hr0.2 ?_) (k _ s2)
      rw [l_nl, sizeLine_eq]
      omega
end
end Ls
/-! ### the laws' own telling of a line -/
namespace Ll
open PySem L2 Tx Lw Ls
def sp_strs (ts : List Str) : Sp := fun vs H Q _ => vs = [] ∧ ∀ l H', H l = none → H' l = some (.lst (ts.map V.str)) → Same H H' → Q (.ref l) H'
def sp_named (K : PySem.W.Frag) : Sp := fun vs H Q _ => ∃ (a : Addr) (ts : List Str) (p : Int), vs = [.ref a, .int p] ∧ SqL K H a (ts.map V.str) ∧ ts.length = 6 ∧ ∀ l H', H l = none → H' l = some (.lst ((pick ts p).map V.str)) → Same H H' → Q (.ref l) H'
def sp_line : Sp := fun vs H Q _ => ∃ n : Int, vs = [.int n] ∧ 0 ≤ n ∧ n < 1024 ∧ ∀ H', Same H H' → Q (.str (lineS n)) H'
section
variable {P : Program} {w : World} {K : PySem.W.Frag} {mg : Str → Option Value} {base : Heap}
theorem ok_kinds (R : Raw K mg "_law_kinds" s_law_kinds) : GF P w K mg base "_law_kinds" [] 1 (sp_strs kindsS) := by
  refine GF.mk R sc_law_kinds (fun _ _ _ _ _ _ us hl => match us, hl with | [], _ => rfl) (fun vs H Q E h => ?_) (fun f cdv A outer s H vs Q E hr h => ?_)
  · obtain ⟨rfl, _⟩ := h; rfl
  · obtain ⟨rfl, k⟩ := h
    refine ⟨_, (@pss_one _ _ _ (@ps_ret _ _ _ _ (@pe_lst _ _ _ _ (@pa_c _ _ _ _ _ pe_str (@pa_c _ _ _ _ _ pe_str (@pa_c _ _ _ _ _ pe_str (@pa_c _ _ _ _ _ pe_str (@pa_c _ _ _ _ _ pe_str (@pa_c _ _ _ _ _ pe_str pa_nil rfl) rfl) rfl) rfl) rfl) rfl)))), ?_⟩
    wtm_at "ss"
    exact ⟨by show 6 ≤ sizeLine; decide, fun l hl => k l _ hl upd_same (Same.newH hl)⟩
theorem ok_asks (R : Raw K mg "_law_asks" s_law_asks) : GF P w K mg base "_law_asks" [] 1 (sp_strs asksS) := by
  refine GF.mk R sc_law_asks (fun _ _ _ _ _ _ us hl => match us, hl with | [], _ => rfl) (fun vs H Q E h => ?_) (fun f cdv A outer s H vs Q E hr h => ?_)
  · obtain ⟨rfl, _⟩ := h; rfl
  · obtain ⟨rfl, k⟩ := h
    refine ⟨_, (@pss_one _ _ _ (@ps_ret _ _ _ _ (@pe_lst _ _ _ _ (@pa_c _ _ _ _ _ pe_str (@pa_c _ _ _ _ _ pe_str (@pa_c _ _ _ _ _ pe_str (@pa_c _ _ _ _ _ pe_str (@pa_c _ _ _ _ _ pe_str (@pa_c _ _ _ _ _ pe_str (@pa_c _ _ _ _ _ pe_str (@pa_c _ _ _ _ _ pe_str (@pa_c _ _ _ _ _ pe_str pa_nil rfl) rfl) rfl) rfl) rfl) rfl) rfl) rfl) rfl)))), ?_⟩
    wtm_at "ss"
    exact ⟨by show 9 ≤ sizeLine; decide, fun l hl => k l _ hl upd_same (Same.newH hl)⟩
theorem ok_changes (R : Raw K mg "_law_changes" s_law_changes) : GF P w K mg base "_law_changes" [] 1 (sp_strs changesS) := by
  refine GF.mk R sc_law_changes (fun _ _ _ _ _ _ us hl => match us, hl with | [], _ => rfl) (fun vs H Q E h => ?_) (fun f cdv A outer s H vs Q E hr h => ?_)
  · obtain ⟨rfl, _⟩ := h; rfl
  · obtain ⟨rfl, k⟩ := h
    refine ⟨_, (@pss_one _ _ _ (@ps_ret _ _ _ _ (@pe_lst _ _ _ _ (@pa_c _ _ _ _ _ pe_str (@pa_c _ _ _ _ _ pe_str (@pa_c _ _ _ _ _ pe_str (@pa_c _ _ _ _ _ pe_str (@pa_c _ _ _ _ _ pe_str (@pa_c _ _ _ _ _ pe_str pa_nil rfl) rfl) rfl) rfl) rfl) rfl)))), ?_⟩
    wtm_at "ss"
    exact ⟨by show 6 ≤ sizeLine; decide, fun l hl => k l _ hl upd_same (Same.newH hl)⟩
theorem ok_tests (R : Raw K mg "_law_tests" s_law_tests) : GF P w K mg base "_law_tests" [] 1 (sp_strs testsS) := by
  refine GF.mk R sc_law_tests (fun _ _ _ _ _ _ us hl => match us, hl with | [], _ => rfl) (fun vs H Q E h => ?_) (fun f cdv A outer s H vs Q E hr h => ?_)
  · obtain ⟨rfl, _⟩ := h; rfl
  · obtain ⟨rfl, k⟩ := h
    refine ⟨_, (@pss_one _ _ _ (@ps_ret _ _ _ _ (@pe_lst _ _ _ _ (@pa_c _ _ _ _ _ pe_str (@pa_c _ _ _ _ _ pe_str (@pa_c _ _ _ _ _ pe_str (@pa_c _ _ _ _ _ pe_str (@pa_c _ _ _ _ _ pe_str (@pa_c _ _ _ _ _ pe_str pa_nil rfl) rfl) rfl) rfl) rfl) rfl)))), ?_⟩
    wtm_at "ss"
    exact ⟨by show 6 ≤ sizeLine; decide, fun l hl => k l _ hl upd_same (Same.newH hl)⟩
theorem ok_named (R : Raw K mg "_law_named" s_law_named) (T : TxtL K mg) : GF P w K mg base "_law_named" ["_law_names", "_law_place"] 1 (sp_named K) := by
  refine GF.mk R sc_law_named (fun _ _ _ _ _ _ us hl => match us, hl with | [_, _], _ => rfl) (fun vs H Q E h => ?_) (fun f cdv A outer s H vs Q E hr h => ?_)
  · obtain ⟨a, ts, p, rfl, _⟩ := h; rfl
  · obtain ⟨a, ts, p, rfl, hS, hl, k⟩ := h
    refine ⟨_, (@pss_one _ _ _ (@ps_ret _ _ _ _ (@pe_lcompN _ (["_law_k" , "_law_name"]) _ _ _ _ _ _ _ _ _ _ _ ([("_law_place" , 1)]) rfl (@pi_enumK _ (K) _ _ _ _ _ _ _ rfl rfl T.enumerate_ (@pa_c _ _ _ _ _ (pv 0) pa_nil rfl) rfl) ⟨rfl, rfl, by decide +kernel, by decide +kernel, by decide +kernel, ⟨rfl, trivial⟩ , rfl, ⟨⟨rfl, .inl rfl, .inl rfl, _, rfl, rfl⟩ , trivial⟩⟩ (fun _ _ _ _ => (@pg_tupK _ (K) _ _ _ _ (2) rfl rfl (@pgs_cons _ _ _ _ _ (@pg_name _ _ (0) _ (show List.Nodup (["_law_k" , "_law_name" , "_law_place"] : List Str) from by decide +kernel) rfl (Or.inl rfl) (by first | exact .inl rfl | exact .inr rfl | assumption)) (@pgs_cons _ _ _ _ _ (@pg_name _ _ (1) _ (show List.Nodup (["_law_k" , "_law_name" , "_law_place"] : List Str) from by decide +kernel) rfl (Or.inl rfl) (by first | exact .inl rfl | exact .inr rfl | assumption)) pgs_nil rfl) rfl) rfl rfl)) (fun _ _ _ _ => (@pts_one _ _ _ (@pt_cmpR _ _ _ _ _ _ _ _ op_eq (@pe_op _ _ _ _ _ _ _ _ op_mod (@pe_op _ _ _ _ _ _ _ _ op_fdiv (pv 2) (@pe_ix _ _ _ _ _ _ _ (ix_tupK (K := K) rfl) (@pe_tup _ _ _ _ _ (@pa_ints _ _ ([32, 16, 8, 4, 2, 1]) rfl)) (pv 0) (fun _ _ => rfl))) pe_int) pe_int (nomark _)))) (fun _ _ _ _ => (pv 1)) (fun _ => rfl)))), ?_⟩
    wtm_at "tt"
    have bin : ∀ i, i < 6 → 0 < bitsL.getD i 0 := by decide
    refine ⟨a, _, rfl, hS, lc_pairsF (n := 6) (fun i acc H' => acc = (pickN ts p i).map V.str ∧ Same H H') (fun i => .int (i : Int)) (fun i => .str (ts.getD i Str.empty)) (by decide) ?_ ?_ ?_ ⟨rfl, Same.refl _⟩ ?_ ?_ ?_⟩
    · rintro i acc H0 v H1 ⟨T0, x, e1, e2, e3, e4⟩ hi hI
      have f1 : (ts.map V.str)[i]? = some (.str (ts.getD i Str.empty)) := by rw [List.getElem?_map, List.getD_eq_getElem?_getD, List.getElem?_eq_getElem (by omega)]; rfl
      have f2 := e3 _ (hI.2.seq hS)
      rw [f1] at f2
      cases f2
      exact ⟨T0, e1, e2, e4⟩
    · intro i acc H0 hi hI
      exact ⟨_, _, hI.2.seq hS, by rw [List.getElem?_map, List.getElem?_eq_getElem (by omega)]; rfl⟩
    · intro acc H0 hI
      exact ⟨_, hI.2.seq hS, by rw [List.length_map]; omega⟩
    · rintro i acc H0 ⟨e, _⟩
      rw [e, List.length_map]
      exact pick_len ts p i
    · rintro i acc H0 hi ⟨e, sm⟩ H1 s2 QT kt kf
      wtm_at "tt"
      refine Sx.newT (by show 6 ≤ sizeLine; decide) fun t3 G3 n3 h3 s3 => ?_
      wtm_at "tt"
      refine Sx.ixT (v := .int (bitsL.getD i 0)) h3 ?_ ?_
      · exact atI_nat (xs := [V.int 32, .int 16, .int 8, .int 4, .int 2, .int 1]) (by
          have q : ∀ i, i < 6 → [V.int 32, .int 16, .int 8, .int 4, .int 2, .int 1][i]? = some (.int (bitsL.getD i 0)) := by decide
          exact q i hi)
      · have bi := bin i hi
        have s4 := sm.trans (s2.trans s3)
        generalize hb : bitsL.getD i 0 = b at bi
        have hb2 : b < 100 := by
          have q : ∀ i, i < 6 → bitsL.getD i 0 < 100 := by decide
          rw [← hb]; exact q i hi
        wtm_at "tt"
        by_cases g : p / b % 2 = 1
        · rw [decide_eq_true g]
          refine kt _ fun Q' q' => ?_
          wtm_at "tt"
          refine q' _ _ ⟨?_, s4⟩
          rw [e, pickN_get, hb, if_pos g, List.map_append]
          rfl
        · rw [decide_eq_false g]
          refine kf _ ⟨?_, s4⟩
          rw [e, pickN_get, hb, if_neg g]
    · rintro acc H0 ⟨e, sm⟩ l2 n2
      subst e
      exact k l2 _ (sm.free n2) upd_same (sm.trans (Same.newH n2))
theorem ok_line (R : Raw K mg "_law_line" s_law_line) (T : TxtL K mg) (G_law_kinds : GF P w K mg base "_law_kinds" [] 1 (sp_strs kindsS)) (G_law_asks : GF P w K mg base "_law_asks" [] 1 (sp_strs asksS)) (G_law_changes : GF P w K mg base "_law_changes" [] 1 (sp_strs changesS)) (G_law_tests : GF P w K mg base "_law_tests" [] 1 (sp_strs testsS))
    (G_law_named : GF P w K mg base "_law_named" ["_law_names", "_law_place"] 1 (sp_named K)) : GF P w K mg base "_law_line" ["_law_number"] 2 sp_line := by
  refine GF.mk R sc_law_line (fun _ _ _ _ _ _ us hl => match us, hl with | [_], _ => rfl) (fun vs H Q E h => ?_) (fun f cdv A outer s H vs Q E hr h => ?_)
  · obtain ⟨n, rfl, _⟩ := h; rfl
  · obtain ⟨n, rfl, h0, h1, k⟩ := h
    refine ⟨_, (@pss_cons _ _ _ _ _ (@ps_set _ _ (1) _ _ _ _ sc_law_line.nd rfl (Or.inl rfl) (@pe_op _ _ _ _ _ _ _ _ op_fdiv (pv 0) pe_int) rfl (by first | exact .inl rfl | exact .inr rfl | assumption)) (@pss_cons _ _ _ _ _ (@ps_set _ _ (2) _ _ _ _ sc_law_line.nd rfl (Or.inl rfl) (@pe_op _ _ _ _ _ _ _ _ op_mod (pv 0) pe_int) rfl (by first | exact .inl rfl | exact .inr rfl | assumption)) (@pss_cons _ _ _ _ _ (@ps_set _ _ (3) _ _ _ _ sc_law_line.nd rfl (Or.inl rfl) (@pe_op _ _ _ _ _ _ _ _ op_mod (@pe_op _ _ _ _ _ _ _ _ op_fdiv (pv 0) pe_int) pe_int) rfl (by first | exact .inl rfl | exact .inr rfl | assumption)) (@pss_cons _ _ _ _ _ (@ps_if _ _ _ _ _ _ _ _ (@pt_cmpR _ _ _ _ _ _ _ _ op_lt (pv 1) pe_int (nomark _)) (@pss_one _ _ _ (@ps_ret _ _ _ _ (@pe_op _ _ _ _ _ _ _ _ op_add_str (@pe_op _ _ _ _ _ _ _ _ op_add_str (@pe_ix _ _ _ _ _ _ _ (ix_listK (K := K) rfl) (pe_gcall0 G_law_kinds (hr.mono (by decide)) rfl) (pv 1) (fun _ _ => rfl)) (@pe_ix _ _ _ _ _ _ _ (ix_listK (K := K) rfl) (@pe_lst _ _ _ _ (@pa_c _ _ _ _ _ pe_str (@pa_c _ _ _ _ _ pe_str pa_nil rfl) rfl)) (pv 3) (fun _ _ => rfl))) (@pe_callTyN _ _ _ _ _ _ _ _ _ call_str_int (by rfl) T.str_ bo_str (@pa_c _ _ _ _ _ (pv 2) pa_nil rfl) (by decide) (by decide) rfl)))) pss_nil) (@pss_cons _ _ _ _ _ (@ps_if _ _ _ _ _ _ _ _ (@PW.pt _ _ _ (@pw_and _ _ _ _ _ _ _ (@pt_cmpR _ _ _ _ _ _ _ _ op_eq (pv 1) pe_int (nomark _)) (@pw_and1 _ _ _ _ (@pt_cmpR _ _ _ _ _ _ _ _ op_eq (pv 3) pe_int (nomark _))))) (@pss_one _ _ _ (@ps_ret _ _ _ _ (pe_bm PySem.F.plainAttrs_str PySem.F.slot_str_join PySem.F.type_str_join (mt_join (K := K) rfl) pe_str (@pa_c _ _ _ _ _ (@pe_op _ _ _ _ _ _ _ _ op_cat (@pe_lst _ _ _ _ (@pa_c _ _ _ _ _ pe_str pa_nil rfl)) (@pe_gcallN _ _ _ _ _ _ _ _ _ _ G_law_named (hr.mono (by decide)) rfl (@pa_c _ _ _ _ _ (pe_gcall0 G_law_changes (hr.mono (by decide)) rfl) (@pa_c _ _ _ _ _ (pv 2) pa_nil rfl) rfl) (by decide) rfl)) pa_nil rfl)))) pss_nil) (@pss_cons _ _ _ _ _ (@ps_if _ _ _ _ _ _ _ _ (@pt_cmpR _ _ _ _ _ _ _ _ op_eq (pv 1) pe_int (nomark _)) (@pss_one _ _ _ (@ps_ret _ _ _ _ (pe_bm PySem.F.plainAttrs_str PySem.F.slot_str_join PySem.F.type_str_join (mt_join (K := K) rfl) pe_str (@pa_c _ _ _ _ _ (@pe_op _ _ _ _ _ _ _ _ op_cat (@pe_lst _ _ _ _ (@pa_c _ _ _ _ _ pe_str pa_nil rfl)) (@pe_gcallN _ _ _ _ _ _ _ _ _ _ G_law_named (hr.mono (by decide)) rfl (@pa_c _ _ _ _ _ (pe_gcall0 G_law_tests (hr.mono (by decide)) rfl) (@pa_c _ _ _ _ _ (pv 2) pa_nil rfl) rfl) (by decide) rfl)) pa_nil rfl)))) pss_nil) (@pss_cons _ _ _ _ _ (@ps_if _ _ _ _ _ _ _ _ (@PW.pt _ _ _ (@pw_and _ _ _ _ _ _ _ (@pt_cmpR _ _ _ _ _ _ _ _ op_eq (pv 3) pe_int (nomark _)) (@pw_and1 _ _ _ _ (@pt_cmpR _ _ _ _ _ _ _ _ op_lt (pv 2) pe_int (nomark _))))) (@pss_one _ _ _ (@ps_ret _ _ _ _ (@pe_op _ _ _ _ _ _ _ _ op_add_str pe_str (@pe_ix _ _ _ _ _ _ _ (ix_listK (K := K) rfl) (pe_gcall0 G_law_asks (hr.mono (by decide)) rfl) (pv 2) (fun _ _ => rfl))))) pss_nil) (@pss_one _ _ _ (@ps_ret _ _ _ _ (@pe_op _ _ _ _ _ _ _ _ op_add_str pe_str (@pe_callTyN _ _ _ _ _ _ _ _ _ call_str_int (by rfl) T.str_ bo_str (@pa_c _ _ _ _ _ (pv 0) pa_nil rfl) (by decide) (by decide) rfl))))))))))), ?_⟩
    wtm_at "tt"
    refine iteD (fun g => ?_) (fun g => ?_)
    · wtm_at "tt"
      refine ⟨rfl, fun l1 G1 n1 hl1 s1 => ?_⟩
      wtm_at "tt"
      have hi : (n / 128).toNat < kindsS.length := by show _ < 6; omega
      refine Sx.ixL (v := .str (kindsS.getD (n / 128).toNat Str.empty)) hl1 ?_ ?_
      · obtain ⟨m, hm⟩ := Int.eq_ofNat_of_zero_le (show 0 ≤ n / 128 by omega)
        rw [hm] at hi ⊢
        rw [Int.toNat_natCast] at hi ⊢
        rw [List.getD_eq_getElem?_getD, List.getElem?_eq_getElem hi]
        exact atI_nat (by rw [List.getElem?_map, List.getElem?_eq_getElem hi]; rfl)
      · wtm_at "tt"
        refine Sx.newL (by show 2 ≤ sizeLine; decide) fun l2 G2 n2 hl2 s2 => ?_
        wtm_at "tt"
        refine Sx.ixL (v := .str (Str.ofString (if n / 64 % 2 = 1 then " far " else " "))) hl2 ?_ ?_
        · have hx : n / 64 % 2 = 0 ∨ n / 64 % 2 = 1 := by omega
          rcases hx with g | g <;> rw [g] <;> rfl
        · wtm_at "tt"
          have hkl := getD_in kinds_len (by decide) (n / 128).toNat
          have hfl : (Str.ofString (if n / 64 % 2 = 1 then " far " else " ")).length ≤ 5 := by split <;> decide +kernel
          have hnl := num_len' (show 0 ≤ n % 64 by omega) (show n % 64 < 10000 by omega)
          refine ⟨_, _, rfl, rfl, by rw [sizeLine_eq]; omega, ?_⟩
          wtm_at "tt"
          refine ⟨_, rfl, log_ok (by omega) (by omega), ?_⟩
          have hnl' : (Str.ofString (toString (n % 64))).length ≤ 4 := hnl
          refine ⟨_, _, rfl, rfl, by rw [sizeLine_eq]; rw [strLen_append]; omega, ?_⟩
          have e : lineS n = kindsS.getD (n / 128).toNat Str.empty ++ (if n / 64 % 2 = 1 then " far " else " ") ++ numS (n % 64) := by
            unfold lineS
            rw [if_pos g]
          have k2 := k _ (s1.trans s2)
          rw [e] at k2
          exact k2
    · have bits : ∀ (nm : Str) (ts : List Str) (Gx G2 : Hp) (l1 l2 : Addr), Same H Gx → Same Gx G2 → G2 l1 = some (.lst [V.str nm]) → G2 l2 = some (.lst ((pick ts (n % 64)).map V.str)) → nm.length ≤ 6 → (∀ t ∈ ts, t.length ≤ 6) → ts.length = 6 →
          lineS n = Str.join " " (nm :: pick ts (n % 64)) → rCat (.ref l1) (.ref l2) G2 fun x H1 => rJoin K (.str " ") [x] H1 Q := by
        intro nm ts Gx G2 l1 l2 s1 s2 h1 h2 hn ht hl e
        have pl := pick_len ts (n % 64) 6
        refine Sx.catN h1 h2 (by rw [List.length_map, List.length_singleton]; have : (pick ts (n % 64)).length ≤ 6 := pl; omega) fun l3 G3 n3 h3 s3 => ?_
        refine Sx.joinL (ts := nm :: pick ts (n % 64)) h3 ?_ (by rw [← e]; exact k _ (s1.trans (s2.trans s3)))
        refine joinOk 6 (fun t h => ?_) ?_
        · rcases List.mem_cons.mp h with rfl | h
          · exact hn
          · exact pick_in ht 6 (by omega) t h
        · have : (pick ts (n % 64)).length ≤ 6 := pl
          rw [List.length_cons, l_bl, sizeLine_eq]
          omega
      have last : ∀ Gx, Same H Gx → ¬ n / 128 = 7 → (Gx = Gx) → True := fun _ _ _ _ => trivial
      wtm_at "tt"
      refine iteD (fun g7 => ?_) (fun g7 => ?_)
      · wtm_at "tt"
        refine iteD (fun g0 => ?_) (fun g0 => ?_)
        · wtm_at "tt"
          refine Sx.newL (by show 1 ≤ sizeLine; decide) fun l1 G1 n1 hl1 s1 => ?_
          wtm_at "tt"
          refine ⟨rfl, fun l2 G2 n2 hl2 s2 => ?_⟩
          wtm_at "tt"
          refine ⟨l2, changesS, n % 64, rfl, SqL.of hl2, rfl, fun l3 G3 n3 hl3 s3 => ?_⟩
          wtm_at "tt"
          exact bits "change" changesS G1 G3 l1 l3 s1 (s2.trans s3) ((s2.trans s3) _ _ hl1) hl3 (by decide +kernel) changes_len rfl (by unfold lineS; rw [if_neg g, if_pos ⟨g7, g0⟩])
        · wtm_at "tt"
          refine iteD (fun _ => ?_) (fun z => absurd g7 z)
          wtm_at "tt"
          refine Sx.newL (by show 1 ≤ sizeLine; decide) fun l1 G1 n1 hl1 s1 => ?_
          wtm_at "tt"
          refine ⟨rfl, fun l2 G2 n2 hl2 s2 => ?_⟩
          wtm_at "tt"
          refine ⟨l2, testsS, n % 64, rfl, SqL.of hl2, rfl, fun l3 G3 n3 hl3 s3 => ?_⟩
          wtm_at "tt"
          exact bits "test" testsS G1 G3 l1 l3 s1 (s2.trans s3) ((s2.trans s3) _ _ hl1) hl3 (by decide +kernel) tests_len rfl (by unfold lineS; rw [if_neg g, if_neg fun z => g0 z.2, if_pos g7])
      · wtm_at "tt"
        refine iteD (fun z => absurd z g7) (fun _ => ?_)
        have word : ¬ (n / 64 % 2 = 0 ∧ n % 64 < 9) → lineS n = "word " ++ numS n := fun b => by
          unfold lineS
          rw [if_neg g, if_neg fun z => g7 z.1, if_neg g7, if_neg b]
        have hnl := num_len' h0 (show n < 10000 by omega)
        have hnl' : (Str.ofString (toString n)).length ≤ 4 := hnl
        wtm_at "tt"
        refine iteD (fun g0 => ?_) (fun g0 => ?_)
        · wtm_at "tt"
          refine iteD (fun g9 => ?_) (fun g9 => ?_)
          · wtm_at "tt"
            refine ⟨rfl, fun l1 G1 n1 hl1 s1 => ?_⟩
            wtm_at "tt"
            have hi : (n % 64).toNat < asksS.length := by show _ < 9; omega
            refine Sx.ixL (v := .str (asksS.getD (n % 64).toNat Str.empty)) hl1 ?_ ?_
            · obtain ⟨m, hm⟩ := Int.eq_ofNat_of_zero_le (show 0 ≤ n % 64 by omega)
              rw [hm] at hi ⊢
              rw [Int.toNat_natCast] at hi ⊢
              rw [List.getD_eq_getElem?_getD, List.getElem?_eq_getElem hi]
              exact atI_nat (by rw [List.getElem?_map, List.getElem?_eq_getElem hi]; rfl)
            · have hal := getD_in asks_len (by decide) (n % 64).toNat
              refine ⟨_, _, rfl, rfl, by rw [sizeLine_eq]; rw [l_ask]; omega, ?_⟩
              have e : lineS n = "ask " ++ asksS.getD (n % 64).toNat Str.empty := by
                unfold lineS
                rw [if_neg g, if_neg fun z => g7 z.1, if_neg g7, if_pos ⟨g0, g9⟩]
              rw [← e]
              exact k _ s1
          · wtm_at "tt"
            refine ⟨_, rfl, log_ok (by omega) (by omega), ?_⟩
            refine ⟨_, _, rfl, rfl, by rw [sizeLine_eq]; rw [l_word]; omega, ?_⟩
            have k2 := k _ (Same.refl _)
            rw [word fun z => g9 z.2] at k2
            exact k2
        · wtm_at "tt"
          refine ⟨_, rfl, log_ok (by omega) (by omega), ?_⟩
          refine ⟨_, _, rfl, rfl, by rw [sizeLine_eq]; rw [l_word]; omega, ?_⟩
          have k2 := k _ (Same.refl _)
          rw [word fun z => g0 z.1] at k2
          exact k2
end
end Ll
namespace K38
open PySem L2 Tx Lw Ls Ll
def sp_law (K : PySem.W.Frag) : Sp := fun vs H Q _ => ∃ (a : Addr) (ns : List Int), vs = [.ref a] ∧ SqL K H a (ns.map V.int) ∧ ∀ H', Q (.bl true) H'
/-- the cells' list: a new one of 64 words -/
structure Cl (H H' : Hp) (l : Addr) (c : List Int) : Prop where
  nw : H l = none
  at_ : H' l = some (.lst (c.map V.int))
  len : c.length = 64
  wd : ∀ v ∈ c, 0 ≤ v ∧ v < 1024
  sm : Same H H'
theorem fill_cl {x : Int} : (fillL x 1024).length = 64 ∧ ∀ v ∈ fillL x 1024, 0 ≤ v ∧ v < 1024 := ⟨fillL_len _ _, fillL_in (by decide)⟩
section
variable {P : Program} {w : World} {K : PySem.W.Frag} {mg : Str → Option Value} {base : Heap}
theorem ok_law (R : Raw K mg "law" s_law) (T : TxtL K mg) (G_law_cell : GF P w K mg base "_law_cell" ["_law_script", "_law_k"] 1 (sp_cell K)) (G_law_mix : GF P w K mg base "_law_mix" ["_law_cell_here", "_law_prime", "_law_many"] 1 sp_mix)
    (G_law_fill : GF P w K mg base "_law_fill" ["_law_cell_here", "_law_most"] 2 sp_fill) (G_law_line : GF P w K mg base "_law_line" ["_law_number"] 2 sp_line) (G_shown : GF P w K mg base "shown" ["cells"] 4 (sp_shown K)) : GF P w K mg base "law" ["_law_script"] 5 (sp_law K) := by
  refine GF.mk R sc_law (fun _ _ _ _ _ _ us hl => match us, hl with | [_], _ => rfl) (fun vs H Q E h => ?_) (fun f cdv A outer s H vs Q E hr h => ?_)
  · obtain ⟨a, ns, rfl, _⟩ := h; rfl
  · obtain ⟨a, ns, rfl, hS, k⟩ := h
    refine ⟨_, (@pss_cons _ _ _ _ _ (@ps_set _ _ (1) _ _ _ _ sc_law.nd rfl (Or.inl rfl) (@pe_gcallN _ _ _ _ _ _ _ _ _ _ G_law_fill (hr.mono (by decide)) rfl (@pa_c _ _ _ _ _ (@pe_gcallN _ _ _ _ _ _ _ _ _ _ G_law_cell (hr.mono (by decide)) rfl (@pa_c _ _ _ _ _ (pv 0) (@pa_c _ _ _ _ _ pe_int pa_nil rfl) rfl) (by decide) rfl) (@pa_c _ _ _ _ _ pe_int pa_nil rfl) rfl) (by decide) rfl) rfl (by first | exact .inl rfl | exact .inr rfl | assumption)) (@pss_cons _ _ _ _ _ (@ps_cut _ _ _ (@ps_if _ _ _ _ _ _ _ _ (@pt_cmpR _ _ _ _ _ _ _ _ op_gt (@pe_op _ _ _ _ _ _ _ _ op_mod (@pe_gcallN _ _ _ _ _ _ _ _ _ _ G_law_cell (hr.mono (by decide)) rfl (@pa_c _ _ _ _ _ (pv 0) (@pa_c _ _ _ _ _ pe_int pa_nil rfl) rfl) (by decide) rfl) pe_int) pe_int (nomark _)) (@pss_one _ _ _ (@ps_setLCN _ (["_law_k" , "_law_number"]) _ _ _ _ _ _ _ _ _ _ _ ([("_law_script" , 0)]) (1) _ _ _ sc_law.nd rfl (Or.inl rfl) rfl rfl (@pi_enumK _ (K) _ _ _ _ _ _ _ rfl rfl T.enumerate_ (@pa_c _ _ _ _ _ (pv 1) pa_nil rfl) rfl) ⟨rfl, rfl, by decide +kernel, by decide +kernel, by decide +kernel, ⟨rfl, trivial⟩ , rfl, ⟨⟨rfl, .inl rfl, .inl rfl, _, rfl, rfl⟩ , trivial⟩⟩ (fun _ _ _ _ => (@pg_tupK _ (K) _ _ _ _ (2) rfl rfl (@pgs_cons _ _ _ _ _ (@pg_name _ _ (0) _ (show List.Nodup (["_law_k" , "_law_number" , "_law_script"] : List Str) from by decide +kernel) rfl (Or.inl rfl) (by first | exact .inl rfl | exact .inr rfl | assumption)) (@pgs_cons _ _ _ _ _ (@pg_name _ _ (1) _ (show List.Nodup (["_law_k" , "_law_number" , "_law_script"] : List Str) from by decide +kernel) rfl (Or.inl rfl) (by first | exact .inl rfl | exact .inr rfl | assumption)) pgs_nil rfl) rfl) rfl rfl)) (fun _ _ _ _ => pts_nil) (fun _ _ _ _ => (@pe_op _ _ _ _ _ _ _ _ op_mul (pv 1) (@pe_callTyN _ _ _ _ _ _ _ _ _ call_int1N (by rfl) T.int_ bo_int (@pa_c _ _ _ _ _ (@pe_cmpR _ _ _ _ _ _ _ _ op_eq (@pe_gcallN _ _ _ _ _ _ _ _ _ _ G_law_mix (hr.mono (by decide)) rfl (@pa_c _ _ _ _ _ (@pe_op _ _ _ _ _ _ _ _ op_add (@pe_gcallN _ _ _ _ _ _ _ _ _ _ G_law_cell (hr.mono (by decide)) rfl (@pa_c _ _ _ _ _ (pv 2) (@pa_c _ _ _ _ _ pe_int pa_nil rfl) rfl) (by decide) rfl) (@pe_op _ _ _ _ _ _ _ _ op_mul pe_int (pv 0))) (@pa_c _ _ _ _ _ pe_int (@pa_c _ _ _ _ _ pe_int pa_nil rfl) rfl) rfl) (by decide) rfl) pe_int (nomark _)) pa_nil rfl) (by decide) (by decide) rfl))) (fun _ => rfl) (by first | exact .inl rfl | exact .inr rfl | assumption))) pss_nil)) (@pss_cons _ _ _ _ _ (@ps_cut _ _ _ (@ps_if _ _ _ _ _ _ _ _ (@pt_cmpR _ _ _ _ _ _ _ _ op_eq (@pe_op _ _ _ _ _ _ _ _ op_mod (@pe_gcallN _ _ _ _ _ _ _ _ _ _ G_law_cell (hr.mono (by decide)) rfl (@pa_c _ _ _ _ _ (pv 0) (@pa_c _ _ _ _ _ pe_int pa_nil rfl) rfl) (by decide) rfl) pe_int) pe_int (nomark _)) (@pss_one _ _ _ (@ps_setLC _ _ _ _ _ _ _ _ _ _ _ _ ([]) (1) _ _ _ sc_law.nd rfl (Or.inl rfl) rfl rfl (@pi_range1 _ _ _ _ _ _ rfl T.range_ (@pa_c _ _ _ _ _ pe_int pa_nil rfl) rfl) ⟨rfl, rfl, by decide +kernel, by decide +kernel, rfl, by decide +kernel, trivial, rfl, trivial⟩ (fun _ _ _ _ => pts_nil) (fun _ _ _ _ => pe_int) (fun _ => rfl) (by first | exact .inl rfl | exact .inr rfl | assumption))) pss_nil)) (@pss_cons _ _ _ _ _ (@ps_for _ _ _ _ _ _ _ _ PassesOwn.never rfl (@pi_enumK _ (K) _ _ _ _ _ _ _ rfl rfl T.enumerate_ (@pa_c _ _ _ _ _ (@pe_slice _ _ _ _ _ _ _ _ _ _ (sl_listK (K := K) rfl) (pv 0) (@po_some _ _ _ pe_int) po_none) pa_nil rfl) rfl) (@pg_tupK _ (K) _ _ _ _ (2) rfl rfl (@pgs_cons _ _ _ _ _ (@pg_name _ _ (2) _ sc_law.nd rfl (Or.inl rfl) (by first | exact .inl rfl | exact .inr rfl | assumption)) (@pgs_cons _ _ _ _ _ (@pg_name _ _ (3) _ sc_law.nd rfl (Or.inl rfl) (by first | exact .inl rfl | exact .inr rfl | assumption)) pgs_nil rfl) rfl) rfl rfl) (@pss_one _ _ _ (ps_asg (@pe_op _ _ _ _ _ _ _ _ op_mod (pv 3) pe_int) (pg_sub (pv 1) (@pe_gcallN _ _ _ _ _ _ _ _ _ _ G_law_mix (hr.mono (by decide)) rfl (@pa_c _ _ _ _ _ (@pe_op _ _ _ _ _ _ _ _ op_add (pv 3) (pv 2)) (@pa_c _ _ _ _ _ pe_int (@pa_c _ _ _ _ _ pe_int pa_nil rfl) rfl) rfl) (by decide) rfl) set_list))) (fun _ => rfl)) (@pss_cons _ _ _ _ _ (@ps_set _ _ (4) _ _ _ _ sc_law.nd rfl (Or.inl rfl) (@pe_lst _ _ _ _ pa_nil) rfl (by first | exact .inl rfl | exact .inr rfl | assumption)) (@pss_cons _ _ _ _ _ (@ps_for _ _ _ _ _ _ _ _ PassesOwn.never rfl (@pi_enumK _ (K) _ _ _ _ _ _ _ rfl rfl T.enumerate_ (@pa_c _ _ _ _ _ (pv 1) pa_nil rfl) rfl) (@pg_tupK _ (K) _ _ _ _ (2) rfl rfl (@pgs_cons _ _ _ _ _ (@pg_name _ _ (2) _ sc_law.nd rfl (Or.inl rfl) (by first | exact .inl rfl | exact .inr rfl | assumption)) (@pgs_cons _ _ _ _ _ (@pg_name _ _ (5) _ sc_law.nd rfl (Or.inl rfl) (by first | exact .inl rfl | exact .inr rfl | assumption)) pgs_nil rfl) rfl) rfl rfl) (@pss_one _ _ _ (@ps_if _ _ _ _ _ _ _ _ (@pt_cmpR _ _ _ _ _ _ _ _ op_gt (pv 5) pe_int (nomark _)) (@pss_cons _ _ _ _ _ (@ps_cut _ _ _ (@ps_if _ _ _ _ _ _ _ _ (@PW.pt _ _ _ (@pw_or _ _ _ _ _ _ _ (@pt_cmpR _ _ _ _ _ _ _ _ op_eq (pv 2) pe_int (nomark _)) (@pw_or1 _ _ _ _ (@pt_cmpR _ _ _ _ _ _ _ _ op_eq (@pe_ix _ _ _ _ _ _ _ (ix_listK (K := K) rfl) (pv 1) (@pe_op _ _ _ _ _ _ _ _ op_sub (pv 2) pe_int) (fun _ _ => rfl)) pe_int (nomark _))))) (@pss_one _ _ _ (@ps_expr _ _ _ _ (pe_bm PySem.F.plainAttrs_list PySem.F.slot_list_append PySem.F.type_list_append mt_append (pv 4) (@pa_c _ _ _ _ _ (@pe_op _ _ _ _ _ _ _ _ op_add_str pe_str (@pe_callTyN _ _ _ _ _ _ _ _ _ call_str_int (by rfl) T.str_ bo_str (@pa_c _ _ _ _ _ (pv 2) pa_nil rfl) (by decide) (by decide) rfl)) pa_nil rfl)) rfl)) pss_nil)) (@pss_one _ _ _ (@ps_expr _ _ _ _ (pe_bm PySem.F.plainAttrs_list PySem.F.slot_list_append PySem.F.type_list_append mt_append (pv 4) (@pa_c _ _ _ _ _ (@pe_gcallN _ _ _ _ _ _ _ _ _ _ G_law_line (hr.mono (by decide)) rfl (@pa_c _ _ _ _ _ (pv 5) pa_nil rfl) (by decide) rfl) pa_nil rfl)) rfl))) pss_nil)) (fun _ => rfl)) (@pss_one _ _ _ (@ps_ret _ _ _ _ (@pe_cmpR _ _ _ _ _ _ _ _ op_eq (@pe_gcallN _ _ _ _ _ _ _ _ _ _ G_shown (hr.mono (by decide)) rfl (@pa_c _ _ _ _ _ (pv 1) pa_nil rfl) (by decide) rfl) (pe_bm PySem.F.plainAttrs_str PySem.F.slot_str_join PySem.F.type_str_join (mt_join (K := K) rfl) pe_str (@pa_c _ _ _ _ _ (pv 4) pa_nil rfl)) (nomark _)))))))))), ?_⟩
    wtm_at "ll"
    refine Lt.c_fill (by decide) fun l0 G0 n0 h0 s0 => ?_
    have C0 : Cl H G0 l0 (fillL (ns.getD (Int.toNat 0) 0) 1024) := ⟨n0, h0, fill_cl.1, fill_cl.2, s0⟩
    generalize fillL (ns.getD (Int.toNat 0) 0) 1024 = c0 at C0
    have hS0 := C0.sm.seq hS
    wtm_at "ll"
    refine Sx.cut (fun σ' H' => ∃ l c, σ' = [some (.ref a), some (.ref l), none, none, none, none] ∧ Cl H H' l c) ?_ ?_
    · wtm_at "ll"
      refine iteD (fun g => ?_) (fun g => ?_)
      · wtm_at "ll"
        refine ⟨l0, _, rfl, SqL.of C0.at_, lc_enumI (xs := c0.map V.int) (fun i acc H' => ∃ vs : List Int, acc = vs.map V.int ∧ vs.length = i ∧ (∀ v ∈ vs, 0 ≤ v ∧ v < 1024) ∧ Same G0 H') (by rw [List.length_map, C0.len]; decide) ⟨[], rfl, rfl, fun v hv => (nomatch hv), Same.refl _⟩ ?_ ?_ ?_ ?_⟩
        · rintro i acc H' ⟨vs, rfl, rfl, _⟩
          rw [List.length_map]
        · rintro i acc H' ⟨vs, _, _, _, s1⟩
          exact SqL.of (s1 _ _ C0.at_)
        · rintro i x acc H' hx ⟨vs, rfl, hl, hv, s1⟩ H1 s2 Q' q'
          rw [List.getElem?_map] at hx
          cases e : c0[i]? with
          | none => rw [e] at hx; cases hx
          | some v =>
            rw [e] at hx
            cases hx
            have hw := C0.wd v (List.mem_of_getElem? e)
            have hS1 := (s1.trans s2).seq hS0
            wtm_at "ll"
            have hi : i < 64 := by have := (List.getElem?_eq_some_iff.mp e).1; rw [C0.len] at this; exact this
            refine q' _ _ ⟨vs ++ [v * (if decide ((ns.getD (Int.toNat 0) 0 + 31 * (i : Int)) * 48271 % 9871 % 5 = 0) = true then 1 else 0)], ?_, by rw [List.length_append, List.length_singleton, hl], fun u hu => ?_, s1.trans s2⟩
            · rw [List.map_append]; rfl
            · rcases List.mem_append.mp hu with hu | hu
              · exact hv u hu
              · rw [List.mem_singleton] at hu
                subst hu
                split <;> omega
        · rintro acc H' ⟨vs, rfl, hl, hv, s1⟩ p hp
          rw [List.length_map, C0.len] at hl
          exact ⟨p, vs, rfl, (C0.sm.trans s1).free hp, upd_same, hl, hv, (C0.sm.trans s1).trans (Same.newH hp)⟩
      · exact ⟨l0, c0, rfl, C0⟩
    rintro _ G1 ⟨l1, c1, rfl, C1⟩
    have hS1 := C1.sm.seq hS
    wtm_at "ll"
    refine Sx.cut (fun σ' H' => ∃ l c, σ' = [some (.ref a), some (.ref l), none, none, none, none] ∧ Cl H H' l c) ?_ ?_
    · wtm_at "ll"
      refine iteD (fun g => ?_) (fun g => ?_)
      · wtm_at "ll"
        refine ⟨64, rfl, by decide, by decide, lc_range (lo := 0) (n := 64) (fun _ => .int 0) (by decide) (fun i hi Q' q' => ?_) (fun l nl => ?_)⟩
        · wtm_at "ll"
          exact q'
        · refine ⟨l, List.replicate 64 0, rfl, C1.sm.free nl, ?_, by simp, fun v hv => by rw [List.eq_of_mem_replicate hv]; omega, C1.sm.trans (Same.newH nl)⟩
          rw [upd_same]
          rfl
      · exact ⟨l1, c1, rfl, C1⟩
    rintro _ G2 ⟨l2, c2, rfl, C2⟩
    have hS2 := C2.sm.seq hS
    wtm_at "ll"
    refine Sx.slN hS2 fun p3 G3 n3 h3 s3 => ?_
    rw [show cutV (ns.map V.int) (some 2) none = (ns.drop 2).map V.int from (cutFrom _ 2).trans (List.map_drop ..).symm] at h3
    have C3 : Cl H G3 l2 c2 := ⟨C2.nw, s3 _ _ C2.at_, C2.len, C2.wd, C2.sm.trans s3⟩
    have n3' : H p3 = none := C2.sm.free n3
    have np : p3 ≠ l2 := (ne_of_none C2.at_ n3).symm
    wtm_at "ll"
    refine ⟨p3, _, rfl, SqL.of h3, for_enum (xs := (ns.drop 2).map V.int) (fun i σ' H' => ∃ c x y, σ' = [some (.ref a), some (.ref l2), x, y, none, none] ∧ Cl H H' l2 c ∧ H' p3 = some (.lst ((ns.drop 2).map V.int))) ⟨c2, _, _, rfl, C3, h3⟩ ?_ ?_ ?_⟩
    · rintro i σ' H' _ ⟨c, x, y, _, _, h4⟩
      exact SqL.of h4
    · rintro i x T0 σ' H' hx ⟨c, x3, x4, rfl, C4, h4⟩ hT
      rw [List.getElem?_map] at hx
      cases e : (ns.drop 2)[i]? with
      | none => rw [e] at hx; cases hx
      | some v =>
        rw [e] at hx
        cases hx
        have s5 : Same H' (upd H' T0 (.tup [.int i, .int v])) := Same.newH hT
        have t5 : (upd H' T0 (.tup [.int i, .int v])) T0 = some (.tup [.int i, .int v]) := upd_same
        generalize upd H' T0 (.tup [.int i, .int v]) = G5 at s5 t5 ⊢
        have h5 := s5 _ _ C4.at_
        refine ⟨T0, _, rfl, SqT.of t5, rfl, _, _, rfl, _, _, rfl, rfl, ?_⟩
        wtm_at "ll"
        have hm : 0 ≤ (v + (i : Int)) * 48271 % 9859 % 64 ∧ (v + (i : Int)) * 48271 % 9859 % 64 < 64 := by omega
        refine Sx.setN h5 hm.1 (by rw [C4.len]; exact hm.2) ?_
        refine ⟨_, _, _, rfl, ⟨C4.nw, upd_same, by rw [List.length_set]; exact C4.len, fun u hu => ?_, fun b o eb => ?_⟩, ?_⟩
        · rcases List.mem_or_eq_of_mem_set hu with hu | hu
          · exact C4.wd u hu
          · rw [hu]; omega
        · rw [upd_ne (ne_of_none eb C4.nw)]
          exact (C4.sm.trans s5) b o eb
        · rw [upd_ne np]
          exact s5 _ _ h4
    rintro σ' G6 ⟨c, x, y, rfl, C6, _⟩
    wtm_at "ll"
    refine Sx.newL (by show 0 ≤ sizeLine; decide) fun l7 G7 n7 h7 s7 => ?_
    have n7' : H l7 = none := C6.sm.free n7
    have nl : l2 ≠ l7 := ne_of_none C6.at_ n7
    wtm_at "ll"
    refine ⟨l2, _, rfl, SqL.of (s7 _ _ C6.at_), for_enum (xs := c.map V.int) (fun i σ' H' => ∃ x3 x4 x5, σ' = [some (.ref a), some (.ref l2), x3, x4, some (.ref l7), x5] ∧ Cl H H' l2 c ∧ H' l7 = some (.lst ((rowsN c i).map V.str))) ⟨_, _, _, rfl, ⟨C6.nw, s7 _ _ C6.at_, C6.len, C6.wd, C6.sm.trans s7⟩, h7⟩ ?_ ?_ ?_⟩
    · rintro i σ' H' _ ⟨_, _, _, _, C8, _⟩
      exact SqL.of C8.at_
    · rintro i x T0 σ' H' hx ⟨x3, x4, x5, rfl, C8, h8⟩ hT
      rw [List.getElem?_map] at hx
      have hi : i < c.length := by
        cases e : c[i]? with
        | none => rw [e] at hx; cases hx
        | some v => exact (List.getElem?_eq_some_iff.mp e).1
      have ec : c[i]? = some (c.getD i 0) := by rw [List.getD_eq_getElem?_getD, List.getElem?_eq_getElem hi]; rfl
      rw [ec] at hx
      have hcc : 0 ≤ c.getD i 0 ∧ c.getD i 0 < 1024 := C8.wd _ (List.mem_of_getElem? ec)
      cases hx
      have s9 : Same H' (upd H' T0 (.tup [.int i, .int (c.getD i 0)])) := Same.newH hT
      have t9 : (upd H' T0 (.tup [.int i, .int (c.getD i 0)])) T0 = some (.tup [.int i, .int (c.getD i 0)]) := upd_same
      generalize upd H' T0 (.tup [.int i, .int (c.getD i 0)]) = G9 at s9 t9 ⊢
      have C9 : Cl H G9 l2 c := ⟨C8.nw, s9 _ _ C8.at_, C8.len, C8.wd, C8.sm.trans s9⟩
      have h9 := s9 _ _ h8
      have hr0 := rows_in C8.wd i (by omega) (by have := C8.len; omega)
      have hi64 : i < 64 := by have := C8.len; omega
      have frm : ∀ {H1 : Hp}, Cl H H1 l2 c → ∀ H2 : Hp, (∀ b o, b ≠ l7 → H1 b = some o → H2 b = some o) → Cl H H2 l2 c := fun C H2 fr => ⟨C.nw, fr _ _ nl C.at_, C.len, C.wd, fun b o e => fr b o (ne_of_none e n7') (C.sm b o e)⟩
      refine ⟨T0, _, rfl, SqT.of t9, rfl, _, _, rfl, _, _, rfl, rfl, ?_⟩
      wtm_at "ll"
      refine iteD (fun g => ?_) (fun g => ?_)
      · have g' : ¬ c.getD i 0 = 0 := by omega
        wtm_at "ll"
        refine Sx.cut (fun σ2 H2 => σ2 = [some (.ref a), some (.ref l2), some (.int i), x4, some (.ref l7), some (.int (c.getD i 0))] ∧ H2 l7 = some (.lst ((if i = 0 ∨ c.getD (i - 1) 0 = 0 then rowsN c i ++ ["place " ++ numS (i : Nat)] else rowsN c i).map V.str)) ∧ Cl H H2 l2 c) ?_ ?_
        · have pl : (i = 0 ∨ c.getD (i - 1) 0 = 0) → ∀ H2 : Hp, H2 l7 = some (.lst ((rowsN c i).map V.str ++ [.str ("place " ++ numS (i : Nat))])) → H2 l7 = some (.lst ((if i = 0 ∨ c.getD (i - 1) 0 = 0 then rowsN c i ++ ["place " ++ numS (i : Nat)] else rowsN c i).map V.str)) := fun g H2 e => by
            rw [if_pos g, e, List.map_append]; rfl
          have hn := num_len (i := i) (by omega)
          have hn' : (Str.ofString (toString (i : Int))).length ≤ 4 := hn
          have adds : (i = 0 ∨ c.getD (i - 1) 0 = 0) → rAppend (.ref l7) [.str ("place " ++ Str.ofString (toString (i : Int)))] G9 (fun _ H2 => [some (V.ref a), some (.ref l2), some (.int i), x4, some (.ref l7), some (.int (c.getD i 0))] = [some (.ref a), some (.ref l2), some (.int i), x4, some (.ref l7), some (.int (c.getD i 0))] ∧ H2 l7 = some (.lst ((if i = 0 ∨ c.getD (i - 1) 0 = 0 then rowsN c i ++ ["place " ++ numS (i : Nat)] else rowsN c i).map V.str)) ∧ Cl H H2 l2 c) := fun g3 =>
            Sx.addL h9 (by rw [List.length_map]; omega) fun H4 h4 fr => ⟨rfl, pl g3 H4 h4, frm C9 H4 fr⟩
          wtm_at "ll"
          refine iteD (fun g0 => ?_) (fun g0 => ?_)
          · have g3 : i = 0 := by omega
            wtm_at "ll"
            refine ⟨.inl ⟨rfl, _, SqL.of h9⟩, ?_⟩
            wtm_at "ll"
            refine ⟨_, rfl, log_ok (by omega) (by omega), _, _, rfl, rfl, by rw [sizeLine_eq, l_place]; omega, ?_⟩
            exact adds (.inl g3)
          · have i0 : ¬ i = 0 := by omega
            wtm_at "ll"
            refine Sx.ixL (v := .int (c.getD (i - 1) 0)) C9.at_ ?_ ?_
            · have e : (i : Int) - 1 = ((i - 1 : Nat) : Int) := by omega
              rw [e]
              exact atI_nat (by rw [List.getElem?_map, List.getD_eq_getElem?_getD, List.getElem?_eq_getElem (by omega)]; rfl)
            · wtm_at "ll"
              refine iteD (fun g1 => ?_) (fun g1 => ?_)
              · wtm_at "ll"
                refine ⟨.inl ⟨rfl, _, SqL.of h9⟩, ?_⟩
                wtm_at "ll"
                refine ⟨_, rfl, log_ok (by omega) (by omega), _, _, rfl, rfl, by rw [sizeLine_eq, l_place]; omega, ?_⟩
                exact adds (.inr g1)
              · wtm_at "ll"
                exact ⟨rfl, by rw [if_neg (by intro z; rcases z with z | z; exact i0 z; exact g1 z)]; exact h9, C9⟩
        · rintro _ H2 ⟨rfl, h4, C4⟩
          wtm_at "ll"
          refine ⟨.inl ⟨rfl, _, SqL.of h4⟩, ?_⟩
          wtm_at "ll"
          refine ⟨_, rfl, hcc.1, hcc.2, fun H5 s5 => ?_⟩
          wtm_at "ll"
          have hlen : (if i = 0 ∨ c.getD (i - 1) 0 = 0 then rowsN c i ++ ["place " ++ numS (i : Nat)] else rowsN c i).length ≤ 2 * i + 1 := by
            split
            · rw [List.length_append, List.length_singleton]; omega
            · omega
          have C5 : Cl H H5 l2 c := ⟨C4.nw, s5 _ _ C4.at_, C4.len, C4.wd, C4.sm.trans s5⟩
          refine Sx.addL (s5 _ _ h4) (by rw [List.length_map]; omega) fun H6 h6 fr => ?_
          refine ⟨_, _, _, rfl, frm C5 H6 fr, ?_⟩
          rw [h6, rows_succ, if_neg g']
          split
          · rw [List.map_append, List.map_append, List.map_append]; rfl
          · rw [List.map_append]; rfl
      · have g' : c.getD i 0 = 0 := by omega
        wtm_at "ll"
        refine ⟨_, _, _, rfl, C9, ?_⟩
        rw [h9, rows_succ, if_pos g']
    rintro σ' Ga ⟨x3, x4, x5, rfl, Ca, ha⟩
    rw [List.length_map] at ha
    have hr0 := rows_in Ca.wd c.length (Nat.le_refl _) (by have := Ca.len; omega)
    wtm_at "ll"
    refine ⟨l2, c, rfl, SqL.of Ca.at_, Ca.len, Ca.wd, fun Gb sb => ?_⟩
    wtm_at "ll"
    refine Sx.joinL (sb _ _ ha) (joinOk 60 hr0.2 (by rw [l_nl, sizeLine_eq]; have := Ca.len; omega)) ?_
    wtm_at "ll"
    have e : decide (shownS c = Str.join "\n" (rowsN c c.length)) = true := decide_eq_true rfl
    rw [e]
    exact k _
end
end K38
def PySem.W.Fast.tw10517390700377555006 : Nat := 0
def PySem.W.Fast.tw1761825436929473541 : Nat := 0
def PySem.W.Fast.tw15006146683054386759 : Nat := 0
def PySem.W.Fast.tw7271061254500962725 : Nat := 0
def PySem.W.Fast.tw13737604230698067761 : Nat := 0
def PySem.W.Fast.tw15136529014902997802 : Nat := 0
def PySem.W.Fast.tw10766432223735212975 : Nat := 0
def PySem.W.Fast.tw12199136446957808329 : Nat := 0
open PySem PySem.W PyProof.Rows
set_option maxRecDepth 100000 in
set_option maxHeartbeats 0 in
theorem PySem.Challenge.cw_corehouse_k38_how_cells_are_shown_holds : PySem.Challenge.rw_corehouse_k38_how_cells_are_shown.Holds := by
  w_on; o_law; k_head; (case hw => w_witness2)
  k_fill
  refine L2.walk_ofK (l := PySem.Challenge.rw_corehouse_k38_how_cells_are_shown) (n := 63) (k := 5) (x := "_law_script") (CX := L2.CX0) (sp := K38.sp_law) rfl (by decide) rfl ⟨rfl, by decide, by decide⟩ (fun w h Y => PySem.W.kIn_of Y) ?F ?S ?C
  case F =>
    intro w mg fa h KX G hmg
    have R_parts : L2.Raw (L2.KOf KX) mg "parts" Tx.s_parts := by
      dsimp only [L2.KOf]
      refine' L2.raw_mk KX G ?a ?l ?c ?k
      (case a => k_is); (case l => k_is); (case c => k_is); (case k => k_is)
    have R_has_bit : L2.Raw (L2.KOf KX) mg "has_bit" Tx.s_has_bit := by
      dsimp only [L2.KOf]
      refine' L2.raw_mk KX G ?a ?l ?c ?k
      (case a => k_is); (case l => k_is); (case c => k_is); (case k => k_is)
    have R_shown : L2.Raw (L2.KOf KX) mg "shown" Tx.s_shown := by
      dsimp only [L2.KOf]
      refine' L2.raw_mk KX G ?a ?l ?c ?k
      (case a => k_is); (case l => k_is); (case c => k_is); (case k => k_is)
    have R_deed_line : L2.Raw (L2.KOf KX) mg "deed_line" Tx.s_deed_line := by
      dsimp only [L2.KOf]
      refine' L2.raw_mk KX G ?a ?l ?c ?k
      (case a => k_is); (case l => k_is); (case c => k_is); (case k => k_is)
    have R_cell_line : L2.Raw (L2.KOf KX) mg "cell_line" Tx.s_cell_line := by
      dsimp only [L2.KOf]
      refine' L2.raw_mk KX G ?a ?l ?c ?k
      (case a => k_is); (case l => k_is); (case c => k_is); (case k => k_is)
    have R_ask_line : L2.Raw (L2.KOf KX) mg "ask_line" Tx.s_ask_line := by
      dsimp only [L2.KOf]
      refine' L2.raw_mk KX G ?a ?l ?c ?k
      (case a => k_is); (case l => k_is); (case c => k_is); (case k => k_is)
    have R_bits_line : L2.Raw (L2.KOf KX) mg "bits_line" Tx.s_bits_line := by
      dsimp only [L2.KOf]
      refine' L2.raw_mk KX G ?a ?l ?c ?k
      (case a => k_is); (case l => k_is); (case c => k_is); (case k => k_is)
    have R_law_cell : L2.Raw (L2.KOf KX) mg "_law_cell" Tx.s_law_cell := by
      dsimp only [L2.KOf]
      refine' L2.raw_mk KX G ?a ?l ?c ?k
      (case a => k_is); (case l => k_is); (case c => k_is); (case k => k_is)
    have R_law_mix : L2.Raw (L2.KOf KX) mg "_law_mix" Tx.s_law_mix := by
      dsimp only [L2.KOf]
      refine' L2.raw_mk KX G ?a ?l ?c ?k
      (case a => k_is); (case l => k_is); (case c => k_is); (case k => k_is)
    have R_law_fill : L2.Raw (L2.KOf KX) mg "_law_fill" Tx.s_law_fill := by
      dsimp only [L2.KOf]
      refine' L2.raw_mk KX G ?a ?l ?c ?k
      (case a => k_is); (case l => k_is); (case c => k_is); (case k => k_is)
    have R_law_kinds : L2.Raw (L2.KOf KX) mg "_law_kinds" Tx.s_law_kinds := by
      dsimp only [L2.KOf]
      refine' L2.raw_mk KX G ?a ?l ?c ?k
      (case a => k_is); (case l => k_is); (case c => k_is); (case k => k_is)
    have R_law_asks : L2.Raw (L2.KOf KX) mg "_law_asks" Tx.s_law_asks := by
      dsimp only [L2.KOf]
      refine' L2.raw_mk KX G ?a ?l ?c ?k
      (case a => k_is); (case l => k_is); (case c => k_is); (case k => k_is)
    have R_law_named : L2.Raw (L2.KOf KX) mg "_law_named" Tx.s_law_named := by
      dsimp only [L2.KOf]
      refine' L2.raw_mk KX G ?a ?l ?c ?k
      (case a => k_is); (case l => k_is); (case c => k_is); (case k => k_is)
    have R_law_changes : L2.Raw (L2.KOf KX) mg "_law_changes" Tx.s_law_changes := by
      dsimp only [L2.KOf]
      refine' L2.raw_mk KX G ?a ?l ?c ?k
      (case a => k_is); (case l => k_is); (case c => k_is); (case k => k_is)
    have R_law_tests : L2.Raw (L2.KOf KX) mg "_law_tests" Tx.s_law_tests := by
      dsimp only [L2.KOf]
      refine' L2.raw_mk KX G ?a ?l ?c ?k
      (case a => k_is); (case l => k_is); (case c => k_is); (case k => k_is)
    have R_law_line : L2.Raw (L2.KOf KX) mg "_law_line" Tx.s_law_line := by
      dsimp only [L2.KOf]
      refine' L2.raw_mk KX G ?a ?l ?c ?k
      (case a => k_is); (case l => k_is); (case c => k_is); (case k => k_is)
    have R_law : L2.Raw (L2.KOf KX) mg "law" Tx.s_law := by
      dsimp only [L2.KOf]
      refine' L2.raw_mk KX G ?a ?l ?c ?k
      (case a => k_is); (case l => k_is); (case c => k_is); (case k => k_is)
    have I_AND : L2.IntG mg "AND" 0 := by
      refine' L2.int_mk KX G ?a
      (case a => k_is)
    have I_GO : L2.IntG mg "GO" 5 := by
      refine' L2.int_mk KX G ?a
      (case a => k_is)
    have I_ASK : L2.IntG mg "ASK" 6 := by
      refine' L2.int_mk KX G ?a
      (case a => k_is)
    have I_BITS : L2.IntG mg "BITS" 7 := by
      refine' L2.int_mk KX G ?a
      (case a => k_is)
    have I_DEEDS : L2.TupG (L2.KOf KX) mg "DEEDS" [.str "and", .str "add", .str "rise", .str "put", .str "call", .str "go"] := by
      dsimp only [L2.KOf]
      refine' L2.tup_mk KX G ?a ?l ?z ?vDEEDS
      (case a => k_is); (case l => k_is); (case z => decide)
      (case vDEEDS => exact .cons ⟨_, rfl⟩ (.cons ⟨_, rfl⟩ (.cons ⟨_, rfl⟩ (.cons ⟨_, rfl⟩ (.cons ⟨_, rfl⟩ (.cons ⟨_, rfl⟩ (.nil)))))))
    have I_ASKS : L2.TupG (L2.KOf KX) mg "ASKS" [.str "heard", .str "hear", .str "room", .str "say", .str "sleep", .str "fetch", .str "store", .str "stop", .str "look"] := by
      dsimp only [L2.KOf]
      refine' L2.tup_mk KX G ?a ?l ?z ?vASKS
      (case a => k_is); (case l => k_is); (case z => decide)
      (case vASKS => exact .cons ⟨_, rfl⟩ (.cons ⟨_, rfl⟩ (.cons ⟨_, rfl⟩ (.cons ⟨_, rfl⟩ (.cons ⟨_, rfl⟩ (.cons ⟨_, rfl⟩ (.cons ⟨_, rfl⟩ (.cons ⟨_, rfl⟩ (.cons ⟨_, rfl⟩ (.nil))))))))))
    have I_CHANGES : L2.TupG (L2.KOf KX) mg "CHANGES" [.str "zero", .str "turn", .str "flip", .str "more", .str "left", .str "right"] := by
      dsimp only [L2.KOf]
      refine' L2.tup_mk KX G ?a ?l ?z ?vCHANGES
      (case a => k_is); (case l => k_is); (case z => decide)
      (case vCHANGES => exact .cons ⟨_, rfl⟩ (.cons ⟨_, rfl⟩ (.cons ⟨_, rfl⟩ (.cons ⟨_, rfl⟩ (.cons ⟨_, rfl⟩ (.cons ⟨_, rfl⟩ (.nil)))))))
    have I_TESTS : L2.TupG (L2.KOf KX) mg "TESTS" [.str "minus", .str "none", .str "mark", .str "not", .str "zero", .str "flat"] := by
      dsimp only [L2.KOf]
      refine' L2.tup_mk KX G ?a ?l ?z ?vTESTS
      (case a => k_is); (case l => k_is); (case z => decide)
      (case vTESTS => exact .cons ⟨_, rfl⟩ (.cons ⟨_, rfl⟩ (.cons ⟨_, rfl⟩ (.cons ⟨_, rfl⟩ (.cons ⟨_, rfl⟩ (.cons ⟨_, rfl⟩ (.nil)))))))
    have I_BIT_ROW : L2.TupG (L2.KOf KX) mg "BIT_ROW" [.int 32, .int 16, .int 8, .int 4, .int 2, .int 1] := by
      dsimp only [L2.KOf]
      refine' L2.tup_mk KX G ?a ?l ?z ?vBIT_ROW
      (case a => k_is); (case l => k_is); (case z => decide)
      (case vBIT_ROW => exact .cons ⟨_, rfl⟩ (.cons ⟨_, rfl⟩ (.cons ⟨_, rfl⟩ (.cons ⟨_, rfl⟩ (.cons ⟨_, rfl⟩ (.cons ⟨_, rfl⟩ (.nil)))))))
    have Z_len : mg "len" = none := PySem.W.mg_none_of KX G (by k_is)
    have Z_isinstance : mg "isinstance" = none := PySem.W.mg_none_of KX G (by k_is)
    have Z_int : mg "int" = none := PySem.W.mg_none_of KX G (by k_is)
    have Z_bool : mg "bool" = none := PySem.W.mg_none_of KX G (by k_is)
    have Z_list : mg "list" = none := PySem.W.mg_none_of KX G (by k_is)
    have Z_range : mg "range" = none := PySem.W.mg_none_of KX G (by k_is)
    have Z_sum : mg "sum" = none := PySem.W.mg_none_of KX G (by k_is)
    have Z_any : mg "any" = none := PySem.W.mg_none_of KX G (by k_is)
    have Z_tuple : mg "tuple" = none := PySem.W.mg_none_of KX G (by k_is)
    have Z_enumerate : mg "enumerate" = none := PySem.W.mg_none_of KX G (by k_is)
    have Z_str : mg "str" = none := PySem.W.mg_none_of KX G (by k_is)
    have Z_min : mg "min" = none := PySem.W.mg_none_of KX G (by k_is)
    have Z_zip : mg "zip" = none := PySem.W.mg_none_of KX G (by k_is)
    have kii : PySem.W.kitOne (L2.KOf KX) (.type "int") (.type "int") = some true := by first | rfl | decide
    have kib : PySem.W.kitOne (L2.KOf KX) (.type "int") (.type "bool") = some false := by first | rfl | decide
    have kll : PySem.W.kitOne (L2.KOf KX) (.type "list") (.type "list") = some true := by first | rfl | decide
    obtain ⟨f, fd, e, Fn⟩ := id R_law
    have e0 := hmg.symm.trans e
    cases e0
    obtain ⟨oc, od, kV, doc, pm, an, cdv, ct, osl, rfl, lk, hcd⟩ := Fn.ex
    refine ⟨PySem.W.fnOf "law" "law" (L2.defArgs Tx.s_law) (L2.defBody Tx.s_law) (L2.defScope Tx.s_law) .none kV doc pm an cdv ct, fun s u => .of_eq rfl, fun base kb nb => ?_⟩
    have TL : Lw.TxtL (L2.KOf KX) mg := ⟨Z_len, Z_isinstance, Z_int, Z_bool, Z_list, Z_range, Z_sum, kii, kib, kll, Z_any, Z_enumerate, Z_tuple, Z_str, Z_min⟩
    have G_law_cell := Lw.ok_cell (P := PySem.Challenge.pw_corehouse_k38_how_cells_are_shown) (w := w) (base := base) R_law_cell TL
    have G_law_mix := Lw.ok_mix (P := PySem.Challenge.pw_corehouse_k38_how_cells_are_shown) (w := w) (base := base) R_law_mix
    have G_law_fill := Lw.ok_fill R_law_fill TL G_law_mix
    have TS : Ls.TxtS (L2.KOf KX) mg := ⟨I_AND, I_GO, I_ASK, I_BITS, I_DEEDS, I_ASKS, I_CHANGES, I_TESTS, I_BIT_ROW, Z_zip, Z_len, Z_enumerate⟩
    have G_parts := Ls.ok_parts (P := PySem.Challenge.pw_corehouse_k38_how_cells_are_shown) (w := w) (base := base) R_parts
    have G_has_bit := Ls.ok_bit (P := PySem.Challenge.pw_corehouse_k38_how_cells_are_shown) (w := w) (base := base) R_has_bit
    have G_cell_line := Ls.ok_cline (P := PySem.Challenge.pw_corehouse_k38_how_cells_are_shown) (w := w) (base := base) R_cell_line
    have G_ask_line := Ls.ok_aline (P := PySem.Challenge.pw_corehouse_k38_how_cells_are_shown) (w := w) (base := base) R_ask_line
    have G_bits_line := Ls.ok_bline R_bits_line TS G_has_bit
    have G_deed_line := Ls.ok_dline R_deed_line TS G_parts G_cell_line G_ask_line G_bits_line
    have G_shown := Ls.ok_shown R_shown TS G_deed_line
    have G_law_kinds := Ll.ok_kinds (P := PySem.Challenge.pw_corehouse_k38_how_cells_are_shown) (w := w) (base := base) R_law_kinds
    have G_law_asks := Ll.ok_asks (P := PySem.Challenge.pw_corehouse_k38_how_cells_are_shown) (w := w) (base := base) R_law_asks
    have G_law_changes := Ll.ok_changes (P := PySem.Challenge.pw_corehouse_k38_how_cells_are_shown) (w := w) (base := base) R_law_changes
    have G_law_tests := Ll.ok_tests (P := PySem.Challenge.pw_corehouse_k38_how_cells_are_shown) (w := w) (base := base) R_law_tests
    have G_law_named := Ll.ok_named (P := PySem.Challenge.pw_corehouse_k38_how_cells_are_shown) (w := w) (base := base) R_law_named TL
    have G_law_line := Ll.ok_line R_law_line TL G_law_kinds G_law_asks G_law_changes G_law_tests G_law_named
    have GL := K38.ok_law R_law TL G_law_cell G_law_mix G_law_fill G_law_line G_shown
    exact L2.GF.fn GL e lk
  case S => exact fun K H a ns hl _ hS => ⟨a, ns, rfl, hS, fun _ => rfl⟩
  case C => exact fun _ _ _ _ z => z
