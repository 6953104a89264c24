import PyProof.Rows.All
import Wide.All
import OpenK.AllK
import Wide.FinOn
import Lean
import PyProof.EqAt
import PyProof.EqKinds
import PyProof.TupleCall
import PySem.Challenge.RW_corehouse_k27_whole_saved_and_taken
set_option Elab.async false
set_option linter.all false
set_option maxRecDepth 100000
namespace L2
open PySem PySem.Spec PyProof.Rows
abbrev Key := Sum Int Str
def keyIs : Key → Value → Bool
 | .inl k, v => Value.isInt k v
 | .inr x, v => Value.isStrOf x v
def keyH (w : World) : Key → Int
 | .inl k => hashInt k
 | .inr x => hashStr w x
theorem keyIs_shape : ∀ {k : Key} {v : Value}, keyIs k v = true → (∃ i t, k = Sum.inl i ∧ v = Value.int i t) ∨ (∃ x t, k = Sum.inr x ∧ v = Value.str x t)
 | .inl i, v, h => by
  obtain ⟨t, e⟩ := Value.isInt_shape (k := i) (v := v) h
  exact .inl ⟨i, t, rfl, e⟩
 | .inr x, v, h => by
  obtain ⟨t, e⟩ := Value.isStrOf_shape (x := x) (v := v) h
  exact .inr ⟨x, t, rfl, e⟩
theorem key_ll (a b : Int) : decide ((Sum.inl a : Key) = Sum.inl b) = (a == b) := by
 by_cases e : a = b
 ·subst e; simp
 ·have h : ¬ (Sum.inl a : Key) = Sum.inl b := fun q => e (Sum.inl.inj q)
  rw [decide_eq_false h]
  exact (beq_eq_false_iff_ne.mpr e).symm
theorem key_rr (a b : Str) : decide ((Sum.inr a : Key) = Sum.inr b) = decide (a = b) := by
 by_cases e : a = b
 ·subst e; simp
 ·have h : ¬ (Sum.inr a : Key) = Sum.inr b := fun q => e (Sum.inr.inj q)
  rw [decide_eq_false h, decide_eq_false e]
theorem key_lr (a : Int) (b : Str) : decide ((Sum.inl a : Key) = Sum.inr b) = false := decide_eq_false (fun q => nomatch q)
theorem key_rl (a : Str) (b : Int) : decide ((Sum.inr a : Key) = Sum.inl b) = false := decide_eq_false (fun q => nomatch q)
def mixKind (prog : Program) (w : World) : PySem.KeyKind prog w Key where
 is := keyIs
 hash := keyH w
 inj := fun v a b ha hb => by
  rcases keyIs_shape ha with ⟨i, t, rfl, rfl⟩ | ⟨x, t, rfl, rfl⟩
  ·rcases keyIs_shape hb with ⟨j, u, rfl, e⟩ | ⟨y, u, rfl, e⟩
   ·injection e with e1 _; rw [e1]
   ·exact nomatch e
  ·rcases keyIs_shape hb with ⟨j, u, rfl, e⟩ | ⟨y, u, rfl, e⟩
   ·exact nomatch e
   ·injection e with e1 _; rw [e1]
 byValue := fun k v h => by
  rcases keyIs_shape h with ⟨i, t, rfl, rfl⟩ | ⟨x, t, rfl, rfl⟩ <;> rfl
 pyHash := fun hv h => by
  rcases keyIs_shape hv with ⟨i, t, rfl, rfl⟩ | ⟨x, t, rfl, rfl⟩
  ·exact wpAny_pyHash_int h
  ·exact wpAny_pyHash_str h
 eqBool := fun hu hv h => by
  rcases keyIs_shape hu with ⟨i, t, rfl, rfl⟩ | ⟨x, t, rfl, rfl⟩
  ·rcases keyIs_shape hv with ⟨j, u, rfl, rfl⟩ | ⟨y, u, rfl, rfl⟩
   ·rw [key_ll] at h; exact wpAny_eqBool_int h
   ·rw [key_lr] at h; exact SeqAt.EqAt.int_str i t y u _ _ _ _ h
  ·rcases keyIs_shape hv with ⟨j, u, rfl, rfl⟩ | ⟨y, u, rfl, rfl⟩
   ·rw [key_rl] at h; exact SeqAt.EqAt.str_int x t j u _ _ _ _ h
   ·rw [key_rr] at h; exact wpAny_eqBool_str h
 «strs» := fun k x t v h => by
  rcases keyIs_shape h with ⟨i, u, rfl, e⟩ | ⟨y, u, rfl, e⟩
  ·exact nomatch e
  ·injection e with e1 _
   subst e1
   cases v <;> rfl
end L2
namespace L2
open PySem PySem.Spec PyProof.Rows
inductive V where
 | non | bl (b : Bool) | int (i : Int) | str (x : Str) | byt (b : Array UInt8) | flt (b : UInt64) | ref (a : Addr) | ty (n : String)
 deriving DecidableEq
def RelV : V → Value → Prop
 | .non, u => u = Value.none
 | .bl b, u => u = Value.bool b
 | .int i, u => ∃ t, u = Value.int i t
 | .str x, u => ∃ t, u = Value.str x t
 | .byt b, u => ∃ t, u = Value.bytes b t
 | .flt b, u => ∃ t, u = Value.float b t
 | .ref a, u => u = Value.ref a
 | .ty n, u => u = Value.type n
abbrev Vals : List V → List Value → Prop := Paired RelV
theorem Vals.length {xs : List V} {us : List Value} (r : Vals xs us) : xs.length = us.length := Paired.length r
theorem Vals.get : ∀ {xs : List V} {us : List Value} {i : Nat} {x : V}, Vals xs us → xs[i]? = some x → ∃ u, us[i]? = some u ∧ RelV x u
 | _, _, _, _, .nil, e => by simp at e
 | _, _, 0, _, .cons r _, e => by simp at e; subst e; exact ⟨_, rfl, r⟩
 | _, _, i + 1, x, .cons _ t, e => by
  obtain ⟨u, h1, h2⟩ := Vals.get (i := i) (x := x) t (by simpa using e)
  exact ⟨u, by simpa using h1, h2⟩
theorem Vals.set {x : V} {u : Value} (r : RelV x u) : ∀ {xs : List V} {us : List Value} (i : Nat), Vals xs us → Vals (xs.set i x) (us.set i u)
 | _, _, _, .nil => .nil
 | _, _, 0, .cons _ t => .cons r t
 | _, _, i + 1, .cons q t => .cons q (Vals.set r i t)
theorem Vals.append : ∀ {xs ys : List V} {us ws : List Value}, Vals xs us → Vals ys ws → Vals (xs ++ ys) (us ++ ws)
 | _, _, _, _, .nil, s => s
 | _, _, _, _, .cons r t, s => .cons r (Vals.append t s)
theorem Vals.take : ∀ {xs : List V} {us : List Value} (n : Nat), Vals xs us → Vals (xs.take n) (us.take n)
 | _, _, 0, _ => .nil
 | _, _, _ + 1, .nil => .nil
 | _, _, n + 1, .cons r t => .cons r (Vals.take n t)
theorem Vals.drop : ∀ {xs : List V} {us : List Value} (n : Nat), Vals xs us → Vals (xs.drop n) (us.drop n)
 | _, _, 0, r => r
 | _, _, _ + 1, .nil => .nil
 | _, _, n + 1, .cons _ t => Vals.drop n t
def RelO : Option V → Option Value → Prop
 | some v, some u => RelV v u
 | none, none => True
 | _, _ => False
def KV {κ : Type} : List (κ × V) → List (κ × Value) → Prop := Paired fun (p : κ × V) (q : κ × Value) => p.1 = q.1 ∧ RelV p.2 q.2
def kV : Key → V
 | .inl i => .int i
 | .inr x => .str x
inductive HO where
  | lst (xs : List V)
  | tup (xs : List V)
  | dK (kvs : List (Key × V)) | dT (kvs : List (List Key × V))
  | set (S : Int → Bool) (n : Nat)
  | ins (C dx : Addr) (fs : List (Str × V))
  | own (x : Addr)
  | xd (fs : List (Str × V))
  | met (f x : Addr)
  | rng (lo hi : Int)
  | frz (o : Obj) (u : HO)
  | tbl (ps : Array Value)
  | ext (φ : Heap → Prop)
abbrev Hp := Addr → Option HO
def upd (H : Hp) (a : Addr) (o : HO) : Hp := fun b => if b = a then some o else H b
theorem upd_same {H : Hp} {a : Addr} {o : HO} : upd H a o a = some o := by unfold upd; rw [if_pos rfl]
theorem upd_ne {H : Hp} {a b : Addr} {o : HO} (h : b ≠ a) : upd H a o b = H b := by unfold upd; rw [if_neg h]
theorem upd_upd {H : Hp} {a : Addr} {o u : HO} : upd (upd H a o) a u = upd H a u := by
 funext b; unfold upd; split <;> rfl
theorem ne_of {H : Hp} {a b : Addr} {o u : HO} (h : H a = some o) (h' : H b = some u) (d : o ≠ u) : a ≠ b := by
 intro e; subst e; rw [h] at h'; exact d (Option.some.inj h')
theorem ne_of_none {H : Hp} {a b : Addr} {o : HO} (h : H a = some o) (h' : H b = none) : a ≠ b := by
 intro e; subst e; rw [h] at h'; cases h'
section
variable (P : Program) (w : World)
def ObjOk (H : Hp) (h : Heap) (a : Addr) : HO → Prop
 | .lst xs => xs.length ≤ sizeLine ∧ ∃ (its : List Value) (n : Nat), Vals xs its ∧ h.get? a = some { cls := .type "list", data := .seq its.toArray n }
 | .tup xs => xs.length ≤ sizeLine ∧ ∃ its : List Value, Vals xs its ∧ IsTup h a its.toArray
 | .dK kvs => kvs.length ≤ sizeLine ∧ (a == sysModules) = false ∧ ∃ vs, KV kvs vs ∧ h.DictOf (mixKind P w) a vs
 | .dT kvs => kvs.length ≤ sizeLine ∧ (a == sysModules) = false ∧ ∃ xs : List (List Key × Addr × Value),
   Paired (fun (p : List Key × V) (q : List Key × Addr × Value) => p.1 = q.1 ∧ H q.2.1 = some (.tup (p.1.map kV)) ∧ RelV p.2 q.2.2) kvs xs ∧
   ∃ o es ep, h.get? a = some o ∧ o.ExactDict ∧ o.data = .dict es ep ∧ es.toList = xs.map (entryOfKey (tupleKind (mixKind P w))) ∧ (xs.map (·.1)).Nodup
 | .set S n => h.SetOf (intKind P w) a S n
 | .ins C dx fs => H dx = some (.own a) ∧ fs.length ≤ 1000 ∧ dx ≠ a ∧ h.get? a = some (PySem.W.instObj C dx) ∧
   ∃ mA, h.Ns1 dx mA ∧ (∀ f, RelO (fs.lookup f) (mA f)) ∧ PySem.Within mA (fs.map (·.1))
 | .own _ => ∃ o, h.get? a = some o
 | .xd fs => ∃ mA, h.Ns1 a mA ∧ ∀ f, RelO (fs.lookup f) (mA f)
 | .rng lo hi => ∃ t u v, h.get? a = some { cls := .type "range", data := .fields #[.int lo t, .int hi u, .int 1 v] }
 | .frz o u => h.get? a = some o ∧ ObjOk H h a u
 | .tbl ps => h.get? a = some { cls := .none, data := .fields ps }
 | .met f x => h.get? a = some (PySem.W.methodObj (.ref f) (.ref x))
 | .ext φ => φ h ∧ (∃ o, h.get? a = some o) ∧ ∀ h1 h2 : Heap, φ h1 → (∀ o, h1.get? a = some o → h2.get? a = some o) → φ h2
def HOk (H : Hp) (h : Heap) : Prop := ∀ a o, H a = some o → ObjOk P w H h a o
end
section
variable {P : Program} {w : World} {H H' : Hp} {h h' : Heap} {a : Addr} {o : HO}
theorem ObjOk.lt (x : ObjOk P w H h a o) : a < h.objs.size := by
 cases o with
 | lst xs => obtain ⟨_, _, _, _, e⟩ := x; exact Heap.lt_size e
 | tup xs => obtain ⟨_, _, _, p⟩ := x; exact p.lt
 | dK kvs => obtain ⟨_, _, _, _, o, _, _, e, _⟩ := x; exact Heap.lt_size e
 | dT kvs => obtain ⟨_, _, _, _, o, _, _, e, _⟩ := x; exact Heap.lt_size e
 | set S n => obtain ⟨o, _, _, _, e, _⟩ := x; exact Heap.lt_size e
 | ins C dx fs => obtain ⟨_, _, _, e, _⟩ := x; exact Heap.lt_size e
 | own y => obtain ⟨_, e⟩ := x; exact Heap.lt_size e
 | xd fs => obtain ⟨_, ⟨_, _, _, e, _⟩, _⟩ := x; exact Heap.lt_size e
 | rng lo hi => obtain ⟨_, _, _, e⟩ := x; exact Heap.lt_size e
 | frz ob u => obtain ⟨e, _⟩ := x; exact Heap.lt_size e
 | tbl ps => exact Heap.lt_size (show h.get? a = some _ from x)
 | met f y => exact Heap.lt_size (show h.get? a = some _ from x)
 | ext φ => obtain ⟨_, ⟨_, e⟩, _⟩ := x; exact Heap.lt_size e
theorem Paired.mapP {α β : Type} {F G : α → β → Prop} : ∀ {l₁ : List α} {l₂ : List β}, Paired F l₁ l₂ → (∀ a b, F a b → G a b) → Paired G l₁ l₂
 | _, _, .nil, _ => .nil
 | _, _, .cons r t, f => .cons (f _ _ r) (Paired.mapP t f)
theorem ObjOk.stay (x : ObjOk P w H h a o) (k : ∀ b u, (b = a ∨ H b = some (.own a)) → h.get? b = some u → h'.get? b = some u)
  (ho : ∀ b, H b = some (.own a) → H' b = some (.own a)) (ht : ∀ b xs, H b = some (.tup xs) → H' b = some (.tup xs)) : ObjOk P w H' h' a o := by
 induction o with
 | lst xs => obtain ⟨z, its, n, r, e⟩ := x; exact ⟨z, its, n, r, k _ _ (.inl rfl) e⟩
 | tup xs => obtain ⟨z, its, r, ob, e, c⟩ := x; exact ⟨z, its, r, ob, k _ _ (.inl rfl) e, c⟩
 | dK kvs => obtain ⟨z, y, vs, r, ob, es, ep, e, c⟩ := x; exact ⟨z, y, vs, r, ob, es, ep, k _ _ (.inl rfl) e, c⟩
 | dT kvs =>
  obtain ⟨z, y, xs, r, ob, es, ep, e, c⟩ := x
  exact ⟨z, y, xs, Paired.mapP r fun p q z => ⟨z.1, ht _ _ z.2.1, z.2.2⟩, ob, es, ep, k _ _ (.inl rfl) e, c⟩
 | set S n => obtain ⟨ob, es, ep, t, e, c⟩ := x; exact ⟨ob, es, ep, t, k _ _ (.inl rfl) e, c⟩
 | ins C dx fs =>
  obtain ⟨d, z, ne, e, mA, ⟨od, es, ep, e2, c⟩, r⟩ := x
  exact ⟨ho _ d, z, ne, k _ _ (.inl rfl) e, mA, ⟨od, es, ep, k _ _ (.inr d) e2, c⟩, r⟩
 | own y => obtain ⟨ob, e⟩ := x; exact ⟨ob, k _ _ (.inl rfl) e⟩
 | xd fs => obtain ⟨mA, ⟨od, es, ep, e, c⟩, r⟩ := x; exact ⟨mA, ⟨od, es, ep, k _ _ (.inl rfl) e, c⟩, r⟩
 | rng lo hi => obtain ⟨t, u, v, e⟩ := x; exact ⟨t, u, v, k _ _ (.inl rfl) e⟩
 | frz ob u ih => obtain ⟨e, q⟩ := x; exact ⟨k _ _ (.inl rfl) e, ih q⟩
 | tbl ps =>
  have e : h.get? a = some { cls := .none, data := .fields ps } := x
  show h'.get? a = some { cls := .none, data := .fields ps }
  exact k a _ (.inl rfl) e
 | met f y =>
  have e : h.get? a = some (PySem.W.methodObj (.ref f) (.ref y)) := x
  show h'.get? a = some (PySem.W.methodObj (.ref f) (.ref y))
  exact k a _ (.inl rfl) e
 | ext φ => obtain ⟨p, ⟨o, e⟩, st⟩ := x; exact ⟨st _ _ p fun o q => k _ _ (.inl rfl) q, ⟨o, k _ _ (.inl rfl) e⟩, st⟩
theorem HOk.lt (x : HOk P w H h) (e : H a = some o) : a < h.objs.size := (x a o e).lt
theorem HOk.fresh (x : HOk P w H h) (e : h.objs.size ≤ a) : H a = none := by
 cases q : H a with
 | none => rfl
 | some u => exact absurd (Nat.lt_of_lt_of_le (x.lt q) e) (Nat.lt_irrefl _)
theorem HOk.kept (x : HOk P w H h) (k : ∀ b u, h.get? b = some u → h'.get? b = some u) : HOk P w H h' := fun a o e =>
 (x a o e).stay (fun b u _ q => k b u q) (fun _ q => q) fun _ _ q => q
theorem HOk.laid (x : HOk P w H h) (k : ∀ b u, h.get? b = some u → h'.get? b = some u) (hp : h.objs.size ≤ a) (new : ObjOk P w (upd H a o) h' a o) : HOk P w (upd H a o) h' := fun b u e => by
 have hn := x.fresh hp
 by_cases hb : b = a
 ·subst hb; rw [upd_same] at e; cases e; exact new
 ·rw [upd_ne hb] at e
  exact (x b u e).stay (fun c v _ q => k c v q) (fun c q => by rw [upd_ne (ne_of_none q hn)]; exact q) fun c xs q => by rw [upd_ne (ne_of_none q hn)]; exact q
end
def Rd (H : Hp) (a : Addr) (u : HO) : Prop := H a = some u ∨ ∃ o, H a = some (.frz o u)
theorem Rd.ok {P : Program} {w : World} {H : Hp} {h : Heap} {a : Addr} {u : HO} (r : Rd H a u) (x : HOk P w H h) : ObjOk P w H h a u := by
 rcases r with r | ⟨o, r⟩
 ·exact x a u r
 ·obtain ⟨_, q⟩ := x a _ r
  exact q
def Mut : Option HO → Prop
 | some (.lst _) => True
 | some (.dK _) => True
 | some (.dT _) => True
 | some (.set _ _) => True
 | some (.ins _ _ _) => True
 | some (.ext _) => True
 | _ => False
section
variable {P : Program} {w : World} {H : Hp} {h h' : Heap} {x e : Addr} {o' : HO}
theorem HOk.write (ok : HOk P w H h) (mu : Mut (H x)) (he : e = x ∨ H e = some (.own x)) (k : ∀ b u, b ≠ e → h.get? b = some u → h'.get? b = some u) (heo : ∃ u, h'.get? e = some u)
  (new : ObjOk P w (upd H x o') h' x o') : HOk P w (upd H x o') h' := fun b u q => by
 have nown : ∀ c y, H c = some (.own y) → c ≠ x := fun c y r z => by subst z; rw [r] at mu; exact mu
 have ntup : ∀ c xs, H c = some (.tup xs) → c ≠ x := fun c xs r z => by subst z; rw [r] at mu; exact mu
 by_cases hb : b = x
 ·subst hb; rw [upd_same] at q; cases q; exact new
 ·rw [upd_ne hb] at q
  by_cases hbe : b = e
  ·have q' : H b = some (.own x) := by
    rcases he with z | z
    ·exact absurd (hbe.trans z) hb
    ·rw [hbe]; exact z
   rw [q] at q'; cases q'
   obtain ⟨v, hv⟩ := heo
   exact ⟨v, by rw [hbe]; exact hv⟩
  ·refine (ok b u q).stay (fun c v hc r => k c v ?_ r) (fun c r => by rw [upd_ne (nown c b r)]; exact r) fun c xs r => by rw [upd_ne (ntup c xs r)]; exact r
   rcases hc with rfl | hc
   ·exact hbe
   ·rintro rfl
    rcases he with z | z
    ·exact nown c b hc z
    ·rw [hc] at z; cases z; exact hb rfl
end
structure Un (fs ex : List Addr) (H H' : Hp) (h h' : Heap) : Prop where
 keep : ∀ b o, h.get? b = some o → H b = none → b ∉ fs → b ∉ ex → h'.get? b = some o
 slot : ∀ b o, h.get? b = some o → H b = none → b ∈ fs → b ∉ ex → ∃ sl, h'.get? b = some { o with slots := sl }
 free : ∀ b o, h.get? b = some o → H b = none → b ∉ ex → H' b = none
 there : ∀ b o, h.get? b = some o → b ∉ ex → ∃ o', h'.get? b = some o'
 tups : ∀ b xs, H b = some (.tup xs) → H' b = some (.tup xs)
 frzs : ∀ b o u, H b = some (.frz o u) → H' b = some (.frz o u)
 tbls : ∀ b ps, H b = some (.tbl ps) → ∃ more, H' b = some (.tbl (ps ++ more))
section
variable {fs fs' ex ex' : List Addr} {H H1 H2 : Hp} {h h1 h2 h' : Heap} {a x e : Addr} {o : HO}
theorem Un.any (u : Un fs ex H H1 h h1) {b : Addr} {ob : Obj} (q : h.get? b = some ob) (n : H b = none) (hx : b ∉ ex) : ∃ sl, h1.get? b = some { ob with slots := sl } := by
 by_cases hb : b ∈ fs
 ·exact u.slot b ob q n hb hx
 ·exact ⟨ob.slots, u.keep b ob q n hb hx⟩
theorem Un.kept (k : ∀ b u, h.get? b = some u → h'.get? b = some u) : Un fs ex H H h h' :=
 ⟨fun b ob q _ _ _ => k b ob q, fun b ob q _ _ _ => ⟨ob.slots, k b ob q⟩, fun _ _ _ n _ => n, fun b ob q _ => ⟨ob, k b ob q⟩, fun _ _ q => q, fun _ _ _ q => q, fun _ ps q => ⟨#[], by rw [q]; simp⟩⟩
theorem Un.refl : Un fs ex H H h h := Un.kept fun _ _ q => q
theorem Un.laid (k : ∀ b u, h.get? b = some u → h'.get? b = some u) (hp : h.objs.size ≤ a) (hn : H a = none) : Un fs ex H (upd H a o) h h' where
 keep := fun b u q _ _ _ => k b u q
 slot := fun b u q _ _ _ => ⟨u.slots, k b u q⟩
 free := fun b u q n _ => by rw [upd_ne (Nat.ne_of_lt (Nat.lt_of_lt_of_le (Heap.lt_size q) hp))]; exact n
 there := fun b u q _ => ⟨u, k b u q⟩
 tups := fun b xs q => by rw [upd_ne (ne_of_none q hn)]; exact q
 frzs := fun b u xs q => by rw [upd_ne (ne_of_none q hn)]; exact q
 tbls := fun b ps q => ⟨#[], by rw [upd_ne (ne_of_none q hn), q]; simp⟩
theorem Un.write (mu : Mut (H x)) (he : e = x ∨ H e = some (.own x)) (k : ∀ b u, b ≠ e → h.get? b = some u → h'.get? b = some u) (heo : ∃ u, h'.get? e = some u) : Un fs ex H (upd H x o) h h' := by
 have hx : ∀ b, H b = none → b ≠ x := fun b n z => by subst z; rw [n] at mu; exact mu
 have hb : ∀ b, H b = none → b ≠ e := fun b n z => by
  subst z
  rcases he with r | r
  ·exact hx b n r
  ·rw [n] at r; cases r
 have hm : ∀ b u, H b = some u → ¬ Mut (some u) → b ≠ x := fun b u q nm z => by subst z; rw [q] at mu; exact nm mu
 refine ⟨fun b u q n _ _ => k b u (hb b n) q, fun b u q n _ _ => ⟨u.slots, k b u (hb b n) q⟩, fun b u q n _ => by rw [upd_ne (hx b n)]; exact n, fun b u q _ => ?_,
  fun b xs q => by rw [upd_ne (hm b _ q fun z => z)]; exact q, fun b u xs q => by rw [upd_ne (hm b _ q fun z => z)]; exact q, fun b ps q => ⟨#[], by rw [upd_ne (hm b _ q fun z => z), q]; simp⟩⟩
 by_cases hbe : b = e
 ·subst hbe; exact heo
 ·exact ⟨u, k b u hbe q⟩
end
def trk (h : Heap) (H : Hp) : List Addr := (List.range h.objs.size).filter fun a => (H a).isSome
def hidT (h : Heap) (H : Hp) : Heap := PySem.W.hideAll h (trk h H)
theorem hidT_size (h : Heap) (H : Hp) : (hidT h H).objs.size = h.objs.size := PySem.W.hideAll_size _ _
theorem hidT_get {h : Heap} {H : Hp} {b : Addr} {o : Obj} (e : h.get? b = some o) (n : H b = none) : (hidT h H).get? b = some o :=
 PySem.W.hideAll_get _ e fun hm => by
  have q : (H b).isSome = true := (List.mem_filter.mp hm).2
  rw [n] at q; simp at q
theorem of_hidT {h : Heap} {H : Hp} {b : Addr} {o : Obj} (e : (hidT h H).get? b = some o) : h.get? b = some o ∧ H b = none := by
 have e' : h.get? b = some o := PySem.W.of_hideAll (trk h H) e
 refine ⟨e', ?_⟩
 cases q : H b with
 | none => rfl
 | some x =>
  have hm : b ∈ trk h H := List.mem_filter.mpr ⟨List.mem_range.mpr (Heap.lt_size e'), by simp [q]⟩
  have z : (hidT h H).get? b = none := PySem.W.hideAll_none (trk h H) hm
  rw [z] at e; cases e
end L2
namespace L2
open PySem PySem.Spec PyProof.Rows
structure Mod (K : PySem.W.Frag) (mg : Str → Option Value) (base : Heap) : Prop where
 kin : K.In base
 glob : base.Ns mainGlobals mg
 blt : ∃ mb, base.Ns builtinsNs mb ∧ ∀ x : Str, x ≠ "__name__" → mb x = bootBuiltins x
 nolimit : base.NoLimit
structure Cx where
 prog : Program
 w : World
 K : PySem.W.Frag
 mg : Str → Option Value
 base : Heap
 A : Around
 N : List Str
 s₀ : Shared
 H₀ : Hp
 env : Env
 outer : List Env
 stack : List Env
 ex : List Addr
 fn : Str → Bool
 calm : Bool
 pn : List (Addr × Obj)
 xe : Value → Shared → Prop
def frs (l : List Env) : List Addr := l.filterMap (·.frame)
abbrev Cx.fs (X : Cx) : List Addr := frs X.outer
def Vis (sc : Scope) (x : Str) : Prop := sc.names.lookup x = some .local ∨ sc.names.lookup x = some .cell ∨ sc.names.lookup x = some .free
def Loc (sc : Scope) (x : Str) : Prop := sc.names.lookup x = some .local ∨ sc.names.lookup x = some .cell
def Look (env : Env) (h : Heap) (m : Str → Option Value) (x : Str) (u : Value) : Prop :=
 (env.kindOf x = some .local ∧ m x = some u) ∨ ((env.kindOf x = some .cell ∨ env.kindOf x = some .free) ∧ ∃ c, env.cells.lookup x = some c ∧ h.IsCell c (some u))
structure Cx.Ok (X : Cx) : Prop where
 mod : Mod X.K X.mg X.base
 kind : X.env.scope.kind = .function
 glob : X.env.globals = mainGlobals
 blt : X.env.builtins = builtinsNs
 above : X.s₀.heap.objs.size ≤ X.env.locals
 inj : ∀ x y c, X.env.cells.lookup x = some c → X.env.cells.lookup y = some c → x = y
 has : ∀ x, (X.env.kindOf x = some .cell ∨ X.env.kindOf x = some .free) → ∃ c, X.env.cells.lookup x = some c
 cab : ∀ x c, X.fn x = true → X.env.cells.lookup x = some c → X.s₀.heap.objs.size ≤ c
 hd : X.calm = true → X.A.handled = none
 frames : X.A.frames = some X.stack
 stk : X.stack = X.outer ∨ (X.stack = X.env :: X.outer ∧ X.env.frame = some X.env.locals)
 exf : ∀ b ∈ X.ex, b ≠ X.env.locals ∧ ∀ x c, X.env.cells.lookup x = some c → c ≠ b
 bs : ∀ b o, X.base.get? b = some o → X.s₀.heap.get? b = some o ∧ X.H₀ b = none
 bsz : X.base.objs.size ≤ X.s₀.heap.objs.size
 noex : ∀ b o, X.base.get? b = some o → b ∉ X.ex
 exfs : ∀ b ∈ X.ex, b ∉ X.fs
 funs : X.s₀.heap.FunFrames X.base X.outer
 frf : ∀ b ∈ X.fs, X.H₀ b = none
structure Inv (X : Cx) (pins : List (Addr × Obj)) (σ : List (Option V)) (H : Hp) (s : Shared) : Prop where
 ok : X.Ok
 os : s.os = X.s₀.os
 bare : AllBare s.gens
 base : Un X.fs X.ex X.H₀ H X.s₀.heap s.heap
 loc : ∃ m, s.heap.Ns X.env.locals m ∧ ∀ (i : Nat) (x : Str) (v : V), X.N[i]? = some x → σ[i]? = some (some v) → Vis X.env.scope x → ∃ u, RelV v u ∧ Look X.env s.heap m x u
 cell : ∀ x c, X.env.cells.lookup x = some c → ∃ v, s.heap.IsCell c v
 free : H X.env.locals = none
 freeC : ∀ x c, X.env.cells.lookup x = some c → H c = none
 pin : ∀ p ∈ X.pn ++ pins, s.heap.get? p.1 = some p.2 ∧ H p.1 = none ∧ p.1 ≠ X.env.locals ∧ p.1 ∉ X.fs ∧ ∀ v, p.2.data ≠ .cell v
 hok : HOk X.prog X.w H s.heap
 len : σ.length = X.N.length
section
variable {X : Cx} {pins : List (Addr × Obj)} {σ : List (Option V)} {H H' : Hp} {s : Shared} {h' : Heap}
theorem Cx.Ok.nofr (ok : X.Ok) {b : Addr} {o : Obj} (e : X.base.get? b = some o) : b ∉ X.fs := fun hb => by
 have := (ok.funs.mem hb).1
 rw [e] at this; cases this
theorem Inv.bs (I : Inv X pins σ H s) : ∀ b o, X.base.get? b = some o → s.heap.get? b = some o ∧ H b = none := fun b o e =>
 ⟨I.base.keep b o (I.ok.bs b o e).1 (I.ok.bs b o e).2 (I.ok.nofr e) (I.ok.noex b o e), I.base.free b o (I.ok.bs b o e).1 (I.ok.bs b o e).2 (I.ok.noex b o e)⟩
theorem Inv.bk (I : Inv X pins σ H s) : ∀ b o, X.base.get? b = some o → s.heap.get? b = some o := fun b o e => (I.bs b o e).1
theorem Inv.mod (I : Inv X pins σ H s) : Mod X.K X.mg X.base := I.ok.mod
theorem Inv.kIn (I : Inv X pins σ H s) : X.K.In s.heap := I.ok.mod.kin.keeps I.bk
theorem Inv.lt (I : Inv X pins σ H s) : X.env.locals < s.heap.objs.size := let ⟨_, hn, _⟩ := I.loc; hn.lt
theorem Inv.sz (I : Inv X pins σ H s) : X.s₀.heap.objs.size ≤ s.heap.objs.size := Nat.le_trans I.ok.above (Nat.le_of_lt I.lt)
theorem Inv.nofs (I : Inv X pins σ H s) {a : Addr} (h : s.heap.objs.size ≤ a) : a ∉ X.fs := fun hb => by
 obtain ⟨_, o, ho, _⟩ := I.ok.funs.mem hb
 exact absurd (Nat.lt_of_lt_of_le (Heap.lt_size ho) (Nat.le_trans I.sz h)) (Nat.lt_irrefl _)
theorem Inv.cne (I : Inv X pins σ H s) : ∀ x c, X.env.cells.lookup x = some c → c ≠ X.env.locals := fun x c e z => by
 obtain ⟨v, o, ho, hd⟩ := I.cell x c e
 obtain ⟨m, ⟨o', es, ep, ho', hd', _⟩, _⟩ := I.loc
 rw [z, ho'] at ho; cases ho; rw [hd'] at hd; cases hd
theorem Inv.funs (I : Inv X pins σ H s) : s.heap.FunFrames X.base X.outer := by
 have all : ∀ (l : List Env), (∀ b ∈ frs l, b ∈ X.fs) → X.s₀.heap.FunFrames X.base l → s.heap.FunFrames X.base l := by
  intro l
  induction l with
  | nil => intro _ _; trivial
  | cons env r ih =>
   intro hs hl
   obtain ⟨hk, ⟨L, o, hf, hn, ho, hd⟩, hr⟩ := hl
   have hL : L ∈ X.fs := hs L (by unfold frs; rw [List.filterMap_cons, hf]; exact List.mem_cons_self)
   obtain ⟨sl, e⟩ := I.base.slot L o ho (I.ok.frf L hL) hL fun z => I.ok.exfs L z hL
   exact ⟨hk, ⟨L, _, hf, hn, e, hd⟩, ih (fun b hb => hs b (by unfold frs; rw [List.filterMap_cons, hf]; exact List.mem_cons_of_mem _ hb)) hr⟩
 exact all X.outer (fun _ hb => hb) I.ok.funs
theorem Inv.stack (I : Inv X pins σ H s) : s.heap.FunFrames X.base X.stack := by
 rcases I.ok.stk with e | ⟨e, hf⟩
 ·rw [e]; exact I.funs
 ·rw [e]
  obtain ⟨m, hn, _⟩ := I.loc
  refine .cons (by rw [I.ok.kind]; decide) hf hn ?_ I.funs
  exact Heap.get?_none_of_le (Nat.le_trans I.ok.bsz I.ok.above)
theorem Inv.stkSub (I : Inv X pins σ H s) : ∀ b ∈ frs X.stack, b ∈ X.env.locals :: X.fs := fun b hb => by
 rcases I.ok.stk with e | ⟨e, hf⟩
 ·rw [e] at hb; exact List.mem_cons_of_mem _ hb
 ·rw [e] at hb
  unfold frs at hb
  rw [List.filterMap_cons, hf] at hb
  exact hb
theorem Inv.stkFree (I : Inv X pins σ H s) : ∀ b ∈ frs X.stack, H b = none := fun b hb => by
 rcases List.mem_cons.mp (I.stkSub b hb) with e | hb
 ·rw [e]; exact I.free
 ·obtain ⟨_, o, ho, _⟩ := I.ok.funs.mem hb
  exact I.base.free b o ho (I.ok.frf b hb) fun z => I.ok.exfs b z hb
theorem Inv.step {g' : Array GenState} {t' : Nat} {d' : Drawn} {ch : List Addr} (I : Inv X pins σ H s)
  (hch : ∀ b ∈ ch, (b ∈ X.ex ∨ X.s₀.heap.objs.size ≤ b) ∧ b ≠ X.env.locals ∧ (∀ x c, X.env.cells.lookup x = some c → c ≠ b) ∧ ∀ p ∈ X.pn ++ pins, p.1 ≠ b)
  (keep : ∀ b o, b ≠ X.env.locals → b ∉ X.fs → b ∉ ch → s.heap.get? b = some o → H b = none → h'.get? b = some o)
  (slot : ∀ b o, b ≠ X.env.locals → b ∈ X.fs → b ∉ ch → s.heap.get? b = some o → H b = none → ∃ sl, h'.get? b = some { o with slots := sl }) (free : ∀ b o, b ∉ ch → s.heap.get? b = some o → H b = none → H' b = none)
  (there : ∀ b o, b ∉ ch → s.heap.get? b = some o → ∃ o', h'.get? b = some o')
  (tups : ∀ b xs, H b = some (.tup xs) → H' b = some (.tup xs)) (frzs : ∀ b o u, H b = some (.frz o u) → H' b = some (.frz o u)) (tbls : ∀ b ps, H b = some (.tbl ps) → ∃ more, H' b = some (.tbl (ps ++ more)))
  (ns : ∀ m, s.heap.Ns X.env.locals m → h'.Ns X.env.locals m) (hok : HOk X.prog X.w H' h') (hg : AllBare g') :
  Inv X pins σ H' { s with heap := h', gens := g', drawn := d', toks := t' } := by
 have neL : ∀ b o, X.s₀.heap.get? b = some o → b ≠ X.env.locals := fun b o e => Nat.ne_of_lt (Nat.lt_of_lt_of_le (Heap.lt_size e) I.ok.above)
 have neC : ∀ b o, X.s₀.heap.get? b = some o → b ∉ X.ex → b ∉ ch := fun b o e hx hb => by
  rcases (hch b hb).1 with z | z
  ·exact hx z
  ·exact absurd (Nat.lt_of_lt_of_le (Heap.lt_size e) z) (Nat.lt_irrefl _)
 have cellK : ∀ x c, X.env.cells.lookup x = some c → ∀ v, s.heap.IsCell c v → h'.IsCell c v := fun x c e v ⟨o, ho, hd⟩ => by
  have nch : c ∉ ch := fun z => (hch c z).2.2.1 x c e rfl
  by_cases hc : c ∈ X.fs
  ·obtain ⟨sl, q⟩ := slot c o (I.cne x c e) hc nch ho (I.freeC x c e)
   exact ⟨_, q, hd⟩
  ·exact ⟨o, keep c o (I.cne x c e) hc nch ho (I.freeC x c e), hd⟩
 refine ⟨I.ok, I.os, hg, ⟨fun b o e n hb hx => ?_, fun b o e n hb hx => ?_, fun b o e n hx => ?_, fun b o e hx => ?_, fun b xs e => tups b xs (I.base.tups b xs e), fun b o xs e => frzs b o xs (I.base.frzs b o xs e), fun b ps e => ?_⟩, ?_, fun x c e => ?_, ?_, fun x c e => ?_, fun p hp => ?_, hok, I.len⟩
 ·exact keep b o (neL b o e) hb (neC b o e hx) (I.base.keep b o e n hb hx) (I.base.free b o e n hx)
 ·obtain ⟨sl, e1⟩ := I.base.slot b o e n hb hx
  obtain ⟨sl', e2⟩ := slot b _ (neL b o e) hb (neC b o e hx) e1 (I.base.free b o e n hx)
  exact ⟨sl', e2⟩
 ·obtain ⟨o', e1⟩ := I.base.there b o e hx
  exact free b o' (neC b o e hx) e1 (I.base.free b o e n hx)
 ·obtain ⟨o', e1⟩ := I.base.there b o e hx
  exact there b o' (neC b o e hx) e1
 ·obtain ⟨m1, e1⟩ := I.base.tbls b ps e
  obtain ⟨m2, e2⟩ := tbls b _ e1
  exact ⟨m1 ++ m2, by rw [e2, Array.append_assoc]⟩
 ·obtain ⟨m, hn, hl⟩ := I.loc
  refine ⟨m, ns m hn, fun i x v e1 e2 e3 => ?_⟩
  obtain ⟨u, r, l⟩ := hl i x v e1 e2 e3
  refine ⟨u, r, ?_⟩
  rcases l with l | ⟨k, c, e, z⟩
  ·exact .inl l
  ·exact .inr ⟨k, c, e, cellK x c e _ z⟩
 ·obtain ⟨v, z⟩ := I.cell x c e
  exact ⟨v, cellK x c e v z⟩
 ·obtain ⟨m, ⟨o, _, _, ho, _⟩, _⟩ := I.loc
  exact free _ o (fun z => (hch _ z).2.1 rfl) ho I.free
 ·obtain ⟨v, o, ho, hd⟩ := I.cell x c e
  exact free c o (fun z => (hch c z).2.2.1 x c e rfl) ho (I.freeC x c e)
 ·obtain ⟨e, n, ne, nf, d⟩ := I.pin p hp
  have nch : p.1 ∉ ch := fun z => (hch p.1 z).2.2.2 p hp rfl
  exact ⟨keep p.1 p.2 ne nf nch e n, free p.1 p.2 nch e n, ne, nf, d⟩
theorem Inv.un {t' : Nat} (I : Inv X pins σ H s) (u : Un X.fs [] H H' s.heap h') (hok : HOk X.prog X.w H' h') : Inv X pins σ H' { s with heap := h', toks := t' } := by
 obtain ⟨m, ⟨o, es, ep, ho, r⟩, _⟩ := id I.loc
 obtain ⟨sl, hL⟩ := u.any ho I.free (by simp)
 exact I.step (g' := s.gens) (d' := s.drawn) (ch := []) (fun _ z => nomatch z) (fun b o _ hb _ e n => u.keep b o e n hb (by simp)) (fun b o _ hb _ e n => u.slot b o e n hb (by simp)) (fun b o _ e n => u.free b o e n (by simp)) (fun b o _ e => u.there b o e (by simp)) u.tups u.frzs u.tbls (fun m' hm => by
  obtain ⟨o', es', ep', ho', r'⟩ := hm
  rw [ho] at ho'; cases ho'
  exact ⟨_, es', ep', hL, r'⟩) hok I.bare
theorem Inv.call {g' : Array GenState} {t' : Nat} {d' : Drawn} {ch : List Addr} (I : Inv X pins σ H s) (u : Un (frs X.stack) ch H H' s.heap h') (hok : HOk X.prog X.w H' h') (hg : AllBare g')
  (hch : ∀ b ∈ ch, (b ∈ X.ex ∨ X.s₀.heap.objs.size ≤ b) ∧ b ≠ X.env.locals ∧ (∀ x c, X.env.cells.lookup x = some c → c ≠ b) ∧ ∀ p ∈ X.pn ++ pins, p.1 ≠ b) :
  Inv X pins σ H' { s with heap := h', gens := g', drawn := d', toks := t' } := by
 obtain ⟨m, ⟨o, es, ep, ho, r⟩, _⟩ := id I.loc
 obtain ⟨sl, hL⟩ := u.any ho I.free fun z => (hch _ z).2.1 rfl
 exact I.step (ch := ch) hch (fun b o hL hb hc e n => u.keep b o e n (fun z => (List.mem_cons.mp (I.stkSub b z)).elim hL hb) hc) (fun b o _ _ hc e n => u.any e n hc) (fun b o hc e n => u.free b o e n hc) (fun b o hc e => u.there b o e hc) u.tups u.frzs u.tbls (fun m' hm => by
  obtain ⟨o', es', ep', ho', r'⟩ := hm
  rw [ho] at ho'; cases ho'
  exact ⟨_, es', ep', hL, r'⟩) hok hg
theorem Inv.turned {t' : Nat} {it : Addr} (I : Inv X pins σ H s) (k : ∀ b o, b ≠ it → s.heap.get? b = some o → h'.get? b = some o) (hn : H it = none) (hL : it ≠ X.env.locals)
  (h1 : it ∈ X.ex ∨ X.s₀.heap.objs.size ≤ it) (h2 : ∀ x c, X.env.cells.lookup x = some c → c ≠ it) (h3 : ∀ p ∈ X.pn ++ pins, p.1 ≠ it) : Inv X pins σ H { s with heap := h', toks := t' } := by
 have nit : ∀ b u, H b = some u → b ≠ it := fun b u e z => by rw [z, hn] at e; cases e
 refine I.step (g' := s.gens) (d' := s.drawn) (ch := [it]) (fun b hb => ?_) (fun b o _ _ hc e _ => k b o (fun z => hc (by simp [z])) e) (fun b o _ _ hc e _ => ⟨o.slots, k b o (fun z => hc (by simp [z])) e⟩) (fun _ _ _ _ n => n)
  (fun b o hc e => ⟨o, k b o (fun z => hc (by simp [z])) e⟩) (fun _ _ e => e) (fun _ _ _ e => e) (fun b ps e => ⟨#[], by rw [e]; simp⟩) (fun m hm => ?_) (fun b u e => ?_) I.bare
 ·have e : b = it := by simpa using hb
  subst e
  exact ⟨h1, hL, h2, h3⟩
 ·obtain ⟨o, es, ep, ho, r⟩ := hm
  exact ⟨o, es, ep, k _ o (Ne.symm hL) ho, r⟩
 ·refine (I.hok b u e).stay (fun c v hc q => k c v ?_ q) (fun _ q => q) fun _ _ q => q
  rcases hc with z | z
  ·rw [z]; exact nit b u e
  ·exact nit c _ z
theorem Inv.tok (I : Inv X pins σ H s) (t : Nat) : Inv X pins σ H { s with toks := t } := I.un (h' := s.heap) (t' := t) Un.refl I.hok
theorem Inv.kept {t' : Nat} (I : Inv X pins σ H s) (k : ∀ b u, s.heap.get? b = some u → h'.get? b = some u) : Inv X pins σ H { s with heap := h', toks := t' } := I.un (Un.kept k) (I.hok.kept k)
theorem Inv.laid {a : Addr} {o : HO} {t' : Nat} (I : Inv X pins σ H s) (k : ∀ b u, s.heap.get? b = some u → h'.get? b = some u) (hp : s.heap.objs.size ≤ a) (new : ObjOk X.prog X.w (upd H a o) h' a o) :
  Inv X pins σ (upd H a o) { s with heap := h', toks := t' } := I.un (Un.laid k hp (I.hok.fresh hp)) (I.hok.laid k hp new)
theorem Inv.write {x e : Addr} {o : HO} {t' : Nat} (I : Inv X pins σ H s) (mu : Mut (H x)) (he : e = x ∨ H e = some (.own x)) (k : ∀ b u, b ≠ e → s.heap.get? b = some u → h'.get? b = some u) (heo : ∃ u, h'.get? e = some u)
  (new : ObjOk X.prog X.w (upd H x o) h' x o) : Inv X pins σ (upd H x o) { s with heap := h', toks := t' } := I.un (Un.write mu he k heo) (I.hok.write mu he k heo new)
theorem Inv.pins_of {pins' : List (Addr × Obj)} (I : Inv X pins σ H s) (h : ∀ p ∈ pins', s.heap.get? p.1 = some p.2 ∧ H p.1 = none ∧ p.1 ≠ X.env.locals ∧ p.1 ∉ X.fs ∧ ∀ v, p.2.data ≠ .cell v) : Inv X pins' σ H s :=
 ⟨I.ok, I.os, I.bare, I.base, I.loc, I.cell, I.free, I.freeC, fun p hp => (List.mem_append.mp hp).elim (fun z => I.pin p (List.mem_append_left _ z)) (h p), I.hok, I.len⟩
theorem nodup_ix {N : List Str} (hN : N.Nodup) {i j : Nat} {x : Str} (a : N[i]? = some x) (b : N[j]? = some x) : i = j := by
 obtain ⟨h1, e1⟩ := List.getElem?_eq_some_iff.mp a
 obtain ⟨h2, e2⟩ := List.getElem?_eq_some_iff.mp b
 exact (List.getElem_inj hN).mp (e1.trans e2.symm)
theorem store_ok2 {M : Model} {A : Around} {E : Value → Shared → Prop} {i : Nat} {x : Str} {v : V} {u : Value} {Q : Unit → Shared → Prop} (I : Inv X pins σ H s) (hN : X.N.Nodup) (hi : X.N[i]? = some x) (hx : Loc X.env.scope x) (r : RelV v u)
  (h : ∀ s', Inv X pins (σ.set i (some v)) H s' → (∃ a, Heap.SameBut a s.heap s'.heap ∧ (a = X.env.locals ∨ X.env.cells.lookup x = some a)) → Q () s') (hf : X.fn x = true ∨ X.env.scope.names.lookup x = some .local := by first | exact .inl rfl | exact .inr rfl | assumption) : wpAny M A (storeName X.env x u) Q E s := by
 obtain ⟨m, hn, hl⟩ := id I.loc
 have hcls : (X.env.scope.kind == .class || (X.env.scope.kind == .module && X.env.locals != X.env.globals)) = false := by rw [I.ok.kind]; rfl
 have hiσ : i < σ.length := by rw [I.len]; exact (List.getElem?_eq_some_iff.mp hi).1
 have cne := I.cne
 have tracked : ∀ {a : Addr} {h' : Heap}, (∃ o, s.heap.get? a = some o ∧ H a = none) → Heap.SameBut a s.heap h' → HOk X.prog X.w H h' := fun {a h'} ha hs b ob e => by
  obtain ⟨_, _, hfree⟩ := ha
  refine (I.hok b ob e).stay (fun c w' hc q => (hs.2 c ?_).trans q) (fun _ q => q) fun _ _ q => q
  rintro rfl
  rcases hc with rfl | hc
  ·rw [hfree] at e; cases e
  ·rw [hfree] at hc; cases hc
 rcases hx with hk | hk
 ·refine wpAny_storeName_local hk hn (fun h' hn' hs => ?_) hcls
  obtain ⟨oL, _, _, hoL, _⟩ := id hn
  refine h _ ⟨I.ok, I.os, I.bare, ⟨fun b o e n hb hx => ?_, fun b o e n hb hx => ?_, I.base.free, fun b o e hx => ?_, I.base.tups, I.base.frzs, I.base.tbls⟩, ⟨_, hn', fun j y v' e1 e2 e3 => ?_⟩, fun y c e => ?_, I.free, I.freeC, fun p hp => ?_, tracked ⟨oL, hoL, I.free⟩ hs, by simpa using I.len⟩ ⟨_, hs, .inl rfl⟩
  ·exact (hs.2 b (Nat.ne_of_lt (Nat.lt_of_lt_of_le (Heap.lt_size e) I.ok.above))).trans (I.base.keep b o e n hb hx)
  ·obtain ⟨sl, e1⟩ := I.base.slot b o e n hb hx
   exact ⟨sl, (hs.2 b (Nat.ne_of_lt (Nat.lt_of_lt_of_le (Heap.lt_size e) I.ok.above))).trans e1⟩
  ·obtain ⟨o', e1⟩ := I.base.there b o e hx
   exact ⟨o', (hs.2 b (Nat.ne_of_lt (Nat.lt_of_lt_of_le (Heap.lt_size e) I.ok.above))).trans e1⟩
  ·by_cases hj : j = i
   ·subst hj
    rw [hi] at e1; cases e1
    rw [List.getElem?_set_self hiσ] at e2
    cases e2
    exact ⟨u, r, .inl ⟨hk, by simp⟩⟩
   ·rw [List.getElem?_set_ne (Ne.symm hj)] at e2
    obtain ⟨u', r', q⟩ := hl j y v' e1 e2 e3
    refine ⟨u', r', ?_⟩
    rcases q with ⟨k, e⟩ | ⟨k, c, e, z⟩
    ·refine .inl ⟨k, ?_⟩
     have : y ≠ x := fun e => hj (nodup_ix hN e1 (e ▸ hi))
     simp [this, e]
    ·exact .inr ⟨k, c, e, z.sameBut hs (cne y c e)⟩
  ·obtain ⟨w', z⟩ := I.cell y c e
   exact ⟨w', z.sameBut hs (cne y c e)⟩
  ·obtain ⟨e, n, ne, nf, d⟩ := I.pin p hp
   exact ⟨(hs.2 p.1 ne).trans e, n, ne, nf, d⟩
 ·have hfn : X.fn x = true := by
   rcases hf with z | z
   ·exact z
   ·rw [z] at hk; cases hk
  obtain ⟨c, hc⟩ := I.ok.has x (.inl hk)
  obtain ⟨w', z⟩ := I.cell x c hc
  refine wpAny_storeName_cell I.ok.kind hk hc z (fun h' hc' hs => ?_)
  obtain ⟨oc, hoc, hocd⟩ := id z
  refine h { s with heap := h' } ⟨I.ok, I.os, I.bare, ⟨fun b o e n hb hx => ?_, fun b o e n hb hx => ?_, I.base.free, fun b o e hx => ?_, I.base.tups, I.base.frzs, I.base.tbls⟩, ⟨m, hn.sameBut hs (Ne.symm (cne x c hc)), fun j y v' e1 e2 e3 => ?_⟩, fun y c' e => ?_, I.free, I.freeC, fun p hp => ?_, tracked ⟨oc, hoc, I.freeC x c hc⟩ hs, by simpa using I.len⟩ ⟨c, hs, .inr hc⟩
  ·exact (hs.2 b (Nat.ne_of_lt (Nat.lt_of_lt_of_le (Heap.lt_size e) (I.ok.cab x c hfn hc)))).trans (I.base.keep b o e n hb hx)
  ·obtain ⟨sl, e1⟩ := I.base.slot b o e n hb hx
   exact ⟨sl, (hs.2 b (Nat.ne_of_lt (Nat.lt_of_lt_of_le (Heap.lt_size e) (I.ok.cab x c hfn hc)))).trans e1⟩
  ·obtain ⟨o', e1⟩ := I.base.there b o e hx
   exact ⟨o', (hs.2 b (Nat.ne_of_lt (Nat.lt_of_lt_of_le (Heap.lt_size e) (I.ok.cab x c hfn hc)))).trans e1⟩
  ·by_cases hj : j = i
   ·subst hj
    rw [hi] at e1; cases e1
    rw [List.getElem?_set_self hiσ] at e2
    cases e2
    exact ⟨u, r, .inr ⟨.inl hk, c, hc, hc'⟩⟩
   ·rw [List.getElem?_set_ne (Ne.symm hj)] at e2
    obtain ⟨u', r', q⟩ := hl j y v' e1 e2 e3
    refine ⟨u', r', ?_⟩
    rcases q with q | ⟨k, c', e, z'⟩
    ·exact .inl q
    ·refine .inr ⟨k, c', e, z'.sameBut hs ?_⟩
     rintro rfl
     exact hj (nodup_ix hN e1 (I.ok.inj _ _ _ e hc ▸ hi))
  ·by_cases hcc : c' = c
   ·subst hcc; exact ⟨_, hc'⟩
   ·obtain ⟨w2, z2⟩ := I.cell y c' e
    exact ⟨w2, z2.sameBut hs hcc⟩
  ·obtain ⟨e, n, ne, nf, d⟩ := I.pin p hp
   refine ⟨(hs.2 p.1 ?_).trans e, n, ne, nf, d⟩
   intro q
   rw [q, hoc] at e
   have q' : oc = p.2 := Option.some.inj e
   exact d w' (by rw [← q']; exact hocd)
theorem store_ok {M : Model} {A : Around} {E : Value → Shared → Prop} {i : Nat} {x : Str} {v : V} {u : Value} {Q : Unit → Shared → Prop} (I : Inv X pins σ H s) (hN : X.N.Nodup) (hi : X.N[i]? = some x) (hx : Loc X.env.scope x) (r : RelV v u)
  (h : ∀ s', Inv X pins (σ.set i (some v)) H s' → Q () s') (hf : X.fn x = true ∨ X.env.scope.names.lookup x = some .local := by first | exact .inl rfl | exact .inr rfl | assumption) : wpAny M A (storeName X.env x u) Q E s :=
 store_ok2 I hN hi hx r (fun s' I' _ => h s' I') hf
theorem Inv.call' {s' : Shared} {ch : List Addr} (I : Inv X pins σ H s) (ho : s'.os = s.os) (u : Un (frs X.stack) ch H H' s.heap s'.heap) (hok : HOk X.prog X.w H' s'.heap) (hg : AllBare s'.gens)
  (hch : ∀ b ∈ ch, (b ∈ X.ex ∨ X.s₀.heap.objs.size ≤ b) ∧ b ≠ X.env.locals ∧ (∀ x c, X.env.cells.lookup x = some c → c ≠ b) ∧ ∀ p ∈ X.pn ++ pins, p.1 ≠ b) : Inv X pins σ H' s' := by
 obtain ⟨h', g', d', t', o'⟩ := s'
 have e : o' = s.os := ho
 subst e
 exact I.call (g' := g') (t' := t') (d' := d') u hok hg hch
end
abbrev XK := Value → Option Addr → Hp → Prop
abbrev St := List (Option V)
abbrev VK := V → Hp → Prop
abbrev TE := St → Hp → VK → Prop
abbrev TT := St → Hp → (Bool → Hp → Prop) → Prop
abbrev TA := St → Hp → (List V → Hp → Prop) → Prop
structure Ends where
 nx : St → Hp → Prop
 rt : VK
 bk : St → Hp → Prop := fun _ _ => False
 ct : St → Hp → Prop := fun _ _ => False
abbrev TS := Ends → St → Hp → Prop
def EP (X : Cx) (pins : List (Addr × Obj)) (σ : St) (Q : VK) (u : Value) (s' : Shared) : Prop := ∃ v H', Inv X pins σ H' s' ∧ RelV v u ∧ Q v H'
def TP (X : Cx) (pins : List (Addr × Obj)) (σ : St) (Q : Bool → Hp → Prop) (b : Bool) (s' : Shared) : Prop := ∃ H', Inv X pins σ H' s' ∧ Q b H'
def AP (X : Cx) (pins : List (Addr × Obj)) (σ : St) (Q : List V → Hp → Prop) (us : List Value) (s' : Shared) : Prop := ∃ vs H', Inv X pins σ H' s' ∧ Vals vs us ∧ Q vs H'
def SP (X : Cx) (pins : List (Addr × Obj)) (D : Ends) (f : Flow) (s' : Shared) : Prop :=
 match f with
 | .next => ∃ σ' H', Inv X pins σ' H' s' ∧ D.nx σ' H'
 | .brk => ∃ σ' H', Inv X pins σ' H' s' ∧ D.bk σ' H'
 | .cont => ∃ σ' H', Inv X pins σ' H' s' ∧ D.ct σ' H'
 | .ret u => ∃ v σ' H', Inv X pins σ' H' s' ∧ RelV v u ∧ D.rt v H'
def PE (X : Cx) (e : Expr) (t : TE) : Prop :=
 ∀ (pins : List (Addr × Obj)) (s : Shared) (σ : St) (H : Hp) (Q : VK), Inv X pins σ H s → t σ H Q → wpAny (model X.prog X.w) X.A (eval e X.env) (EP X pins σ Q) X.xe s
def PT (X : Cx) (e : Expr) (t : TT) : Prop :=
 ∀ (pins : List (Addr × Obj)) (s : Shared) (σ : St) (H : Hp) (Q : Bool → Hp → Prop), Inv X pins σ H s → t σ H Q → wpAny (model X.prog X.w) X.A (isTrue e X.env (eval e X.env)) (TP X pins σ Q) X.xe s
def PW (X : Cx) (e : Expr) (t : TT) : Prop :=
 ∀ (whole : Sem Value) (pins : List (Addr × Obj)) (s : Shared) (σ : St) (H : Hp) (Q : Bool → Hp → Prop), Inv X pins σ H s → t σ H Q → wpAny (model X.prog X.w) X.A (isTrue e X.env whole) (TP X pins σ Q) X.xe s
theorem PW.pt {X : Cx} {e : Expr} {t : TT} (h : PW X e t) : PT X e t := h _
def PA (X : Cx) (es : List Expr) (t : TA) : Prop :=
 ∀ (pos : Pos) (pins : List (Addr × Obj)) (s : Shared) (σ : St) (H : Hp) (Q : List V → Hp → Prop), Inv X pins σ H s → t σ H Q → wpAny (model X.prog X.w) X.A (spliced (backTo pos (starEach es X.env))) (AP X pins σ Q) X.xe s
def PS (X : Cx) (st : Stmt) (t : TS) : Prop :=
 ∀ (pins : List (Addr × Obj)) (s : Shared) (σ : St) (H : Hp) (D : Ends), Inv X pins σ H s → t D σ H → wpAny (model X.prog X.w) X.A (exec st X.env) (SP X pins D) X.xe s
def PSs (X : Cx) (st : List Stmt) (t : TS) : Prop :=
 ∀ (pins : List (Addr × Obj)) (s : Shared) (σ : St) (H : Hp) (D : Ends), Inv X pins σ H s → t D σ H → wpAny (model X.prog X.w) X.A (execs st X.env) (SP X pins D) X.xe s
theorem thn {α : Type} {t : Sem α} {Q Q' : α → Shared → Prop} {M : Model} {A : Around} {E : Value → Shared → Prop} {s : Shared} (h : wpAny M A t Q E s) (hQ : ∀ a s, Q a s → Q' a s) : wpAny M A t Q' E s := wpAny_mono h hQ fun _ _ x => x
end L2
namespace L2
open PySem PySem.Spec PyProof.Rows
section
variable {X : Cx}
def tVar (i : Nat) : TE := fun σ H Q => ∃ v, σ[i]? = some (some v) ∧ Q v H
def tC (v : V) : TE := fun _ H Q => Q v H
theorem pe_var {i : Nat} {x : Str} {pos : Pos} (hN : X.N[i]? = some x) (hv : Vis X.env.scope x) (hd : (x == ("__debug__" : Str)) = false := by decide) (hcd : (x == ("__classdict__" : Str)) = false := by decide) : PE X (.Name x pos) (tVar i) := by
 intro pins s σ H Q I h
 obtain ⟨v, e, h⟩ := h
 obtain ⟨m, hn, hl⟩ := I.loc
 obtain ⟨u, r, l⟩ := hl i x v hN e hv
 have fin : EP X pins σ Q u s := ⟨v, H, I, r, h⟩
 rcases l with ⟨hk, hm⟩ | ⟨hk, c, hc, hcell⟩
 ·exact wpAny_Name (wpAny_loadName_local I.ok.kind hk hn hm fin) hd
 ·rcases hk with hk | hk
  ·exact wpAny_Name (wpAny_loadName_cell I.ok.kind hk hc hcell fin) hd
  ·exact wpAny_Name (wpAny_loadName_free I.ok.kind hk hc hcell fin hcd) hd
theorem pe_int {i j pos} : PE X (.Constant (.int i) j pos) (tC (.int i)) := fun _ _ _ H _ I h => wpAny_Constant_int ⟨.int i, H, I.tok _, ⟨_, rfl⟩, h⟩
theorem pe_bl {b j pos} : PE X (.Constant (.bool b) j pos) (tC (.bl b)) := fun _ _ _ H _ I h => Constant_bool ⟨.bl b, H, I, rfl, h⟩
theorem pe_non {j pos} : PE X (.Constant .none j pos) (tC .non) := fun _ _ _ H _ I h => Constant_none ⟨.non, H, I, rfl, h⟩
theorem pe_str {x j pos} : PE X (.Constant (.str x) j pos) (tC (.str x)) := fun _ _ _ H _ I h => Calls.Constant_str ⟨.str x, H, I.tok _, ⟨_, rfl⟩, h⟩
def Gl (X : Cx) (x : Str) : Prop := X.env.kindOf x = some .globalImplicit
theorem ld_glob {E : Value → Shared → Prop} {pins : List (Addr × Obj)} {s : Shared} {σ : St} {H : Hp} {x : Str} {u : Value} {pos : Pos} {Q : Value → Shared → Prop} (I : Inv X pins σ H s) (hg : Gl X x) (hm : X.mg x = some u) (h : Q u s)
  (hd : (x == ("__debug__" : Str)) = false := by decide) : wpAny (model X.prog X.w) X.A (eval (.Name x pos) X.env) Q E s :=
 Calls.Name_function_global I.ok.kind hg (Calls.loadGlobal_global (by rw [I.ok.glob]; exact I.mod.glob.keeps I.bk) hm h) hd
theorem ld_blt {E : Value → Shared → Prop} {pins : List (Addr × Obj)} {s : Shared} {σ : St} {H : Hp} {x : Str} {u : Value} {pos : Pos} {Q : Value → Shared → Prop} (I : Inv X pins σ H s) (hg : Gl X x) (hm : X.mg x = none) (hv : bootBuiltins x = some u) (h : Q u s)
  (hn : x ≠ "__name__" := by decide) (hd : (x == ("__debug__" : Str)) = false := by decide) : wpAny (model X.prog X.w) X.A (eval (.Name x pos) X.env) Q E s := by
 obtain ⟨mb, h1, h2⟩ := I.mod.blt
 exact Calls.Name_function_global I.ok.kind hg (Calls.loadGlobal_builtin (by rw [I.ok.glob]; exact I.mod.glob.keeps I.bk) hm (by rw [I.ok.blt]; exact h1.keeps I.bk) ((h2 x hn).trans hv) h) hd
theorem pe_glob {x : Str} {v : V} {u : Value} {pos : Pos} (hg : Gl X x) (hm : X.mg x = some u) (r : RelV v u) (hd : (x == ("__debug__" : Str)) = false := by decide) : PE X (.Name x pos) (tC v) :=
 fun _ _ _ H _ I h => ld_glob I hg hm ⟨v, H, I, r, h⟩ hd
theorem pe_bltn {x : Str} {v : V} {u : Value} {pos : Pos} (hg : Gl X x) (hm : X.mg x = none) (hv : bootBuiltins x = some u) (r : RelV v u) (hn : x ≠ "__name__" := by decide) (hd : (x == ("__debug__" : Str)) = false := by decide) : PE X (.Name x pos) (tC v) :=
 fun _ _ _ H _ I h => ld_blt I hg hm hv ⟨v, H, I, r, h⟩ hn hd
variable {a b : Expr} {ta tb : TE} {pos : Pos}
def tB (t : TE) : TT := fun σ H Q => t σ H fun x H1 => ∃ c, x = .bl c ∧ Q c H1
theorem pt_val {e : Expr} {t : TE} (h : PE X e t) (he : ∀ whole, isTrue e X.env whole = (do let v ← whole; standAt e.pos; holding [v] (truthy v)) := by intro _; rfl) : PT X e (tB t) := by
 intro pins s σ H Q I hw
 refine isTrue_plain (thn (h pins s σ H _ I hw) fun v s1 ⟨x, H1, I1, r1, q1⟩ => ?_) (he _)
 obtain ⟨d, rfl, q⟩ := q1
 cases r1
 exact wpAny_truthy_bool ⟨H1, I1, q⟩
variable {tA tB' : TT} {rest : List Expr}
def tAnd (t u : TT) : TT := fun σ H Q => t σ H fun c H1 => if c = true then u σ H1 Q else Q false H1
def tOr (t u : TT) : TT := fun σ H Q => t σ H fun c H1 => if c = true then Q true H1 else u σ H1 Q
def tNot (t : TT) : TT := fun σ H Q => t σ H fun c H1 => Q (!c) H1
theorem pw_and1 (ha : PT X a tA) : PW X (.BoolOp .And [a] pos) tA := by
 intro wh pins s σ H Q I h
 refine isTrue_and (thn (ha pins s σ H Q I h) fun c s1 e => ?_)
 cases c with
 | true => exact isTrue_and_nil e
 | false => exact e
theorem pw_or1 (ha : PT X a tA) : PW X (.BoolOp .Or [a] pos) tA := by
 intro wh pins s σ H Q I h
 refine isTrue_or (thn (ha pins s σ H Q I h) fun c s1 e => ?_)
 cases c with
 | false => exact isTrue_or_nil e
 | true => exact e
theorem pw_and (ha : PT X a tA) (hb : PW X (.BoolOp .And (b :: rest) pos) tB') : PW X (.BoolOp .And (a :: b :: rest) pos) (tAnd tA tB') := by
 intro wh pins s σ H Q I h
 refine isTrue_and (thn (ha pins s σ H _ I h) fun c s1 ⟨H1, I1, q1⟩ => ?_)
 cases c with
 | true => exact hb wh pins s1 σ H1 Q I1 q1
 | false => exact ⟨H1, I1, q1⟩
theorem pw_or (ha : PT X a tA) (hb : PW X (.BoolOp .Or (b :: rest) pos) tB') : PW X (.BoolOp .Or (a :: b :: rest) pos) (tOr tA tB') := by
 intro wh pins s σ H Q I h
 refine isTrue_or (thn (ha pins s σ H _ I h) fun c s1 ⟨H1, I1, q1⟩ => ?_)
 cases c with
 | true => exact ⟨H1, I1, q1⟩
 | false => exact hb wh pins s1 σ H1 Q I1 q1
theorem pt_not (ha : PT X a tA) : PT X (.UnaryOp .Not a pos) (tNot tA) := by
 intro pins s σ H Q I h
 exact isTrue_not (ha pins s σ H (fun c H1 => Q (!c) H1) I h)
def tAndV (ta tb : TE) : TE := fun σ H Q => ta σ H fun x H1 => ∃ c, x = .bl c ∧ if c = true then tb σ H1 Q else Q (.bl false) H1
def tOrV (ta tb : TE) : TE := fun σ H Q => ta σ H fun x H1 => ∃ c, x = .bl c ∧ if c = true then Q (.bl true) H1 else tb σ H1 Q
def tNotV (ta : TE) : TE := fun σ H Q => ta σ H fun x H1 => ∃ c, x = .bl c ∧ Q (.bl (!c)) H1
theorem pe_one {op} {t : TE} (h : PE X a t) : PE X (.BoolOp op [a] pos) t := fun pins s σ H Q I hw => BoolOp_one (h pins s σ H Q I hw)
theorem pe_and (ha : PE X a ta) (hb : PE X (.BoolOp .And (b :: rest) pos) tb) : PE X (.BoolOp .And (a :: b :: rest) pos) (tAndV ta tb) := by
 intro pins s σ H Q I h
 refine BoolOp_and (thn (ha pins s σ H _ I h) fun v s1 ⟨x, H1, I1, r1, q1⟩ => ?_)
 obtain ⟨c, rfl, q1⟩ := q1
 cases r1
 refine wpAny_truthy_bool ?_
 cases c with
 | true => exact hb pins s1 σ H1 Q I1 q1
 | false => exact ⟨.bl false, H1, I1, rfl, q1⟩
theorem pe_or (ha : PE X a ta) (hb : PE X (.BoolOp .Or (b :: rest) pos) tb) : PE X (.BoolOp .Or (a :: b :: rest) pos) (tOrV ta tb) := by
 intro pins s σ H Q I h
 refine BoolOp_or (thn (ha pins s σ H _ I h) fun v s1 ⟨x, H1, I1, r1, q1⟩ => ?_)
 obtain ⟨c, rfl, q1⟩ := q1
 cases r1
 refine wpAny_truthy_bool ?_
 cases c with
 | false => exact hb pins s1 σ H1 Q I1 q1
 | true => exact ⟨.bl true, H1, I1, rfl, q1⟩
theorem pe_not (ha : PE X a ta) : PE X (.UnaryOp .Not a pos) (tNotV ta) := by
 intro pins s σ H Q I h
 refine UnaryOp_ (thn (ha pins s σ H _ I h) fun v s1 ⟨x, H1, I1, r1, q1⟩ => ?_)
 obtain ⟨c, rfl, q1⟩ := q1
 cases r1
 exact not_of (wpAny_truthy_bool ⟨.bl (!c), H1, I1, rfl, q1⟩)
def tIf (t : TT) (ta tb : TE) : TE := fun σ H Q => t σ H fun c H1 => if c = true then ta σ H1 Q else tb σ H1 Q
theorem pe_ifExp {c : Expr} (hc : PT X c tA) (ha : PE X a ta) (hb : PE X b tb) : PE X (.IfExp c a b pos) (tIf tA ta tb) := by
 intro pins s σ H Q I h
 refine wpAny_IfExp (thn (hc pins s σ H _ I h) fun d s1 ⟨H1, I1, q1⟩ => ?_)
 cases d with
 | true => exact ha pins s1 σ H1 Q I1 q1
 | false => exact hb pins s1 σ H1 Q I1 q1
end
end L2
namespace L2
open PySem PySem.Spec PyProof.Rows
def SqL (K : PySem.W.Frag) (H : Hp) (a : Addr) (xs : List V) : Prop :=
 Rd H a (.lst xs) ∨
  ∃ (o : Obj) (its : Array Value) (n : Nat), K.lookup a = some o ∧ o.cls = .type "list" ∧ o.dict = none ∧ o.data = .seq its n ∧ its.size ≤ sizeLine ∧ Vals xs its.toList
def SqT (K : PySem.W.Frag) (H : Hp) (a : Addr) (xs : List V) : Prop :=
 Rd H a (.tup xs) ∨
  ∃ (o : Obj) (its : Array Value) (n : Nat), K.lookup a = some o ∧ o.cls = .type "tuple" ∧ o.data = .seq its n ∧ its.size ≤ sizeLine ∧ Vals xs its.toList
def absV : Value → Option V
 | .none => some .non
 | .bool b => some (.bl b)
 | .int i _ => some (.int i)
 | .str x _ => some (.str x)
 | .bytes b _ => some (.byt b)
 | .float b _ => some (.flt b)
 | .ref a => some (.ref a)
 | .type n => some (.ty n)
 | _ => none
theorem RelV.abs {x : V} {u : Value} (r : RelV x u) : absV u = some x := by
 cases x with
 | non => cases r; rfl
 | bl _ => cases r; rfl
 | int _ => obtain ⟨t, rfl⟩ := r; rfl
 | str _ => obtain ⟨t, rfl⟩ := r; rfl
 | byt _ => obtain ⟨t, rfl⟩ := r; rfl
 | flt _ => obtain ⟨t, rfl⟩ := r; rfl
 | ref _ => cases r; rfl
 | ty _ => cases r; rfl
theorem RelV.inj {x y : V} {u : Value} (r : RelV x u) (q : RelV y u) : x = y := Option.some.inj (r.abs.symm.trans q.abs)
theorem Vals.inj : ∀ {xs ys : List V} {us : List Value}, Vals xs us → Vals ys us → xs = ys
 | _, _, _, .nil, .nil => rfl
 | _, _, _, .cons r t, .cons r' t' => by rw [r.inj r', Vals.inj t t']
section
variable {X : Cx} {pins : List (Addr × Obj)} {σ : St} {H : Hp} {s : Shared} {a : Addr} {xs ys : List V}
theorem SqL.of {K : PySem.W.Frag} (h : H a = some (.lst xs)) : SqL K H a xs := .inl (.inl h)
theorem SqT.of {K : PySem.W.Frag} (h : H a = some (.tup xs)) : SqT K H a xs := .inl (.inl h)
theorem Inv.list (I : Inv X pins σ H s) (h : SqL X.K H a xs) : ∃ its : List Value, Vals xs its ∧ PlainL s.heap a its.toArray ∧ xs.length ≤ sizeLine := by
 rcases h with h | ⟨o, its, n, hk, hc, hd, hs, hz, r⟩
 ·obtain ⟨z, its, n, r, e⟩ := h.ok I.hok
  exact ⟨its, r, ⟨_, n, e, rfl, rfl, rfl⟩, z⟩
 ·refine ⟨its.toList, r, ⟨o, n, I.kIn a o hk, hc, hd, by simpa using hs⟩, ?_⟩
  have e := r.length
  simp only [Array.length_toList] at e
  omega
theorem Inv.tuple (I : Inv X pins σ H s) (h : SqT X.K H a xs) : ∃ its : List Value, Vals xs its ∧ IsTup s.heap a its.toArray ∧ xs.length ≤ sizeLine := by
 rcases h with h | ⟨o, its, n, hk, hc, hs, hz, r⟩
 ·obtain ⟨z, its, r, p⟩ := h.ok I.hok
  exact ⟨its, r, p, z⟩
 ·refine ⟨its.toList, r, ⟨o, I.kIn a o hk, hc, n, by simpa using hs⟩, ?_⟩
  have e := r.length
  simp only [Array.length_toList] at e
  omega
theorem Inv.list_inj (I : Inv X pins σ H s) (h : SqL X.K H a xs) (h' : SqL X.K H a ys) : xs = ys := by
 obtain ⟨its, r, ⟨o, n, e, _, _, d⟩, _⟩ := I.list h
 obtain ⟨its', r', ⟨o', n', e', _, _, d'⟩, _⟩ := I.list h'
 rw [e] at e'; cases e'
 rw [d] at d'
 injection d' with d1 _
 have : its = its' := by simpa using congrArg Array.toList d1
 subst this
 exact r.inj r'
theorem Inv.tuple_inj (I : Inv X pins σ H s) (h : SqT X.K H a xs) (h' : SqT X.K H a ys) : xs = ys := by
 obtain ⟨its, r, ⟨o, e, _, n, d⟩, _⟩ := I.tuple h
 obtain ⟨its', r', ⟨o', e', _, n', d'⟩, _⟩ := I.tuple h'
 rw [e] at e'; cases e'
 rw [d] at d'
 injection d' with d1 _
 have : its = its' := by simpa using congrArg Array.toList d1
 subst this
 exact r.inj r'
end
abbrev Cx.wish (X : Cx) (E : Value → Shared → Prop) : Cx := { X with xe := E }
abbrev Cx.nox (X : Cx) : Cx := X.wish fun _ _ => False
theorem Cx.Ok.wish {X : Cx} (ok : X.Ok) (E : Value → Shared → Prop) : (X.wish E).Ok :=
 ⟨ok.mod, ok.kind, ok.glob, ok.blt, ok.above, ok.inj, ok.has, ok.cab, ok.hd, ok.frames, ok.stk, ok.exf, ok.bs, ok.bsz, ok.noex, ok.exfs, ok.funs, ok.frf⟩
theorem Cx.Ok.unwish {X : Cx} {E : Value → Shared → Prop} (ok : (X.wish E).Ok) : X.Ok :=
 ⟨ok.mod, ok.kind, ok.glob, ok.blt, ok.above, ok.inj, ok.has, ok.cab, ok.hd, ok.frames, ok.stk, ok.exf, ok.bs, ok.bsz, ok.noex, ok.exfs, ok.funs, ok.frf⟩
section
variable {X : Cx} {pins : List (Addr × Obj)} {σ : St} {H : Hp} {s : Shared} {E : Value → Shared → Prop}
theorem Inv.wish (I : Inv X pins σ H s) (E : Value → Shared → Prop) : Inv (X.wish E) pins σ H s := ⟨I.ok.wish E, I.os, I.bare, I.base, I.loc, I.cell, I.free, I.freeC, I.pin, I.hok, I.len⟩
theorem Inv.unwish (I : Inv (X.wish E) pins σ H s) : Inv X pins σ H s := ⟨I.ok.unwish, I.os, I.bare, I.base, I.loc, I.cell, I.free, I.freeC, I.pin, I.hok, I.len⟩
theorem SP.unwish {D : Ends} {f : Flow} {s' : Shared} (h : SP (X.wish E) pins D f s') : SP X pins D f s' := by
 cases f with
 | next => obtain ⟨σ', H', I, q⟩ := h; exact ⟨σ', H', I.unwish, q⟩
 | brk => obtain ⟨σ', H', I, q⟩ := h; exact ⟨σ', H', I.unwish, q⟩
 | cont => obtain ⟨σ', H', I, q⟩ := h; exact ⟨σ', H', I.unwish, q⟩
 | ret u => obtain ⟨v, σ', H', I, r, q⟩ := h; exact ⟨v, σ', H', I.unwish, r, q⟩
theorem PSs.nox {st : List Stmt} {t : TS} (h : PSs X.nox st t) : PSs X st t := fun pins s σ H D I hw =>
 wpAny_mono (h pins s σ H D (I.wish _) hw) (fun _ _ q => q.unwish) fun _ _ z => False.elim z
end
section
variable {X : Cx} {st : Stmt} {rest : List Stmt} {t u : TS} {e : Expr} {te : TE} {pos : Pos}
def tNext : TS := fun D σ H => D.nx σ H
def tSeq (t u : TS) : TS := fun D σ H => t { D with nx := u D } σ H
theorem pss_nil : PSs X [] tNext := fun _ _ σ H _ I h => wpAny_execs_nil ⟨σ, H, I, h⟩
theorem pss_cons (h1 : PS X st t) (h2 : PSs X rest u) : PSs X (st :: rest) (tSeq t u) := by
 intro pins s σ H D I h
 refine wpAny_execs_cons (thn (h1 pins s σ H { D with nx := u D } I h) fun f s1 q => ?_)
 cases f with
 | next =>
  obtain ⟨σ', H', I', q⟩ := q
  exact h2 pins s1 σ' H' D I' q
 | ret v => exact q
 | brk => exact q
 | cont => exact q
theorem pss_one (h1 : PS X st t) : PSs X [st] t := by
 intro pins s σ H D I h
 refine wpAny_execs_cons (thn (h1 pins s σ H D I h) fun f s1 q => ?_)
 cases f with
 | next => exact wpAny_execs_nil q
 | ret v => exact q
 | brk => exact q
 | cont => exact q
theorem Inv.quiet {pins : List (Addr × Obj)} {σ : St} {H : Hp} {s : Shared} (I : Inv X pins σ H s) : interactive X.env = false := by simp [interactive, I.ok.kind]
def tDrop (te : TE) : TS := fun D σ H => te σ H fun _ H1 => D.nx σ H1
theorem ps_expr (he : PE X e te) (hs : swapsWith e none pos.line X.env = pure false := by rfl) : PS X (.Expr e pos) (tDrop te) := by
 intro pins s σ H D I h
 exact wpAny_Expr_any (thn (he pins s σ H _ I h) fun v s1 ⟨x, H1, I1, r1, q1⟩ => ⟨σ, H1, I1, q1⟩) I.quiet hs
def tRet (te : TE) : TS := fun D σ H => te σ H D.rt
theorem ps_ret (he : PE X e te) : PS X (.Return (some e) pos) (tRet te) := by
 intro pins s σ H D I h
 exact wpAny_Return_some (thn (he pins s σ H _ I h) fun v s1 ⟨x, H1, I1, r1, q1⟩ => ⟨x, σ, H1, I1, r1, q1⟩)
def tRetN : TS := fun D _ H => D.rt .non H
theorem ps_retN : PS X (.Return none pos) tRetN := fun _ _ σ H _ I h => wpAny_Return_none ⟨.non, σ, H, I, rfl, h⟩
def tIfS (c : TT) (t u : TS) : TS := fun D σ H => c σ H fun b H1 => if b = true then t D σ H1 else u D σ H1
theorem ps_if {c : Expr} {a b : List Stmt} {tc : TT} (hc : PT X c tc) (ha : PSs X a t) (hb : PSs X b u) : PS X (.If c a b pos) (tIfS tc t u) := by
 intro pins s σ H D I h
 refine wpAny_If (thn (hc pins s σ H _ I h) fun d s1 ⟨H1, I1, q1⟩ => ?_)
 cases d with
 | true => exact ha pins s1 σ H1 D I1 q1
 | false => exact hb pins s1 σ H1 D I1 q1
end
abbrev TG := V → St → Hp → (St → Hp → Prop) → Prop
abbrev TGs := List V → St → Hp → (St → Hp → Prop) → Prop
def PG (X : Cx) (target : Expr) (t : TG) : Prop :=
 ∀ (pins : List (Addr × Obj)) (s : Shared) (σ : St) (H : Hp) (v : V) (u : Value) (Q : St → Hp → Prop), Inv X pins σ H s → RelV v u → t v σ H Q →
  wpAny (model X.prog X.w) X.A (assign target X.env u) (fun _ s' => ∃ σ' H', Inv X pins σ' H' s' ∧ Q σ' H') X.xe s
def PGs (X : Cx) (ts : List Expr) (t : TGs) : Prop :=
 ∀ (pins : List (Addr × Obj)) (s : Shared) (σ : St) (H : Hp) (vs : List V) (us : List Value) (Q : St → Hp → Prop), Inv X pins σ H s → Vals vs us → t vs σ H Q →
  wpAny (model X.prog X.w) X.A (assignInOrder ((assignEach ts X.env).map (·.2)) us) (fun _ s' => ∃ σ' H', Inv X pins σ' H' s' ∧ Q σ' H') X.xe s
abbrev TSet := V → V → V → Hp → (Hp → Prop) → Prop
def PSet (X : Cx) (t : TSet) : Prop :=
 ∀ (pins : List (Addr × Obj)) (s : Shared) (σ : St) (H : Hp) (o i v : V) (ov iv u : Value) (Q : Hp → Prop), Inv X pins σ H s → RelV o ov → RelV i iv → RelV v u → t o i v H Q →
  wpAny (model X.prog X.w) X.A (setItem ov iv u) (fun _ s' => ∃ H', Inv X pins σ H' s' ∧ Q H') X.xe s
section
variable {X : Cx} {pos : Pos}
def gName (i : Nat) : TG := fun v σ H Q => Q (σ.set i (some v)) H
theorem pg_name {i : Nat} {x : Str} (hN : X.N.Nodup) (hi : X.N[i]? = some x) (hx : Loc X.env.scope x) (hf : X.fn x = true ∨ X.env.scope.names.lookup x = some .local := by first | exact .inl rfl | exact .inr rfl | assumption) : PG X (.Name x pos) (gName i) := by
 intro pins s σ H v u Q I r h
 exact wpAny_assign_Name (store_ok I hN hi hx r (fun s' I' => ⟨_, H, I', h⟩) hf)
def gNil : TGs := fun vs σ H Q => vs = [] ∧ Q σ H
def gCons (t : TG) (u : TGs) : TGs := fun vs σ H Q => ∃ v r, vs = v :: r ∧ t v σ H fun σ' H' => u r σ' H' Q
theorem pgs_nil : PGs X [] gNil := by
 intro pins s σ H vs us Q I r h
 obtain ⟨e, h⟩ := h
 subst e
 cases r
 exact assignInOrder_nil ⟨σ, H, I, h⟩
theorem pgs_cons {e : Expr} {es : List Expr} {t : TG} {u : TGs} (h1 : PG X e t) (h2 : PGs X es u)
  (hs : (assignEach (e :: es) X.env).map (·.2) = assign e X.env :: (assignEach es X.env).map (·.2) := by rfl) : PGs X (e :: es) (gCons t u) := by
 intro pins s σ H vs us Q I r h
 obtain ⟨v, vr, e1, h⟩ := h
 subst e1
 cases r with
 | cons r rr =>
  rw [hs]
  refine assignInOrder_cons (thn (h1 pins s σ H _ _ _ I r h) fun _ s1 ⟨σ1, H1, I1, q1⟩ => ?_)
  exact h2 pins s1 σ1 H1 _ _ Q I1 rr q1
def gTup (K : PySem.W.Frag) (n : Nat) (t : TGs) : TG := fun v σ H Q => ∃ a xs, v = .ref a ∧ SqT K H a xs ∧ xs.length = n ∧ t xs σ H Q
theorem pg_tup {es : List Expr} {k : Nat} {t : TGs} {n : Nat} (hc : X.calm = true) (h : PGs X es t)
  (hn : (assignEach es X.env).length = n := by rfl) (hst : (assignEach es X.env).findIdx? (·.1) = none := by rfl) : PG X (.Tuple es k pos) (gTup X.K n t) := by
 intro pins s σ H v u Q I r hw
 obtain ⟨a, xs, e1, hq, hl, hw⟩ := hw
 subst e1
 cases r
 obtain ⟨its, rv, ht, hz⟩ := I.tuple hq
 refine assign_Tuple_tuple (I.ok.hd hc) ht (by simp [hn, ← hl, rv.length]) hst fun h' hx => ?_
 have I1 : Inv X pins σ H { s with heap := h' } := I.kept (t' := s.toks) fun b o e => hx b o (Nat.ne_of_lt (Heap.lt_size e)) e
 exact h pins _ σ H xs _ Q I1 (by simpa using rv) hw
def gSub (to ti : TE) (t : TSet) : TG := fun v σ H Q => to σ H fun o H1 => ti σ H1 fun i H2 => t o i v H2 fun H3 => Q σ H3
theorem pg_sub {o i : Expr} {to ti : TE} {t : TSet} (ho : PE X o to) (hi : PE X i ti) (hs : PSet X t)
  (ha : ∀ v, assign (.Subscript o i pos) X.env v = (do
   let ov ← holding [v] (eval o X.env)
   let iv ← holding [v, ov] (eval i X.env)
   standAt pos
   holding [v, ov, iv] (setItem ov iv v)
   release [v, ov, iv] []) := by intro _; rfl) : PG X (.Subscript o i pos) (gSub to ti t) := by
 intro pins s σ H v u Q I r h
 rw [ha]
 refine wpAny_bind (wpAny_holding (thn (ho pins s σ H _ I h) fun ov s1 ⟨x, H1, I1, r1, q1⟩ => ?_))
 refine wpAny_bind (wpAny_holding (thn (hi pins s1 σ H1 _ I1 q1) fun iv s2 ⟨y, H2, I2, r2, q2⟩ => ?_))
 refine wpAny_bind (wpAny_standAt (wpAny_bind (wpAny_holding (thn (hs pins s2 σ H2 x y v ov iv u _ I2 r1 r2 r q2) fun _ s3 ⟨H3, I3, q3⟩ => ?_))))
 exact wpAny_release ⟨σ, H3, I3, q3⟩
def tAsg (te : TE) (g : TG) : TS := fun D σ H => te σ H fun x H1 => g x σ H1 D.nx
theorem ps_asg {tg e : Expr} {te : TE} {g : TG} (he : PE X e te) (hg : PG X tg g) (hs : swapsWithSole [tg] e pos.line X.env = pure false := by rfl) (hw : swappedStores [tg] e X.env = pure none := by rfl)
  (h1 : (assignEach [tg] X.env).map (·.2) = [assign tg X.env] := by rfl) : PS X (.Assign [tg] e pos) (tAsg te g) := by
 intro pins s σ H D I h
 refine wpAny_Assign_stores (thn (he pins s σ H _ I h) fun v s1 ⟨x, H1, I1, r1, q1⟩ => ?_) hs hw
 rw [h1]
 exact thn (hg pins s1 σ H1 x v _ I1 r1 q1) fun _ s2 q => q
theorem ps_set {i : Nat} {x : Str} {e : Expr} {te : TE} {pos' : Pos} (hN : X.N.Nodup) (hi : X.N[i]? = some x) (hx : Loc X.env.scope x) (he : PE X e te) (hs : swapsWith e (some (.Name x pos')) pos.line X.env = pure false := by rfl) (hf : X.fn x = true ∨ X.env.scope.names.lookup x = some .local := by first | exact .inl rfl | exact .inr rfl | assumption) :
  PS X (.Assign [.Name x pos'] e pos) (tAsg te (gName i)) := by
 intro pins s σ H D I h
 refine wpAny_Assign_Name (thn (he pins s σ H _ I h) fun v s1 ⟨y, H1, I1, r1, q1⟩ => ?_) hs
 exact store_ok I1 hN hi hx r1 (fun s2 I2 => ⟨_, H1, I2, q1⟩) hf
end
section
variable {X : Cx} {pos : Pos}
def tWhile (c : TT) (tb : TS) : TS := fun D σ H => ∃ W : Nat → St → Hp → Prop, (∃ m, W m σ H) ∧ ∀ m σ H, W m σ H →
 c σ H fun b H1 => if b = true then ∃ N : St → Hp → Prop, (∀ σ' H', N σ' H' → ∃ m', m' < m ∧ W m' σ' H') ∧ tb { D with nx := N, ct := N, bk := D.nx } σ H1 else D.nx σ H1
theorem ps_while {c : Expr} {body : List Stmt} {tc : TT} {tb : TS} (hp : PassesOwn (model X.prog X.w) X.A X.env X.xe) (hc : PT X c tc) (hb : PSs X body tb) : PS X (.While c body [] pos) (tWhile tc tb) := by
 intro pins s σ H D I h
 obtain ⟨W, ⟨m0, w0⟩, turn⟩ := h
 refine wpAny_While (codeAny_whileLoop (fun n s' => ∃ σ' H', Inv X pins σ' H' s' ∧ W n σ' H') ?_ m0 ⟨σ, H, I, w0⟩)
 rintro n s1 ⟨σ1, H1, I1, w1⟩
 refine wpAny_passesOwn hp (thn (hc pins s1 σ1 H1 _ I1 (turn n σ1 H1 w1)) fun b s2 ⟨H2, I2, q2⟩ => ?_)
 cases b with
 | true =>
  obtain ⟨N, hN, q2⟩ := q2
  rw [if_pos rfl]
  refine wpAny_passesOwn hp (thn (hb pins s2 σ1 H2 _ I2 q2) fun f s3 q3 => ?_)
  cases f with
  | next =>
   obtain ⟨σ3, H3, I3, n3⟩ := q3
   obtain ⟨m', hm, w3⟩ := hN σ3 H3 n3
   exact ⟨m', hm, σ3, H3, I3, w3⟩
  | cont =>
   obtain ⟨σ3, H3, I3, n3⟩ := q3
   obtain ⟨m', hm, w3⟩ := hN σ3 H3 n3
   exact ⟨m', hm, σ3, H3, I3, w3⟩
  | brk => exact q3
  | ret v => exact q3
 | false =>
  rw [if_neg Bool.false_ne_true]
  exact wpAny_execs_nil ⟨σ1, H2, I2, q2⟩
end
structure It where
 go : Nat → Hp → Prop
 yld : Nat → Hp → V → Hp → Prop
 stop : Nat → Hp → Prop
def FpOk (X : Cx) (pins : List (Addr × Obj)) (H : Hp) (b : Addr) : Prop :=
 H b = none ∧ b ≠ X.env.locals ∧ b ∉ X.fs ∧ (b ∈ X.ex ∨ X.s₀.heap.objs.size ≤ b) ∧ (∀ x c, X.env.cells.lookup x = some c → c ≠ b) ∧ ∀ p ∈ X.pn ++ pins, p.1 ≠ b
theorem Inv.fpOk {X : Cx} {pins : List (Addr × Obj)} {σ : St} {H H' : Hp} {s : Shared} {b : Addr} (I : Inv X pins σ H s) (hb : s.heap.objs.size ≤ b) (hn : H' b = none) : FpOk X pins H' b := by
 refine ⟨hn, Nat.ne_of_gt (Nat.lt_of_lt_of_le I.lt hb), I.nofs hb, .inr (Nat.le_trans I.sz hb), fun x c e z => ?_, fun p hp z => ?_⟩
 ·obtain ⟨v, q⟩ := I.cell x c e
  exact absurd (Nat.lt_of_lt_of_le q.lt (by rw [z]; exact hb)) (Nat.lt_irrefl _)
 ·exact absurd (Nat.lt_of_lt_of_le (Heap.lt_size (I.pin p hp).1) (by rw [z]; exact hb)) (Nat.lt_irrefl _)
structure Turn (P : Program) (w : World) (K : PySem.W.Frag) (tg : Expr) (J : It) (fp : List Addr) (it : Addr) (tn : Nat → Heap → Prop) : Prop where
 mem : it ∈ fp
 obj : ∀ i h, tn i h → ∀ b ∈ fp, ∃ o, h.get? b = some o ∧ ∀ v, o.data ≠ .cell v
 keep : ∀ i h h', tn i h → (∀ b ∈ fp, ∀ o, h.get? b = some o → h'.get? b = some o) → tn i h'
 item : ∀ (X : Cx), X.prog = P → X.w = w → X.K = K → X.calm = true → ∀ (i : Nat) (pins : List (Addr × Obj)) (s : Shared) (σ : St) (H : Hp) (E : Value → Shared → Prop), Inv X pins σ H s → (∀ b ∈ fp, FpOk X pins H b) → tn i s.heap → J.go i H →
  wpAny (model P w) X.A (pyNext (.ref it)) (fun r s1 => ∃ u, r = some u ∧
   wpAny (model P w) X.A (letOwnedTupleGo tg (.ref it) u) (fun _ s2 => ∃ x H', Inv X pins σ H' s2 ∧ RelV x u ∧ J.yld i H x H' ∧ tn (i + 1) s2.heap ∧ ∀ b ∈ fp, H' b = none) E s1) E s
 done : ∀ (X : Cx), X.prog = P → X.w = w → X.K = K → X.calm = true → ∀ (i : Nat) (pins : List (Addr × Obj)) (s : Shared) (σ : St) (H : Hp) (E : Value → Shared → Prop), Inv X pins σ H s → (∀ b ∈ fp, FpOk X pins H b) → tn i s.heap → J.stop i H →
  wpAny (model P w) X.A (pyNext (.ref it)) (fun r s1 => r = none ∧ Inv X pins σ H s1) E s
 self : ∀ (A : Around) (i : Nat) (s : Shared) (Q : Value → Shared → Prop) (E : Value → Shared → Prop), tn i s.heap → Q (.ref it) s → wpAny (model P w) A (pyIter (.ref it)) Q E s
abbrev TI := St → Hp → (It → Hp → Prop) → Prop
def PIE (X : Cx) (pins : List (Addr × Obj)) (σ : St) (tg : Expr) (R : It → Hp → Prop) (itv : Value) (s2 : Shared) : Prop :=
 ∃ (it : Addr) (fp : List Addr) (tn : Nat → Heap → Prop) (J : It) (H' : Hp), itv = .ref it ∧ Inv X pins σ H' s2 ∧ Turn X.prog X.w X.K tg J fp it tn ∧ tn 0 s2.heap ∧ (∀ b ∈ fp, FpOk X pins H' b) ∧ R J H'
def PI (X : Cx) (tg iter : Expr) (wi : TI) : Prop :=
 ∀ (pins : List (Addr × Obj)) (s : Shared) (σ : St) (H : Hp) (R : It → Hp → Prop), Inv X pins σ H s → wi σ H R →
  wpAny (model X.prog X.w) X.A (eval iter X.env) (fun v s1 => wpAny (model X.prog X.w) X.A (pyIter v) (PIE X pins σ tg R) X.xe s1) X.xe s
theorem go_of {M : Model} {A : Around} {E : Value → Shared → Prop} {s : Shared} {tg : Expr} {it : Addr} {u : Value} {o : Obj} {n : String} {vs : Array Value} {Q : Unit → Shared → Prop} (ho : s.heap.get? it = some o) (hc : o.cls = .type n) (hd : o.data = .fields vs)
  (hn : ["enumerate", "zip", "dict_itemiterator", "dict_reverseitemiterator", "odict_iterator", "itertools.zip_longest", "itertools.pairwise"].contains n = false) (hQ : Q () s) : wpAny M A (letOwnedTupleGo tg (.ref it) u) Q E s := by
 unfold letOwnedTupleGo
 cases tg <;> first
  | exact wpAny_pure hQ
  | (cases u <;> first
    | exact wpAny_pure hQ
    | (refine wpAny_bind (wpAny_load ho ?_)
       rw [hc, hd]
       show wpAny M A (if (["enumerate", "zip", "dict_itemiterator", "dict_reverseitemiterator", "odict_iterator", "itertools.zip_longest", "itertools.pairwise"].contains n && vs[0]? == some (rawInt _)) = true then _ else _) Q E s
       rw [if_neg (by intro h; rw [hn, Bool.false_and] at h; cases h)]
       exact wpAny_pure hQ))
def Itl (K : PySem.W.Frag) (a : Addr) : It :=
 ⟨fun i H => ∃ xs x, SqL K H a xs ∧ xs[i]? = some x, fun i H x H' => H' = H ∧ ∀ xs, SqL K H a xs → xs[i]? = some x, fun i H => ∃ xs, SqL K H a xs ∧ xs.length ≤ i⟩
def Itt (K : PySem.W.Frag) (a : Addr) : It :=
 ⟨fun i H => ∃ xs x, SqT K H a xs ∧ xs[i]? = some x, fun i H x H' => H' = H ∧ ∀ xs, SqT K H a xs → xs[i]? = some x, fun i H => ∃ xs, SqT K H a xs ∧ xs.length ≤ i⟩
def Itr (lo : Int) (n : Nat) : It := ⟨fun i _ => i < n, fun i H x H' => H' = H ∧ x = .int (lo + i), fun i _ => n ≤ i⟩
theorem turn_list {P : Program} {w : World} {K : PySem.W.Frag} {tg : Expr} (a it : Addr) : Turn P w K tg (Itl K a) [it] it (fun i h => h.IsListIter it a i) where
 mem := by simp
 obj := fun i h st b hb => by
  have e : b = it := by simpa using hb
  subst e
  obtain ⟨o, e, c, d⟩ := st
  exact ⟨o, e, fun v z => by rw [d] at z; cases z⟩
 keep := fun i h h' st k => st.at fun o e => k it (by simp) o e
 item := by
  intro X hP hw hK hc i pins s σ H E I hf st hg
  subst hP hw hK
  obtain ⟨xs, x, hq, hx⟩ := hg
  obtain ⟨its, rv, p, hz⟩ := I.list hq
  obtain ⟨u, hu, ru⟩ := rv.get hx
  obtain ⟨f0, f1, f2, f3, f4, f5⟩ := hf it (by simp)
  refine wpAny_pyNext_list_item st p.isList (x := u) (by simpa using hu) fun h' st' sb => ?_
  have I1 : Inv X pins σ H { s with heap := h' } := I.turned (t' := s.toks) (fun b o hb e => (sb.2 b hb).trans e) f0 f1 f3 f4 f5
  obtain ⟨o, e, c, d⟩ := id st'
  exact ⟨u, rfl, go_of (s := { s with heap := h' }) e c d (by decide) ⟨x, H, I1, ru, ⟨rfl, fun ys hy => by rw [I.list_inj hy hq]; exact hx⟩, st', fun b hb => (hf b hb).1⟩⟩
 done := by
  intro X hP hw hK hc i pins s σ H E I hf st hg
  subst hP hw hK
  obtain ⟨xs, hq, hx⟩ := hg
  obtain ⟨its, rv, p, hz⟩ := I.list hq
  obtain ⟨f0, f1, f2, f3, f4, f5⟩ := hf it (by simp)
  have hl := rv.length
  exact wpAny_pyNext_list_end (I.ok.hd hc) st p.isList (by simp; omega) fun h' eb => ⟨rfl, I.turned (t' := s.toks) (fun b o hb e => eb b o hb e) f0 f1 f3 f4 f5⟩
 self := fun _ _ _ _ _ st h => wpAny_pyIter_listiter st h
theorem turn_tuple {P : Program} {w : World} {K : PySem.W.Frag} {tg : Expr} (a it : Addr) : Turn P w K tg (Itt K a) [it] it (fun i h => h.IsTupleIter it a i) where
 mem := by simp
 obj := fun i h st b hb => by
  have e : b = it := by simpa using hb
  subst e
  obtain ⟨o, e, c, d⟩ := st
  exact ⟨o, e, fun v z => by rw [d] at z; cases z⟩
 keep := fun i h h' st k => st.at fun o e => k it (by simp) o e
 item := by
  intro X hP hw hK hc i pins s σ H E I hf st hg
  subst hP hw hK
  obtain ⟨xs, x, hq, hx⟩ := hg
  obtain ⟨its, rv, p, hz⟩ := I.tuple hq
  obtain ⟨u, hu, ru⟩ := rv.get hx
  obtain ⟨f0, f1, f2, f3, f4, f5⟩ := hf it (by simp)
  refine wpAny_pyNext_tuple_item st (show s.heap.IsTuple a its.toArray from p) (x := u) (by simpa using hu) fun h' st' sb => ?_
  have I1 : Inv X pins σ H { s with heap := h' } := I.turned (t' := s.toks) (fun b o hb e => (sb.2 b hb).trans e) f0 f1 f3 f4 f5
  obtain ⟨o, e, c, d⟩ := id st'
  exact ⟨u, rfl, go_of (s := { s with heap := h' }) e c d (by decide) ⟨x, H, I1, ru, ⟨rfl, fun ys hy => by rw [I.tuple_inj hy hq]; exact hx⟩, st', fun b hb => (hf b hb).1⟩⟩
 done := by
  intro X hP hw hK hc i pins s σ H E I hf st hg
  subst hP hw hK
  obtain ⟨xs, hq, hx⟩ := hg
  obtain ⟨its, rv, p, hz⟩ := I.tuple hq
  obtain ⟨f0, f1, f2, f3, f4, f5⟩ := hf it (by simp)
  have hl := rv.length
  exact wpAny_pyNext_tuple_end (I.ok.hd hc) st (show s.heap.IsTuple a its.toArray from p) (by simp; omega) fun h' eb => ⟨rfl, I.turned (t' := s.toks) (fun b o hb e => eb b o hb e) f0 f1 f3 f4 f5⟩
 self := fun _ _ _ _ _ st h => wpAny_pyIter_tupleiter st h
theorem turn_range {P : Program} {w : World} {K : PySem.W.Frag} {tg : Expr} (it : Addr) (lo : Int) (n : Nat) : Turn P w K tg (Itr lo n) [it] it (fun i h => IsRangeIter h it (lo + (i : Nat) * 1) ((n : Int) - (i : Nat)) 1) where
 mem := by simp
 obj := fun i h st b hb => by
  have e : b = it := by simpa using hb
  subst e
  exact ⟨_, st, fun v z => by
   have z' : Data.fields _ = Data.cell v := z
   cases z'⟩
 keep := fun i h h' st k => k it (by simp) _ st
 item := by
  intro X hP hw hK hc i pins s σ H E I hf st hg
  subst hP hw hK
  obtain ⟨f0, f1, f2, f3, f4, f5⟩ := hf it (by simp)
  have W := Walks.range (prog := X.prog) (w := X.w) (I.ok.hd hc) it lo 1 n
  refine W.item i s _ _ hg st fun v h' tk hv st' kk => ?_
  obtain ⟨t, rfl⟩ := hv
  have I1 : Inv X pins σ H { s with heap := h', toks := tk } := I.turned (fun b o hb e => kk b o (by simpa using hb) e) f0 f1 f3 f4 f5
  refine ⟨_, rfl, go_of (s := { s with heap := h', toks := tk }) (n := "range_iterator") st' rfl rfl (by decide) ⟨.int (lo + i), H, I1, ⟨t, ?_⟩, ⟨rfl, rfl⟩, st', fun b hb => (hf b hb).1⟩⟩
  rw [Int.mul_one]
 done := by
  intro X hP hw hK hc i pins s σ H E I hf st hg
  subst hP hw hK
  obtain ⟨f0, f1, f2, f3, f4, f5⟩ := hf it (by simp)
  exact wpAny_pyNext_range_end (I.ok.hd hc) st (by have : n ≤ i := hg; omega) fun h' eb => ⟨rfl, I.turned (t' := s.toks) (fun b o hb e => eb b o hb e) f0 f1 f3 f4 f5⟩
 self := fun _ _ _ _ _ st h => wpAny_pyIter_rangeiter st h
end L2
namespace L2
open PySem PySem.Spec PyProof.Rows
section
variable {X : Cx} {tg : Expr}
def iList (K : PySem.W.Frag) (tl : TE) : TI := fun σ H R => tl σ H fun x H1 => ∃ a, x = .ref a ∧ (∃ xs, SqL K H1 a xs) ∧ R (Itl K a) H1
def iTup (K : PySem.W.Frag) (tl : TE) : TI := fun σ H R => tl σ H fun x H1 => ∃ a, x = .ref a ∧ (∃ xs, SqT K H1 a xs) ∧ R (Itt K a) H1
theorem pi_list {l : Expr} {tl : TE} (hl : PE X l tl) : PI X tg l (iList X.K tl) := by
 intro pins s σ H R I h
 refine thn (hl pins s σ H _ I h) fun v s1 ⟨x, H1, I1, r1, q1⟩ => ?_
 obtain ⟨a, e, ⟨xs, hq⟩, q⟩ := q1
 subst e
 cases r1
 obtain ⟨its, rv, p, hz⟩ := I1.list hq
 refine wpAny_pyIter_list p.isList ?_
 refine ⟨s1.heap.objs.size, [s1.heap.objs.size], _, _, H1, rfl, I1.kept (t' := s1.toks) fun b o e => Heap.get?_push_of_some _ e, turn_list a _, ⟨_, Heap.get?_push_size _ rfl, rfl, rfl⟩, fun b hb => ?_, q⟩
 have e : b = s1.heap.objs.size := by simpa using hb
 subst e
 exact I1.fpOk (Nat.le_refl _) (I1.hok.fresh (Nat.le_refl _))
theorem pi_tup {l : Expr} {tl : TE} (hl : PE X l tl) : PI X tg l (iTup X.K tl) := by
 intro pins s σ H R I h
 refine thn (hl pins s σ H _ I h) fun v s1 ⟨x, H1, I1, r1, q1⟩ => ?_
 obtain ⟨a, e, ⟨xs, hq⟩, q⟩ := q1
 subst e
 cases r1
 obtain ⟨its, rv, p, hz⟩ := I1.tuple hq
 refine wpAny_pyIter_tuple (show s1.heap.IsTuple a its.toArray from p) ?_
 refine ⟨s1.heap.objs.size, [s1.heap.objs.size], _, _, H1, rfl, I1.kept (t' := s1.toks) fun b o e => Heap.get?_push_of_some _ e, turn_tuple a _, ⟨_, Heap.get?_push_size _ rfl, rfl, rfl⟩, fun b hb => ?_, q⟩
 have e : b = s1.heap.objs.size := by simpa using hb
 subst e
 exact I1.fpOk (Nat.le_refl _) (I1.hok.fresh (Nat.le_refl _))
theorem range_it {pins : List (Addr × Obj)} {σ : St} {H : Hp} {s : Shared} {R : It → Hp → Prop} {E : Value → Shared → Prop} {lo hi : Int} {t u v : Tok} {tk : Nat} (I : Inv X pins σ H s) (h1 : -(2 ^ 62) ≤ lo) (h2 : lo < 2 ^ 62) (h3 : -(2 ^ 62) ≤ hi) (h4 : hi < 2 ^ 62)
  (q : R (Itr lo (hi - lo).toNat) H) : wpAny (model X.prog X.w) X.A (pyIter (.ref s.heap.objs.size)) (PIE X pins σ tg R) E { s with heap := s.heap.push { cls := .type "range", data := .fields #[.int lo t, .int hi u, .int 1 v] }, toks := tk } := by
 refine wpAny_pyIter_range (IsRange.new ..) (small_one h1 h2 h3 h4) ?_
 have I1 : Inv X pins σ H { s with heap := s.heap.push { cls := .type "range", data := .fields #[.int lo t, .int hi u, .int 1 v] }, toks := tk } := I.kept fun b o e => Heap.get?_push_of_some _ e
 refine ⟨(s.heap.push { cls := .type "range", data := .fields #[.int lo t, .int hi u, .int 1 v] }).objs.size, [(s.heap.push { cls := .type "range", data := .fields #[.int lo t, .int hi u, .int 1 v] }).objs.size], _, _, H, rfl,
  I1.kept (t' := tk) fun b o e => Heap.get?_push_of_some _ e, turn_range _ lo (hi - lo).toNat, ?_, fun b hb => ?_, q⟩
 ·have e1 : lo + ((0 : Nat) : Int) * 1 = lo := by simp
  have e2 : (((hi - lo).toNat : Nat) : Int) - ((0 : Nat) : Int) = Builtin.Range.rangeSize lo hi 1 := by rw [rangeSize_one]; split <;> omega
  show IsRangeIter _ _ (lo + ((0 : Nat) : Int) * 1) ((((hi - lo).toNat : Nat) : Int) - ((0 : Nat) : Int)) 1
  rw [e1, e2]
  exact Heap.get?_push_size _ rfl
 ·have e : b = (s.heap.push { cls := .type "range", data := .fields #[.int lo t, .int hi u, .int 1 v] }).objs.size := by simpa using hb
  subst e
  exact I1.fpOk (Nat.le_refl _) (I1.hok.fresh (Nat.le_refl _))
def iRng1 (ta : TA) : TI := fun σ H R => ta σ H fun vs H1 => ∃ j : Int, vs = [.int j] ∧ -(2 ^ 62) ≤ j ∧ j < 2 ^ 62 ∧ R (Itr 0 j.toNat) H1
theorem pi_range1 {a : Expr} {ta : TA} {p pos : Pos} (hg : Gl X "range") (hm : X.mg "range" = none) (ha : PA X [a] ta) (hs : starEach [a] X.env = [(false, eval a X.env)] := by rfl) : PI X tg (.Call (.Name "range" p) [a] [] pos) (iRng1 ta) := by
 intro pins s σ H R I h
 refine Call_ (ld_blt I hg hm boot_range (PyProof.Rows.callWith_type1 (thn (ha pos pins s σ H _ I h) fun us s1 ⟨vs, H1, I1, r1, q1⟩ => ?_) hs rfl))
 obtain ⟨j, e, q1, q2, q⟩ := q1
 subst e
 cases r1 with
 | cons r rr =>
  cases rr
  obtain ⟨t, rfl⟩ := r
  exact call_range_1 (range_it I1 (by omega) (by omega) q1 q2 (by simpa using q))
def tFor (wi : TI) (g : TG) (tb : TS) : TS := fun D σ H => wi σ H fun J H1 => ∃ W : Nat → Nat → St → Hp → Prop, (∃ m, W 0 m σ H1) ∧ ∀ i m σ H, W i m σ H →
 (J.stop i H ∧ D.nx σ H) ∨ (J.go i H ∧ ∃ N : St → Hp → Prop, (∀ σ' H', N σ' H' → ∃ m', m' < m ∧ W (i + 1) m' σ' H') ∧ ∀ x H', J.yld i H x H' → g x σ H' fun σ2 H2 => tb { D with nx := N, ct := N, bk := D.nx } σ2 H2)
def pinsAt (fp : List Addr) (h : Heap) : List (Addr × Obj) := fp.filterMap fun b => (h.get? b).map fun o => (b, o)
theorem mem_pinsAt {fp : List Addr} {h : Heap} {b : Addr} {o : Obj} (hb : b ∈ fp) (e : h.get? b = some o) : (b, o) ∈ pinsAt fp h := List.mem_filterMap.mpr ⟨b, hb, by rw [e]; rfl⟩
theorem of_pinsAt {fp : List Addr} {h : Heap} {p : Addr × Obj} (hp : p ∈ pinsAt fp h) : p.1 ∈ fp ∧ h.get? p.1 = some p.2 := by
 obtain ⟨b, hb, e⟩ := List.mem_filterMap.mp hp
 cases q : h.get? b with
 | none => rw [q] at e; cases e
 | some o =>
  rw [q] at e
  have e' : (b, o) = p := Option.some.inj e
  subst e'
  exact ⟨hb, q⟩
theorem Inv.pinned {pins : List (Addr × Obj)} {σ : St} {H : Hp} {s : Shared} {fp : List Addr} (I : Inv X pins σ H s) (hf : ∀ b ∈ fp, FpOk X pins H b) (ho : ∀ b ∈ fp, ∃ o, s.heap.get? b = some o ∧ ∀ v, o.data ≠ .cell v) : Inv X (pins ++ pinsAt fp s.heap) σ H s :=
 I.pins_of fun p hp => (List.mem_append.mp hp).elim (fun z => I.pin p (List.mem_append_right _ z)) fun z => by
  obtain ⟨hb, e⟩ := of_pinsAt z
  obtain ⟨f0, f1, f2, _⟩ := hf p.1 hb
  obtain ⟨o, e', d⟩ := ho p.1 hb
  rw [e] at e'; cases e'
  exact ⟨e, f0, f1, f2, d⟩
theorem Inv.unpinned {pins pl : List (Addr × Obj)} {σ : St} {H : Hp} {s : Shared} (I : Inv X (pins ++ pl) σ H s) : Inv X pins σ H s := I.pins_of fun p hp => I.pin p (List.mem_append_right _ (List.mem_append_left _ hp))
theorem ps_for {iter : Expr} {body : List Stmt} {wi : TI} {g : TG} {tb : TS} {pos : Pos} (hp : PassesOwn (model X.prog X.w) X.A X.env X.xe) (hc : X.calm = true) (hi : PI X tg iter wi) (hg : PG X tg g) (hb : PSs X body tb)
  (hs : ∀ x, foldedSetIterable iter X.env x = pure x := by intro _; rfl) : PS X (.For tg iter body [] pos) (tFor wi g tb) := by
 intro pins s σ H D I h
 refine wpAny_For (thn (hi pins s σ H _ I h) fun v s1 h1 => thn h1 fun itv s2 h2 => ?_) hs
 obtain ⟨it, fp, tn, J, H2, e, I2, T, st2, f2, W, ⟨m0, w0⟩, turn⟩ := h2
 subst e
 have stat : ∀ {H' : Hp}, (∀ b ∈ fp, H' b = none) → ∀ b ∈ fp, FpOk X pins H' b := fun hn b hb => ⟨hn b hb, (f2 b hb).2⟩
 refine codeAny_forLoop_any (fun n s' => ∃ i σ' H', Inv X pins σ' H' s' ∧ tn i s'.heap ∧ (∀ b ∈ fp, H' b = none) ∧ W i n σ' H') ?_ m0 ⟨0, σ, H2, I2, st2, fun b hb => (f2 b hb).1, w0⟩
 rintro n s3 ⟨i, σ3, H3, I3, st3, fr3, w3⟩
 rcases turn i n σ3 H3 w3 with ⟨stop, qn⟩ | ⟨go, N, hN, step⟩
 ·refine wpAny_passesOwn hp (thn (T.done X rfl rfl rfl hc i pins s3 σ3 H3 X.xe I3 (stat fr3) st3 stop) fun r s4 ⟨hr, I4⟩ => ?_)
  subst hr
  exact wpAny_execs_nil ⟨σ3, H3, I4, qn⟩
 ·refine wpAny_passesOwn hp (thn (T.item X rfl rfl rfl hc i pins s3 σ3 H3 X.xe I3 (stat fr3) st3 go) fun r s4 ⟨u, hr, h4⟩ => ?_)
  subst hr
  refine wpAny_passesOwn hp (thn h4 fun _ s5 ⟨x, H5, I5, r5, y5, st5, fr5⟩ => ?_)
  have I5' := I5.pinned (stat fr5) (T.obj _ _ st5)
  refine wpAny_passesOwn hp (thn (hg _ s5 σ3 H5 x u _ I5' r5 (step x H5 y5)) fun _ s6 ⟨σ6, H6, I6, q6⟩ => ?_)
  refine wpAny_passesOwn hp (thn (hb _ s6 σ6 H6 _ I6 q6) fun f s7 q7 => ?_)
  have again : ∀ {σ7 : St} {H7 : Hp}, Inv X (pins ++ pinsAt fp s5.heap) σ7 H7 s7 → N σ7 H7 → ∃ m, m < n ∧ ∃ i σ' H', Inv X pins σ' H' s7 ∧ tn i s7.heap ∧ (∀ b ∈ fp, H' b = none) ∧ W i m σ' H' := fun {σ7 H7} I7 n7 => by
   obtain ⟨m', hm, w7⟩ := hN σ7 H7 n7
   refine ⟨m', hm, i + 1, σ7, H7, I7.unpinned, T.keep _ _ _ st5 fun b hb o e => (I7.pin (b, o) (List.mem_append_right _ (List.mem_append_right _ (mem_pinsAt hb e)))).1, fun b hb => ?_, w7⟩
   obtain ⟨o, e, d⟩ := T.obj _ _ st5 b hb
   exact (I7.pin (b, o) (List.mem_append_right _ (List.mem_append_right _ (mem_pinsAt hb e)))).2.1
  cases f with
  | next => obtain ⟨σ7, H7, I7, n7⟩ := q7; exact again I7 n7
  | cont => obtain ⟨σ7, H7, I7, n7⟩ := q7; exact again I7 n7
  | brk => obtain ⟨σ7, H7, I7, q7⟩ := q7; exact ⟨σ7, H7, I7.unpinned, q7⟩
  | ret v => obtain ⟨x7, σ7, H7, I7, r7, q7⟩ := q7; exact ⟨x7, σ7, H7, I7.unpinned, r7, q7⟩
end
theorem for_list {K : PySem.W.Frag} {a : Addr} {xs : List V} {g : TG} {tb : TS} {D : Ends} {σ : St} {H : Hp} (Pv : Nat → St → Hp → Prop) (h0 : Pv 0 σ H) (hl : ∀ i σ H, i ≤ xs.length → Pv i σ H → SqL K H a xs)
  (hs : ∀ i x σ H, xs[i]? = some x → Pv i σ H → g x σ H fun σ2 H2 => tb { D with nx := Pv (i + 1), ct := Pv (i + 1), bk := D.nx } σ2 H2) (hd : ∀ σ H, Pv xs.length σ H → D.nx σ H) :
  ∃ W : Nat → Nat → St → Hp → Prop, (∃ m, W 0 m σ H) ∧ ∀ i m σ H, W i m σ H →
   ((Itl K a).stop i H ∧ D.nx σ H) ∨ ((Itl K a).go i H ∧ ∃ N : St → Hp → Prop, (∀ σ' H', N σ' H' → ∃ m', m' < m ∧ W (i + 1) m' σ' H') ∧ ∀ x H', (Itl K a).yld i H x H' → g x σ H' fun σ2 H2 => tb { D with nx := N, ct := N, bk := D.nx } σ2 H2) := by
 refine ⟨fun i m σ H => m = xs.length - i ∧ i ≤ xs.length ∧ Pv i σ H, ⟨xs.length, by simp, Nat.zero_le _, h0⟩, ?_⟩
 rintro i m σ H ⟨rfl, hi, p⟩
 have q := hl i σ H hi p
 by_cases hlt : i < xs.length
 ·refine .inr ⟨⟨xs, xs[i], q, by simp [hlt]⟩, Pv (i + 1), fun σ' H' p' => ⟨xs.length - (i + 1), by omega, rfl, hlt, p'⟩, fun x H' y => ?_⟩
  obtain ⟨e, y⟩ := y
  subst e
  exact hs i x σ _ (y xs q) p
 ·have e : i = xs.length := by omega
  subst e
  exact .inl ⟨⟨xs, q, Nat.le_refl _⟩, hd σ H p⟩
theorem for_range {lo : Int} {n : Nat} {g : TG} {tb : TS} {D : Ends} {σ : St} {H : Hp} (Pv : Nat → St → Hp → Prop) (h0 : Pv 0 σ H)
  (hs : ∀ i σ H, i < n → Pv i σ H → g (.int (lo + i)) σ H fun σ2 H2 => tb { D with nx := Pv (i + 1), ct := Pv (i + 1), bk := D.nx } σ2 H2) (hd : ∀ σ H, Pv n σ H → D.nx σ H) :
  ∃ W : Nat → Nat → St → Hp → Prop, (∃ m, W 0 m σ H) ∧ ∀ i m σ H, W i m σ H →
   ((Itr lo n).stop i H ∧ D.nx σ H) ∨ ((Itr lo n).go i H ∧ ∃ N : St → Hp → Prop, (∀ σ' H', N σ' H' → ∃ m', m' < m ∧ W (i + 1) m' σ' H') ∧ ∀ x H', (Itr lo n).yld i H x H' → g x σ H' fun σ2 H2 => tb { D with nx := N, ct := N, bk := D.nx } σ2 H2) := by
 refine ⟨fun i m σ H => m = n - i ∧ i ≤ n ∧ Pv i σ H, ⟨n, by simp, Nat.zero_le _, h0⟩, ?_⟩
 rintro i m σ H ⟨rfl, hi, p⟩
 by_cases hlt : i < n
 ·refine .inr ⟨hlt, Pv (i + 1), fun σ' H' p' => ⟨n - (i + 1), by omega, rfl, hlt, p'⟩, fun x H' y => ?_⟩
  obtain ⟨e, y⟩ := y
  subst e y
  exact hs i σ _ hlt p
 ·have e : i = n := by omega
  subst e
  exact .inl ⟨Nat.le_refl _, hd σ H p⟩
end L2
namespace L2
open PySem PySem.Spec PyProof.Rows
abbrev R2 := V → V → Hp → VK → Prop
def OpR (X : Cx) (f : Value → Value → Sem Value) (r : R2) : Prop :=
 ∀ (pins : List (Addr × Obj)) (s : Shared) (σ : St) (H : Hp) (x y : V) (v u : Value) (Q : VK), Inv X pins σ H s → RelV x v → RelV y u → r x y H Q →
  wpAny (model X.prog X.w) X.A (f v u) (EP X pins σ Q) X.xe s
def CallR (X : Cx) (f : Value) (r : List V → Hp → VK → Prop) : Prop :=
 ∀ (pins : List (Addr × Obj)) (s : Shared) (σ : St) (H : Hp) (xs : List V) (us : List Value) (Q : VK), Inv X pins σ H s → Vals xs us → r xs H Q →
  wpAny (model X.prog X.w) X.A (call f us) (EP X pins σ Q) X.xe s
def TruR (X : Cx) (r : V → Hp → (Bool → Hp → Prop) → Prop) : Prop :=
 ∀ (pins : List (Addr × Obj)) (s : Shared) (σ : St) (H : Hp) (x : V) (v : Value) (Q : Bool → Hp → Prop), Inv X pins σ H s → RelV x v → r x H Q →
  wpAny (model X.prog X.w) X.A (truthy v) (TP X pins σ Q) X.xe s
def tOp (r : R2) (ta tb : TE) : TE := fun σ H Q => ta σ H fun x H1 => tb σ H1 fun y H2 => r x y H2 Q
def rI (C : Int → Int → Prop) (g : Int → Int → V) : R2 := fun x y H Q => ∃ i j, x = .int i ∧ y = .int j ∧ C i j ∧ Q (g i j) H
def rI0 (g : Int → Int → V) : R2 := fun x y H Q => ∃ i j, x = .int i ∧ y = .int j ∧ Q (g i j) H
section
variable {X : Cx} {a b c : Expr} {ta tb tc : TE} {pos : Pos}
theorem binT (ha : PE X a ta) (hb : PE X b tb) {pins : List (Addr × Obj)} {s : Shared} {σ : St} {H : Hp} {R : V → V → Hp → Prop} (I : Inv X pins σ H s)
  (h : ta σ H fun x H1 => tb σ H1 fun y H2 => R x y H2) {Q : Value → Shared → Prop} {f : Value → Value → Sem Value}
  (hf : ∀ v u s2 x y H2, Inv X pins σ H2 s2 → RelV x v → RelV y u → R x y H2 → wpAny (model X.prog X.w) X.A (f v u) Q X.xe s2) :
  wpAny (model X.prog X.w) X.A (eval a X.env) (fun v s₁ => wpAny (model X.prog X.w) X.A (eval b X.env) (fun u s₂ => wpAny (model X.prog X.w) X.A (f v u) Q X.xe s₂) X.xe s₁) X.xe s := by
 refine thn (ha pins s σ H _ I h) fun v s1 ⟨x, H1, I1, r1, q1⟩ => ?_
 refine thn (hb pins s1 σ H1 _ I1 q1) fun u s2 ⟨y, H2, I2, r2, q2⟩ => ?_
 exact hf v u s2 x y H2 I2 r1 r2 q2
theorem pe_op {op : Operator} {r : R2} (ho : OpR X (binaryOp op) r) (ha : PE X a ta) (hb : PE X b tb) : PE X (.BinOp a op b pos) (tOp r ta tb) := by
 intro pins s σ H Q I h
 exact wpAny_BinOp (binT ha hb I h fun v u s2 x y H2 I2 rx ry q => ho pins s2 σ H2 x y v u Q I2 rx ry q)
theorem opI {f : Value → Value → Sem Value} {C : Int → Int → Prop} {g : Int → Int → Int}
  (rule : ∀ (i j : Int) (t u : Tok) (s : Shared) (Q : Value → Shared → Prop) (E : Value → Shared → Prop), C i j → Q (.int (g i j) s.toks) { s with toks := s.toks + 1 } → wpAny (model X.prog X.w) X.A (f (.int i t) (.int j u)) Q E s) :
  OpR X f (rI C fun i j => .int (g i j)) := by
 intro pins s σ H x y v u Q I rx ry h
 obtain ⟨i, j, rfl, rfl, hc, q⟩ := h
 obtain ⟨t, rfl⟩ := rx
 obtain ⟨t', rfl⟩ := ry
 exact rule i j t t' s _ _ hc ⟨.int (g i j), H, I.tok _, ⟨_, rfl⟩, q⟩
theorem opI0 {f : Value → Value → Sem Value} {g : Int → Int → Int}
  (rule : ∀ (i j : Int) (t u : Tok) (s : Shared) (Q : Value → Shared → Prop) (E : Value → Shared → Prop), Q (.int (g i j) s.toks) { s with toks := s.toks + 1 } → wpAny (model X.prog X.w) X.A (f (.int i t) (.int j u)) Q E s) :
  OpR X f (rI0 fun i j => .int (g i j)) := by
 intro pins s σ H x y v u Q I rx ry h
 obtain ⟨i, j, rfl, rfl, q⟩ := h
 obtain ⟨t, rfl⟩ := rx
 obtain ⟨t', rfl⟩ := ry
 exact rule i j t t' s _ _ ⟨.int (g i j), H, I.tok _, ⟨_, rfl⟩, q⟩
theorem opB0 {f : Value → Value → Sem Value} {g : Int → Int → Bool}
  (rule : ∀ (i j : Int) (t u : Tok) (s : Shared) (Q : Value → Shared → Prop) (E : Value → Shared → Prop), Q (.bool (g i j)) s → wpAny (model X.prog X.w) X.A (f (.int i t) (.int j u)) Q E s) :
  OpR X f (rI0 fun i j => .bl (g i j)) := by
 intro pins s σ H x y v u Q I rx ry h
 obtain ⟨i, j, rfl, rfl, q⟩ := h
 obtain ⟨t, rfl⟩ := rx
 obtain ⟨t', rfl⟩ := ry
 exact rule i j t t' s _ _ ⟨.bl (g i j), H, I, rfl, q⟩
def CDiv (i j : Int) : Prop := 0 < j ∧ j < 1073741824
def CMul (i j : Int) : Prop := (-(2 ^ 64) < i ∧ i < 2 ^ 64) ∨ (-(2 ^ 64) < j ∧ j < 2 ^ 64)
theorem CMul.ok {i j : Int} (h : CMul i j) : IntMulOk i j := by
 rcases h with ⟨h1, h2⟩ | ⟨h1, h2⟩
 ·exact .of_left (intBits_le_64 h1 h2)
 ·exact .of_right (intBits_le_64 h1 h2)
theorem op_add : OpR X (binaryOp .Add) (rI0 fun i j => .int (i + j)) := opI0 fun _ _ _ _ _ _ _ q => add_int q
theorem op_sub : OpR X (binaryOp .Sub) (rI0 fun i j => .int (i - j)) := opI0 fun _ _ _ _ _ _ _ q => sub_int q
theorem op_mul : OpR X (binaryOp .Mult) (rI CMul fun i j => .int (i * j)) := opI fun _ _ _ _ _ _ _ hc q => mul_int q hc.ok
theorem op_fdiv : OpR X (binaryOp .FloorDiv) (rI CDiv fun i j => .int (i / j)) := opI fun i j _ _ _ _ _ hc q => by
 have h1 : (0 : Int) < j := hc.1
 have h2 : j < 1073741824 := hc.2
 exact floordiv_int (by omega) (by rw [Int.fdiv_eq_ediv_of_nonneg i (by omega)]; exact q) (.inl (PyProof.noPylong_small (by omega)))
theorem op_mod : OpR X (binaryOp .Mod) (rI (fun _ j => 0 < j) fun i j => .int (i % j)) := opI fun i j _ _ _ _ _ hc q => by
 have h1 : (0 : Int) < j := hc
 exact mod_int' (by omega) (by rw [Int.fmod_eq_emod_of_nonneg i (by omega)]; exact q)
theorem op_and : OpR X (binaryOp .BitAnd) (rI0 fun i j => .int (Builtin.bitAnd i j)) := opI0 fun _ _ _ _ _ _ _ q => and_int q
end
def scal : V → V → Bool
 | .non, .non => true | .non, .int _ => true | .int _, .non => true | .non, .bl _ => true | .bl _, .non => true | .non, .str _ => true | .str _, .non => true
 | .int _, .int _ => true | .bl _, .bl _ => true | .str _, .str _ => true | .byt _, .byt _ => true
 | .int _, .str _ => true | .str _, .int _ => true | .bl _, .str _ => true | .str _, .bl _ => true
 | _, _ => false
def rEq : R2 := fun x y H Q => scal x y = true ∧ Q (.bl (decide (x = y))) H
def rNe : R2 := fun x y H Q => scal x y = true ∧ Q (.bl (!decide (x = y))) H
theorem dec_int {i j : Int} : decide (V.int i = V.int j) = (i == j) := by
 rw [Bool.eq_iff_iff]
 simp
theorem dec_bl {i j : Bool} : decide (V.bl i = V.bl j) = (i == j) := by
 rw [Bool.eq_iff_iff]
 simp
theorem dec_str {i j : Str} : decide (V.str i = V.str j) = (i == j) := by
 rw [Bool.eq_iff_iff]
 simp
theorem dec_byt {i j : Array UInt8} : decide (V.byt i = V.byt j) = (i.toList == j.toList) := by
 rw [Bool.eq_iff_iff]
 cases i
 cases j
 simp
section
variable {X : Cx} {a b c : Expr} {ta tb tc : TE} {pos : Pos}
theorem fin_bl {pins : List (Addr × Obj)} {σ : St} {H : Hp} {s : Shared} {Q : VK} {k k' : Bool} (I : Inv X pins σ H s) (q : Q (.bl k) H) (e : k = k') : EP X pins σ Q (.bool k') s := by
 subst e
 exact ⟨.bl k, H, I, rfl, q⟩
theorem op_eq : OpR X (compareOp .Eq) rEq := by
 intro pins s σ H x y v u Q I rx ry h
 obtain ⟨hs, q⟩ := h
 cases x with
 | non =>
  cases rx
  cases y with
  | non => cases ry; exact PySem.EqNone.eq_none_none (fin_bl I q (by simp))
  | bl j => cases ry; exact PySem.EqNone.eq_none_bool (fin_bl I q (by simp))
  | int j => obtain ⟨t', rfl⟩ := ry; exact PySem.EqNone.eq_none_int (fin_bl I q (by simp))
  | str j => obtain ⟨t', rfl⟩ := ry; exact PySem.EqNone.eq_none_str (fin_bl I q (by simp))
  | _ => exact absurd (show false = true from hs) Bool.false_ne_true
 | bl i =>
  cases rx
  cases y with
  | non => cases ry; exact PySem.EqNone.eq_bool_none (fin_bl I q (by simp))
  | bl j => cases ry; exact eq_bool (fin_bl I q dec_bl)
  | str j => obtain ⟨t', rfl⟩ := ry; exact PySem.EqMixed.eq_bool_str (fin_bl I q (by simp))
  | _ => exact absurd (show false = true from hs) Bool.false_ne_true
 | int i =>
  obtain ⟨t, rfl⟩ := rx
  cases y with
  | non => cases ry; exact PySem.EqNone.eq_int_none (fin_bl I q (by simp))
  | int j => obtain ⟨t', rfl⟩ := ry; exact eq_int (fin_bl I q dec_int)
  | str j => obtain ⟨t', rfl⟩ := ry; exact PySem.EqMixed.eq_int_str (fin_bl I q (by simp))
  | _ => exact absurd (show false = true from hs) Bool.false_ne_true
 | str i =>
  obtain ⟨t, rfl⟩ := rx
  cases y with
  | non => cases ry; exact PySem.EqNone.eq_str_none (fin_bl I q (by simp))
  | bl j => cases ry; exact PySem.EqMixed.eq_str_bool (fin_bl I q (by simp))
  | int j => obtain ⟨t', rfl⟩ := ry; exact PySem.EqMixed.eq_str_int (fin_bl I q (by simp))
  | str j => obtain ⟨t', rfl⟩ := ry; exact eq_str (fin_bl I q dec_str)
  | _ => exact absurd (show false = true from hs) Bool.false_ne_true
 | byt i =>
  obtain ⟨t, rfl⟩ := rx
  cases y with
  | byt j => obtain ⟨t', rfl⟩ := ry; exact PySem.W.eq_bytes (fin_bl I q dec_byt)
  | _ => exact absurd (show false = true from hs) Bool.false_ne_true
 | _ => cases y <;> exact absurd (show false = true from hs) Bool.false_ne_true
theorem op_ne : OpR X (compareOp .NotEq) rNe := by
 intro pins s σ H x y v u Q I rx ry h
 obtain ⟨hs, q⟩ := h
 cases x with
 | non =>
  cases rx
  cases y with
  | non => cases ry; exact PySem.EqNone.ne_none_none (fin_bl I q (by simp))
  | bl j => cases ry; exact PySem.EqNone.ne_none_bool (fin_bl I q (by simp))
  | int j => obtain ⟨t', rfl⟩ := ry; exact PySem.EqNone.ne_none_int (fin_bl I q (by simp))
  | str j => obtain ⟨t', rfl⟩ := ry; exact PySem.EqNone.ne_none_str (fin_bl I q (by simp))
  | _ => exact absurd (show false = true from hs) Bool.false_ne_true
 | bl i =>
  cases rx
  cases y with
  | non => cases ry; exact PySem.EqNone.ne_bool_none (fin_bl I q (by simp))
  | bl j => cases ry; exact ne_bool (fin_bl I q (congrArg not dec_bl))
  | str j => obtain ⟨t', rfl⟩ := ry; exact PySem.EqMixed.ne_bool_str (fin_bl I q (by simp))
  | _ => exact absurd (show false = true from hs) Bool.false_ne_true
 | int i =>
  obtain ⟨t, rfl⟩ := rx
  cases y with
  | non => cases ry; exact PySem.EqNone.ne_int_none (fin_bl I q (by simp))
  | int j => obtain ⟨t', rfl⟩ := ry; exact ne_int (fin_bl I q (congrArg not dec_int))
  | str j => obtain ⟨t', rfl⟩ := ry; exact PySem.EqMixed.ne_int_str (fin_bl I q (by simp))
  | _ => exact absurd (show false = true from hs) Bool.false_ne_true
 | str i =>
  obtain ⟨t, rfl⟩ := rx
  cases y with
  | non => cases ry; exact PySem.EqNone.ne_str_none (fin_bl I q (by simp))
  | bl j => cases ry; exact PySem.EqMixed.ne_str_bool (fin_bl I q (by simp))
  | int j => obtain ⟨t', rfl⟩ := ry; exact PySem.EqMixed.ne_str_int (fin_bl I q (by simp))
  | str j => obtain ⟨t', rfl⟩ := ry; exact ne_str (fin_bl I q (congrArg not dec_str))
  | _ => exact absurd (show false = true from hs) Bool.false_ne_true
 | byt i =>
  obtain ⟨t, rfl⟩ := rx
  cases y with
  | byt j => obtain ⟨t', rfl⟩ := ry; exact PySem.W.ne_bytes (fin_bl I q (congrArg not dec_byt))
  | _ => exact absurd (show false = true from hs) Bool.false_ne_true
 | _ => cases y <;> exact absurd (show false = true from hs) Bool.false_ne_true
theorem op_lt : OpR X (compareOp .Lt) (rI0 fun i j => .bl (decide (i < j))) := opB0 fun _ _ _ _ _ _ _ q => lt_int q
theorem op_le : OpR X (compareOp .LtE) (rI0 fun i j => .bl (decide (i ≤ j))) := opB0 fun _ _ _ _ _ _ _ q => le_int q
theorem op_gt : OpR X (compareOp .Gt) (rI0 fun i j => .bl (decide (j < i))) := opB0 fun _ _ _ _ _ _ _ q => gt_int q
theorem op_ge : OpR X (compareOp .GtE) (rI0 fun i j => .bl (decide (j ≤ i))) := opB0 fun _ _ _ _ _ _ _ q => ge_int q
theorem op_isN : OpR X (compareOp .Is) (fun x y H Q => y = .non ∧ Q (.bl (decide (x = .non))) H) := by
 intro pins s σ H x y v u Q I rx ry h
 obtain ⟨rfl, q⟩ := h
 cases ry
 refine is_none_gen (fin_bl I q ?_)
 cases x <;> first
  | (cases rx; rfl)
  | (obtain ⟨t, rfl⟩ := rx; rfl)
theorem op_notN : OpR X (compareOp .IsNot) (fun x y H Q => y = .non ∧ Q (.bl (!decide (x = .non))) H) := by
 intro pins s σ H x y v u Q I rx ry h
 obtain ⟨rfl, q⟩ := h
 cases ry
 refine isnot_none_gen (fin_bl I q ?_)
 cases x <;> first
  | (cases rx; rfl)
  | (obtain ⟨t, rfl⟩ := rx; rfl)
theorem nomark (b : Expr) {op : CmpOp} (h : op ≠ .In := by decide) (h2 : op ≠ .NotIn := by decide) : behindInMarks op b = false := by
 have e1 : (op == CmpOp.In) = false := by cases op <;> first | rfl | exact absurd rfl h
 have e2 : (op == CmpOp.NotIn) = false := by cases op <;> first | rfl | exact absurd rfl h2
 cases b <;> simp [behindInMarks, e1, e2]
theorem pe_cmpR {op : CmpOp} {r : R2} (ho : OpR X (compareOp op) r) (ha : PE X a ta) (hb : PE X b tb) (hm : behindInMarks op b = false) : PE X (.Compare a [op] [b] pos) (tOp r ta tb) := by
 intro pins s σ H Q I h
 exact wpAny_Compare1 (binT ha hb I h fun v u s2 x y H2 I2 rx ry q => ho pins s2 σ H2 x y v u Q I2 rx ry q) hm
def tTest (t : TE) : TT := fun σ H Q => t σ H fun x H' => ∃ k, x = .bl k ∧ Q k H'
theorem pt_cmpR {op : CmpOp} {r : R2} (ho : OpR X (compareOp op) r) (ha : PE X a ta) (hb : PE X b tb) (hm : behindInMarks op b = false) : PT X (.Compare a [op] [b] pos) (tTest (tOp r ta tb)) := by
 intro pins s σ H Q I h
 refine wpAny_isTrue_Compare1 (thn (ha pins s σ H _ I h) fun v s1 ⟨x, H1, I1, r1, q1⟩ => thn (hb pins s1 σ H1 _ I1 q1) fun u s2 ⟨y, H2, I2, r2, q2⟩ =>
  thn (ho pins s2 σ H2 x y v u _ I2 r1 r2 q2) fun c s3 ⟨z, H3, I3, r3, k, e, q3⟩ => ?_) hm
 subst e
 cases r3
 exact wpAny_truthy_bool ⟨H3, I3, q3⟩
def tChain (r r' : R2) (ta tb tc : TE) : TE := fun σ H Q => ta σ H fun x H1 => tb σ H1 fun y H2 => r x y H2 fun z H3 => ∃ k, z = .bl k ∧
 (if k = true then tc σ H3 fun w' H4 => r' y w' H4 Q else Q (.bl false) H3)
theorem pt_chain {op op' : CmpOp} {r r' : R2} (ho : OpR X (compareOp op) r) (ho' : OpR X (compareOp op') r') (ha : PE X a ta) (hb : PE X b tb) (hc : PE X c tc)
  (hm : lastMarks [op, op'] [b, c] = false := by with_unfolding_all rfl) : PT X (.Compare a [op, op'] [b, c] pos) (tTest (tChain r r' ta tb tc)) := by
 intro pins s σ H Q I h
 refine isTrue_chain (thn (ha pins s σ H _ I h) fun v s1 ⟨x, H1, I1, r1, q1⟩ => test_link (thn (hb pins s1 σ H1 _ I1 q1) fun u s2 ⟨y, H2, I2, r2, q2⟩ =>
  thn (ho pins s2 σ H2 x y v u _ I2 r1 r2 q2) fun d s3 ⟨z, H3, I3, r3, k, e, q3⟩ => ?_)) hm
 subst e
 cases r3
 refine wpAny_truthy_bool ?_
 cases k with
 | false =>
  obtain ⟨k', e', q'⟩ := q3
  cases e'
  exact ite_ff ⟨H3, I3, q'⟩
 | true =>
  refine ite_tt (test_last (thn (hc pins s3 σ H3 _ I3 q3) fun w' s4 ⟨z', H4, I4, r4, q4⟩ => thn (ho' pins s4 σ H4 y z' u w' _ I4 r2 r4 q4) fun d' s5 ⟨z2, H5, I5, r5, k2, e2, q5⟩ => ?_))
  subst e2
  cases r5
  exact wpAny_truthy_bool ⟨H5, I5, q5⟩
def TruV (K : PySem.W.Frag) (x : V) (H : Hp) (k : Bool) : Prop :=
 match x with
 | .non => k = false
 | .bl b => k = b
 | .int i => k = (i != 0)
 | .str y => y.length ≤ sizeLine ∧ k = ((y.length : Int) != 0)
 | .byt y => y.size ≤ sizeLine ∧ k = ((y.size : Int) != 0)
 | .ref p => (∃ xs, SqL K H p xs ∧ k = !xs.isEmpty) ∨ (∃ xs, SqT K H p xs ∧ k = !xs.isEmpty) ∨ ∃ kvs, H p = some (.dK kvs) ∧ k = !kvs.isEmpty
 | _ => False
theorem isEmpty_kv {κ : Type} {kvs : List (κ × V)} {vs : List (κ × Value)} (r : KV kvs vs) : (!vs.isEmpty) = !kvs.isEmpty := by
 cases r <;> rfl
theorem isEmpty_of {xs : List V} {its : List Value} (r : Vals xs its) : (!its.toArray.isEmpty) = !xs.isEmpty := by
 cases r <;> simp
theorem line63 : (sizeLine : Nat) < 2 ^ 63 := by rw [sizeLine_eq]; decide
theorem tru_ok : TruR X (fun x H Q => ∃ k, TruV X.K x H k ∧ Q k H) := by
 intro pins s σ H x v Q I rx h
 obtain ⟨k, e, q⟩ := h
 have hl := line63
 have hs : sizeLine = 16777216 := sizeLine_eq
 cases x with
 | non =>
  cases rx
  have e' : k = false := e
  subst e'
  exact truthy_none ⟨H, I, q⟩
 | bl b =>
  cases rx
  have e' : k = b := e
  subst e'
  exact wpAny_truthy_bool ⟨H, I, q⟩
 | int i =>
  obtain ⟨t, rfl⟩ := rx
  have e' : k = (i != 0) := e
  subst e'
  exact PySem.P.truthy_int ⟨H, I, q⟩
 | str y =>
  obtain ⟨t, rfl⟩ := rx
  obtain ⟨hy, e'⟩ : y.length ≤ sizeLine ∧ k = ((y.length : Int) != 0) := e
  subst e'
  exact PySem.P.truthy_str (by omega) ⟨H, I.tok _, q⟩
 | byt y =>
  obtain ⟨t, rfl⟩ := rx
  obtain ⟨hy, e'⟩ : y.size ≤ sizeLine ∧ k = ((y.size : Int) != 0) := e
  subst e'
  exact PySem.W.truthy_bytes (by omega) ⟨H, I.tok _, q⟩
 | ref p =>
  cases rx
  have e' : (∃ xs, SqL X.K H p xs ∧ k = !xs.isEmpty) ∨ (∃ xs, SqT X.K H p xs ∧ k = !xs.isEmpty) ∨ ∃ kvs, H p = some (.dK kvs) ∧ k = !kvs.isEmpty := e
  rcases e' with ⟨xs, hx, e'⟩ | ⟨xs, hx, e'⟩ | ⟨kvs, hx, e'⟩
  ·subst e'
   obtain ⟨its, r, pl, hz⟩ := I.list hx
   have hlen := r.length
   exact wpAny_truthy_list pl.isList (by simp only [List.size_toArray]; omega) ⟨H, I.tok _, by rw [isEmpty_of r]; exact q⟩
  ·subst e'
   obtain ⟨its, r, pl, hz⟩ := I.tuple hx
   have hlen := r.length
   exact truthy_tuple pl (by simp only [List.size_toArray]; omega) ⟨H, I.tok _, by rw [isEmpty_of r]; exact q⟩
  ·subst e'
   obtain ⟨hz, hS, vs, r, m⟩ : kvs.length ≤ sizeLine ∧ (p == sysModules) = false ∧ ∃ vs, KV kvs vs ∧ s.heap.DictOf (mixKind X.prog X.w) p vs := I.hok p _ hx
   have hlen : kvs.length = vs.length := Paired.length r
   exact wpAny_truthy_dict hS m (by omega) ⟨H, I.tok _, by rw [isEmpty_kv r]; exact q⟩
 | _ => exact (show False from e).elim
theorem pt_truth (ha : PE X a ta) (he : ∀ whole, isTrue a X.env whole = (do let v ← whole; standAt a.pos; holding [v] (truthy v))) :
  PT X a (fun σ H Q => ta σ H fun x H' => ∃ k, TruV X.K x H' k ∧ Q k H') := by
 intro pins s σ H Q I h
 exact isTrue_plain (thn (ha pins s σ H _ I h) fun v s1 ⟨x, H1, I1, r1, q1⟩ => tru_ok pins s1 σ H1 x v Q I1 r1 q1) (he _)
theorem vals1 {x : V} {us : List Value} (r : Vals [x] us) : ∃ u, us = [u] ∧ RelV x u := by
 cases r with
 | cons r1 r2 => cases r2; exact ⟨_, rfl, r1⟩
theorem vals2 {x y : V} {us : List Value} (r : Vals [x, y] us) : ∃ u w', us = [u, w'] ∧ RelV x u ∧ RelV y w' := by
 cases r with
 | cons r1 r2 =>
  cases r2 with
  | cons r3 r4 => cases r4; exact ⟨_, _, rfl, r1, r3⟩
end
end L2
namespace L2
open PySem PySem.Spec PyProof.Rows
structure ObjM (h : Heap) (x dx C : Addr) (mA : Str → Option Value) : Prop where
 obj : h.get? x = some (PySem.W.instObj C dx)
 ns : h.Ns1 dx mA
 ne : dx ≠ x
theorem lookIn_ns {h : Heap} {dx : Addr} {mA : Str → Option Value} (n : h.Ns1 dx mA) : ∃ od, h.get? dx = some od ∧ ∀ name, PySem.W.lookIn name od = some (mA name) := by
 obtain ⟨o, es, ep, ho, hd, hk, _, hm⟩ := n
 refine ⟨o, ho, fun name => ?_⟩
 have e := hm name
 unfold nsFind findBy at e
 rw [← Array.find?_toList] at e
 unfold PySem.W.lookIn
 rw [hd]
 dsimp only
 split
 ·rename_i y q
  rw [q] at e
  exact congrArg some e
 ·rename_i q
  rw [q] at e
  have a : es.toList.any (·.refKey) = false := by
   rw [List.any_eq_false]
   intro y hy
   obtain ⟨z, t, hkey⟩ := hk y (Array.mem_toList_iff.mp hy)
   simp [DictEntry.refKey, hkey]
  have a' : ¬ es.toList.any (·.refKey) = true := by rw [a]; exact Bool.false_ne_true
  rw [if_neg a']
  exact congrArg some e
theorem ObjM.look {h : Heap} {x dx C : Addr} {mA : Str → Option Value} (I : ObjM h x dx C mA) : ∃ od, PySem.W.InstAt h x (PySem.W.instObj C dx) C (some od) ∧ ∀ name, PySem.W.lookIn name od = some (mA name) :=
 let ⟨od, ho, hl⟩ := lookIn_ns I.ns
 ⟨od, ⟨I.obj, rfl, rfl, ho⟩, hl⟩
section
variable {prog : Program} {w : World} {A : Around} {E : Value → Shared → Prop} {s : Shared} {K : PySem.W.Frag} {x dx C f : Addr} {mA : Str → Option Value} {name : Str} {v : Value}
theorem get_map {expr : Bool} {Q : Value → Shared → Prop} (X : K.In s.heap) (I : ObjM s.heap x dx C mA) (hg : PySem.W.plainGet K C name = true) (hh : PySem.W.hasDictIn K C = true)
  (ha : PySem.W.findIn K (.ref C) name = some none) (hv : mA name = some v) (hv' : PySem.W.handedIn v = true) (h : Q v { s with toks := s.toks + 1 }) :
  wpAny (model prog w) A (getAttr (.ref x) name expr) Q E s := by
 obtain ⟨od, J, hl⟩ := I.look
 exact PySem.W.get_value X J (PySem.W.plainGet_of hg).1 (PySem.W.findObj_own hh ha rfl (by rw [hl, hv])) hv' h
theorem set_map {ns : List Str} {Q : Unit → Shared → Prop} (X : K.In s.heap) (I : ObjM s.heap x dx C mA)
  (hs : PySem.W.findIn K (.ref C) "__setattr__" = some (some (.builtin "object.__setattr__"))) (hp : PySem.W.plainOver K C = true) (ht : PySem.W.takerIn K C name = some none) (hh : PySem.W.hasDictIn K C = true)
  (hw : PySem.Within mA ns) (hsz : ns.length ≤ sizeLine)
  (h : ∀ h', ObjM h' x dx C (fun y => if y = name then some v else mA y) → Heap.SameBut dx s.heap h' → Q () { s with heap := h', toks := s.toks + 2 }) :
  wpAny (model prog w) A (setAttr (.ref x) name v) Q E s := by
 obtain ⟨od, J, hl⟩ := I.look
 refine PySem.W.set_plain X J hs (PySem.W.osa_open (s := { s with toks := s.toks + 1 }) (r := none) X J hp ht fun b => ?_)
 obtain ⟨cd, hc, hd'⟩ := PySem.W.any_some hh
 have hx : s.heap.get? x = some ⟨.ref C, some dx, .plain, #[]⟩ := I.obj
 refine wpAny_bind (wpAny_pure (wpAny_bind (wpAny_bind (wpAny_loadPart hx (wpAny_bind (PySem.W.Looks.here (s := { s with toks := s.toks + 1 }) (PySem.W.looks_clsIn X hc) ?_))))))
 rw [hd']
 refine wpAny_pure (a := some dx) (wpAny_bind (wpAny_pure (wpAny_bind ?_)))
 refine wpAny_nsSet1 (s := { s with toks := s.toks + 1 }) I.ns fun h' hn2 hs2 => ?_
 obtain ⟨oD, esD, epD, hoD, hdD, hcD⟩ := hn2.count (PySem.Within.cons name v hw)
 refine wpAny_bind (wpAny_lookBehind hoD (by rw [hdD]; exact pastItsLine_dict (Nat.le_trans hcD (by rw [List.length_cons]; omega))) ?_)
 exact wpAny_pure (h _ ⟨(hs2.2 _ (Ne.symm I.ne)).trans I.obj, hn2, I.ne⟩ hs2)
theorem make_map {R : Result → Shared → Prop} {vs : List Value} {kw : List (Str × Value)} (X : K.In s.heap) (hm : PySem.W.makesIn K C = true)
  (hi : PySem.W.findIn K (.ref C) "__init__" = some (some (.ref f))) (hf : PySem.W.typeIn K (.ref f) = some (.type "function"))
  (h : codeAny (model prog w) (A.under (.builtin "type.__call__" ⟨.ref C :: vs, kw⟩)) (.call (.ref f) ⟨.ref (s.heap.objs.size + 1) :: vs, kw⟩) (PySem.W.InitBack (s.heap.objs.size + 1) R)
   { s with heap := (s.heap.push PySem.W.emptyDict).push (PySem.W.instObj C s.heap.objs.size) }) :
  codeAny (model prog w) A (.call (.ref C) ⟨vs, kw⟩) R s := by
 obtain ⟨hh, g, d, t, os⟩ := s
 exact PySem.W.make_core (PySem.W.makes_of X hm) (PySem.W.looks_findIn X hi) (fun self => PySem.W.bind_fn X self hf) (.inl rfl) h
end
def putF (f : Str) (v : V) : List (Str × V) → List (Str × V)
 | [] => [(f, v)]
 | (g, x) :: r => if g = f then (g, v) :: r else (g, x) :: putF f v r
theorem lookup_putF (f g : Str) (v : V) : ∀ fs : List (Str × V), (putF f v fs).lookup g = if g = f then some v else fs.lookup g
 | [] => by
  show List.lookup g [(f, v)] = _
  by_cases h : g = f
  ·have hb : (g == f) = true := beq_iff_eq.mpr h
   simp only [List.lookup, hb, if_pos h]
  ·have hb : (g == f) = false := beq_eq_false_iff_ne.mpr h
   simp only [List.lookup, hb, if_neg h]
 | (k, x) :: r => by
  have ih := lookup_putF f g v r
  rw [show putF f v ((k, x) :: r) = (if k = f then (k, v) :: r else (k, x) :: putF f v r) from rfl]
  by_cases hk : k = f
  ·rw [if_pos hk]
   by_cases h : g = k
   ·have hb : (g == k) = true := beq_iff_eq.mpr h
    simp only [List.lookup, hb, if_pos (h.trans hk)]
   ·have hb : (g == k) = false := beq_eq_false_iff_ne.mpr h
    simp only [List.lookup, hb, if_neg (fun e : g = f => h (e.trans hk.symm))]
  ·rw [if_neg hk]
   by_cases h : g = k
   ·have hb : (g == k) = true := beq_iff_eq.mpr h
    simp only [List.lookup, hb, if_neg (fun e : g = f => hk (h.symm.trans e))]
   ·have hb : (g == k) = false := beq_eq_false_iff_ne.mpr h
    simp only [List.lookup, hb]
    exact ih
theorem keys_putF (f : Str) (v : V) : ∀ fs : List (Str × V), f ∈ (putF f v fs).map (·.1) ∧ ∀ g, g ∈ fs.map (·.1) → g ∈ (putF f v fs).map (·.1)
 | [] => ⟨by simp [putF], fun g h => by simp at h⟩
 | (k, x) :: r => by
  obtain ⟨i1, i2⟩ := keys_putF f v r
  rw [show putF f v ((k, x) :: r) = (if k = f then (k, v) :: r else (k, x) :: putF f v r) from rfl]
  by_cases hk : k = f
  ·rw [if_pos hk]
   subst hk
   exact ⟨by simp, fun g h => by simpa using h⟩
  ·rw [if_neg hk]
   refine ⟨?_, fun g h => ?_⟩
   ·rw [List.map_cons]
    exact List.mem_cons_of_mem _ i1
   ·rw [List.map_cons] at h ⊢
    rcases List.mem_cons.mp h with e | e
    ·exact List.mem_cons.mpr (.inl e)
    ·exact List.mem_cons_of_mem _ (i2 g e)
theorem length_putF (f : Str) (v : V) : ∀ fs : List (Str × V), (putF f v fs).length ≤ fs.length + 1
 | [] => by simp [putF]
 | (k, x) :: r => by
  have ih := length_putF f v r
  rw [show putF f v ((k, x) :: r) = (if k = f then (k, v) :: r else (k, x) :: putF f v r) from rfl]
  by_cases hk : k = f
  ·rw [if_pos hk, List.length_cons, List.length_cons]; omega
  ·rw [if_neg hk, List.length_cons, List.length_cons]; omega
theorem RelO.some_of {v : V} {o : Option Value} (r : RelO (some v) o) : ∃ u, o = some u ∧ RelV v u := by
 cases o with
 | none => exact (show False from r).elim
 | some u => exact ⟨u, rfl, r⟩
theorem handed_of {v : V} {u : Value} (r : RelV v u) : PySem.W.handedIn u = true := by
 cases v with
 | non => cases (show u = Value.none from r); rfl
 | bl b => cases (show u = Value.bool b from r); rfl
 | int i => obtain ⟨t, e⟩ := (show ∃ t, u = Value.int i t from r); cases e; rfl
 | str x => obtain ⟨t, e⟩ := (show ∃ t, u = Value.str x t from r); cases e; rfl
 | byt b => obtain ⟨t, e⟩ := (show ∃ t, u = Value.bytes b t from r); cases e; rfl
 | flt b => obtain ⟨t, e⟩ := (show ∃ t, u = Value.float b t from r); cases e; rfl
 | ref a => cases (show u = Value.ref a from r); rfl
 | ty n => cases (show u = Value.type n from r); rfl
section
variable {P : Program} {w : World} {H H' : Hp} {h h' : Heap} {a C dx : Addr} {fs fs' : List (Str × V)}
theorem ins_get (hok : HOk P w H h) (e : H a = some (.ins C dx fs)) : ∃ mA, ObjM h a dx C mA ∧ (∀ f, RelO (fs.lookup f) (mA f)) ∧ PySem.Within mA (fs.map (·.1)) ∧ fs.length ≤ 1000 ∧ H dx = some (.own a) := by
 obtain ⟨d, z, ne, ob, mA, n, r, q⟩ := (show ObjOk P w H h a (.ins C dx fs) from hok a _ e)
 exact ⟨mA, ⟨ob, n, ne⟩, r, q, z, d⟩
end
structure Cls (K : PySem.W.Frag) (C : Addr) : Prop where
 pg : PySem.W.plainGet K C Str.empty = true
 hd : PySem.W.hasDictIn K C = true
 po : PySem.W.plainOver K C = true
 sa : PySem.W.findIn K (.ref C) "__setattr__" = some (some (.builtin "object.__setattr__"))
theorem Cls.get {K : PySem.W.Frag} {C : Addr} (c : Cls K C) (f : Str) : PySem.W.plainGet K C f = true := c.pg
def NoAttr (K : PySem.W.Frag) (C : Addr) (f : Str) : Prop := PySem.W.findIn K (.ref C) f = some none
theorem NoAttr.taker {K : PySem.W.Frag} {C : Addr} {f : Str} (n : NoAttr K C f) : PySem.W.takerIn K C f = some none := by
 unfold PySem.W.takerIn
 rw [show PySem.W.findIn K (.ref C) f = some none from n]
 rfl
section
variable {X : Cx} {pins : List (Addr × Obj)} {σ : St} {H : Hp} {s : Shared} {a C dx : Addr} {fs : List (Str × V)} {f : Str} {v : V} {A : Around} {E : Value → Shared → Prop}
theorem getattr_ok {b : Bool} {Q : Value → Shared → Prop} (I : Inv X pins σ H s) (e : H a = some (.ins C dx fs)) (c : Cls X.K C) (n : NoAttr X.K C f) (l : fs.lookup f = some v)
  (h : ∀ u s', Inv X pins σ H s' → RelV v u → Q u s') : wpAny (model X.prog X.w) A (getAttr (.ref a) f b) Q E s := by
 obtain ⟨mA, O, r, _, _, _⟩ := ins_get I.hok e
 obtain ⟨u, hu, ru⟩ := RelO.some_of (v := v) (o := mA f) (by rw [← l]; exact r f)
 exact get_map I.kIn O (c.get f) c.hd n hu (handed_of ru) (h u _ (I.tok _) ru)
theorem setattr_ok {y : V} {u : Value} {Q : Unit → Shared → Prop} (I : Inv X pins σ H s) (e : H a = some (.ins C dx fs)) (c : Cls X.K C) (n : NoAttr X.K C f) (hl : fs.length < 1000) (ry : RelV y u)
  (h : ∀ s', Inv X pins σ (upd H a (.ins C dx (putF f y fs))) s' → Q () s') : wpAny (model X.prog X.w) A (setAttr (.ref a) f u) Q E s := by
 obtain ⟨mA, O, r, wi, _, ho⟩ := ins_get I.hok e
 have hz : (fs.map (·.1)).length ≤ sizeLine := by rw [List.length_map, sizeLine_eq]; omega
 refine set_map I.kIn O c.sa c.po n.taker c.hd wi hz fun h' O' sb => h _ ?_
 have hd : ∃ o, h'.get? dx = some o := let ⟨o, _, _, e', _⟩ := O'.ns; ⟨o, e'⟩
 refine I.write (x := a) (e := dx) (by rw [e]; exact True.intro) (.inr ho) (fun b q hb z => (sb.2 b hb).trans z) hd ?_
 refine ⟨by rw [upd_ne O.ne]; exact ho, ?_, O.ne, O'.obj, _, O'.ns, fun g => ?_, fun g hg => ?_⟩
 ·have := length_putF f y fs; omega
 ·show RelO ((putF f y fs).lookup g) (if g = f then some u else mA g)
  rw [lookup_putF]
  by_cases q : g = f
  ·rw [if_pos q, if_pos q]; exact ry
  ·rw [if_neg q, if_neg q]; exact r g
 ·by_cases q : g = f
  ·rw [q]; exact (keys_putF f y fs).1
  ·refine (keys_putF f y fs).2 g (wi g fun z => hg ?_)
   show (if g = f then some u else mA g) = none
   rw [if_neg q]; exact z
theorem Inv.made (I : Inv X pins σ H s) : Inv X pins σ (upd (upd H s.heap.objs.size (.own (s.heap.objs.size + 1))) (s.heap.objs.size + 1) (.ins C s.heap.objs.size []))
  { s with heap := (s.heap.push PySem.W.emptyDict).push (PySem.W.instObj C s.heap.objs.size) } := by
 have e1 : (s.heap.push PySem.W.emptyDict).get? s.heap.objs.size = some PySem.W.emptyDict := Heap.get?_push_size s.heap rfl
 have e2 : ((s.heap.push PySem.W.emptyDict).push (PySem.W.instObj C s.heap.objs.size)).get? (s.heap.objs.size + 1) = some (PySem.W.instObj C s.heap.objs.size) := by
  have := Heap.get?_push_size (s.heap.push PySem.W.emptyDict) (o := PySem.W.instObj C s.heap.objs.size) rfl
  rwa [Heap.size_push] at this
 have e3 : (s.heap.push PySem.W.emptyDict).Ns s.heap.objs.size (fun _ => none) := ⟨PySem.W.emptyDict, #[], _, e1, rfl, (fun e he => absurd he (by simp)), fun _ => rfl⟩
 have I1 := I.laid (a := s.heap.objs.size) (o := .own (s.heap.objs.size + 1)) (h' := s.heap.push PySem.W.emptyDict) (t' := s.toks) (fun b u q => Heap.get?_push_of_some _ q) (Nat.le_refl _) ⟨_, e1⟩
 refine I1.laid (a := s.heap.objs.size + 1) (o := .ins C s.heap.objs.size []) (t' := s.toks) (fun b u q => Heap.get?_push_of_some _ q) (Nat.le_of_eq (Heap.size_push _ _)) ?_
 have ne : s.heap.objs.size ≠ s.heap.objs.size + 1 := Nat.ne_of_lt (Nat.lt_succ_self _)
 refine ⟨by rw [upd_ne ne, upd_same], Nat.zero_le _, ne, e2, fun _ => none, (Heap.Ns1.of_empty e3).at fun o q => Heap.get?_push_of_some _ q, fun _ => True.intro, fun y hy => absurd rfl hy⟩
theorem attr_of {prog : Program} {w : World} {env : Env} {e : Expr} {f : Str} {pos : Pos} {s : Shared} {Q : Value → Shared → Prop} (hb : attributeBase e f env (eval e env) = eval e env)
  (h : wpAny (model prog w) A (eval e env) (fun o s₁ => wpAny (model prog w) A (getAttr o f true) Q E s₁) E s) : wpAny (model prog w) A (eval (.Attribute e f pos) env) Q E s :=
 Attribute_any_ h (by rw [arm_eval_Attribute, hb])
end
def tFld (K : PySem.W.Frag) (ta : TE) (f : Str) : TE := fun σ H Q => ta σ H fun x H1 => ∃ a C dx fs v, x = .ref a ∧ H1 a = some (.ins C dx fs) ∧ Cls K C ∧ NoAttr K C f ∧ fs.lookup f = some v ∧ Q v H1
def sFld (K : PySem.W.Frag) (ta tv : TE) (f : Str) : TS := fun D σ H => tv σ H fun y H1 => ta σ H1 fun x H2 => ∃ a C dx fs, x = .ref a ∧ H2 a = some (.ins C dx fs) ∧ Cls K C ∧ NoAttr K C f ∧ fs.length < 1000 ∧
 D.nx σ (upd H2 a (.ins C dx (putF f y fs)))
section
variable {X : Cx} {o e value : Expr} {f : Str} {pos pos' tpos : Pos} {ta tv : TE}
theorem pe_fld (he : PE X e ta) (hb : attributeBase e f X.env (eval e X.env) = eval e X.env) : PE X (.Attribute e f pos) (tFld X.K ta f) := by
 intro pins s σ H Q I h
 refine attr_of hb (thn (he pins s σ H _ I h) fun u s1 ⟨x, H1, I1, rx, a, C, dx, fs, v, ex, ea, c, n, l, q⟩ => ?_)
 subst ex
 obtain rfl : u = Value.ref a := rx
 exact getattr_ok I1 ea c n l fun u' s2 I2 ru => ⟨v, H1, I2, ru, q⟩
theorem ps_fld (ha : PE X o ta) (hv : PE X value tv) (hs : swapsWith value (some (.Attribute o f pos')) pos.line X.env = pure false) : PS X (.Assign [.Attribute o f pos'] value pos) (sFld X.K ta tv f) := by
 intro pins s σ H D I h
 refine plainObj_wpAny_Assign_Attribute (thn (hv pins s σ H _ I h) fun u s1 ⟨y, H1, I1, ry, q⟩ => thn (ha pins s1 σ H1 _ I1 q) fun ov s2 ⟨x, H2, I2, rx, a, C, dx, fs, ex, ea, c, n, l, q2⟩ => ?_) hs
 subst ex
 obtain rfl : ov = Value.ref a := rx
 exact setattr_ok I2 ea c n l ry fun s3 I3 => ⟨σ, _, I3, q2⟩
end
section
variable {X : Cx} {pins : List (Addr × Obj)} {σ : St} {H : Hp} {s : Shared} {A : Around} {E : Value → Shared → Prop} {Q : Value → Shared → Prop} {c : Value} {b : Bool}
inductive TyOf (K : PySem.W.Frag) (H : Hp) : V → Value → Prop where
 | non : TyOf K H .non (.type "NoneType")
 | bl (x : Bool) : TyOf K H (.bl x) (.type "bool")
 | int (i : Int) : TyOf K H (.int i) (.type "int")
 | str (x : Str) : TyOf K H (.str x) (.type "str")
 | flt (x : UInt64) : TyOf K H (.flt x) (.type "float")
 | lst {a : Addr} {xs : List V} (e : H a = some (.lst xs)) : TyOf K H (.ref a) (.type "list")
 | frz {a : Addr} {o : Obj} {xs : List V} (e : H a = some (.frz o (.lst xs))) : TyOf K H (.ref a) (.type "list")
 | tup {a : Addr} {xs : List V} (e : H a = some (.tup xs)) : TyOf K H (.ref a) (.type "tuple")
 | dK {a : Addr} {kvs : List (Key × V)} (e : H a = some (.dK kvs)) : TyOf K H (.ref a) (.type "dict")
 | dT {a : Addr} {kvs : List (List Key × V)} (e : H a = some (.dT kvs)) : TyOf K H (.ref a) (.type "dict")
 | ins {a C dx : Addr} {fs : List (Str × V)} (e : H a = some (.ins C dx fs)) (cl : Cls K C) (ha : PySem.W.findIn K (.ref C) "__class__" = some (some (.builtin "object.__class__")))
   (hn : PySem.W.specialIn K (.builtin "object.__class__") "__get__" = some (some (.builtin "getset_descriptor.__get__"))) (htk : PySem.W.takesIn K (.builtin "object.__class__") = some true)
   (hm : PySem.W.mroIn K C (.type "object") = some true) : TyOf K H (.ref a) (.ref C)
theorem isinst_ok {x : V} {u t : Value} (I : Inv X pins σ H s) (rx : RelV x u) (ty : TyOf X.K H x t) (e : PySem.W.kitOne X.K t c = some b) (h : ∀ tk, Q (.bool b) { s with toks := tk }) :
  wpAny (model X.prog X.w) A (call (.builtin "isinstance") [u, c]) Q E s := by
 cases ty with
 | non => cases (show u = Value.none from rx); exact PySem.W.kia_one PySem.W.kitx_none I.kIn True.intro e (fun z => nomatch z) h
 | bl y => cases (show u = Value.bool y from rx); exact PySem.W.kia_one PySem.W.kitx_bool I.kIn True.intro e (fun z => nomatch z) h
 | int i => obtain ⟨t, q⟩ := (show ∃ t, u = Value.int i t from rx); cases q; exact PySem.W.kia_one PySem.W.kitx_int I.kIn True.intro e (fun z => nomatch z) h
 | str y => obtain ⟨t, q⟩ := (show ∃ t, u = Value.str y t from rx); cases q; exact PySem.W.kia_one PySem.W.kitx_str I.kIn True.intro e (fun z => nomatch z) h
 | flt y => obtain ⟨t, q⟩ := (show ∃ t, u = Value.float y t from rx); cases q; exact PySem.W.kia_one PySem.W.kitx_float I.kIn True.intro e (fun z => nomatch z) h
 | @lst a xs ea =>
  cases (show u = Value.ref a from rx)
  obtain ⟨_, _, n, _, h1⟩ := (show ObjOk X.prog X.w H s.heap a (.lst xs) from I.hok a _ ea)
  exact PySem.W.kia_one PySem.W.kitx_list I.kIn ⟨_, h1, rfl⟩ e (fun z => nomatch z) h
 | @frz a ob xs ea =>
  cases (show u = Value.ref a from rx)
  obtain ⟨_, _, _, n, _, h1⟩ := (show ObjOk X.prog X.w H s.heap a (.frz ob (.lst xs)) from I.hok a _ ea)
  exact PySem.W.kia_one PySem.W.kitx_list I.kIn ⟨_, h1, rfl⟩ e (fun z => nomatch z) h
 | @tup a xs ea =>
  cases (show u = Value.ref a from rx)
  obtain ⟨_, _, _, p⟩ := (show ObjOk X.prog X.w H s.heap a (.tup xs) from I.hok a _ ea)
  obtain ⟨o, h1, h2, _⟩ := p
  exact PySem.W.kia_one PySem.W.kitx_tuple I.kIn ⟨o, h1, h2⟩ e (fun z => nomatch z) h
 | @dK a kvs ea =>
  cases (show u = Value.ref a from rx)
  obtain ⟨_, _, vs, _, p⟩ := (show ObjOk X.prog X.w H s.heap a (.dK kvs) from I.hok a _ ea)
  obtain ⟨o, es, ep, h1, h2, _⟩ := p
  exact PySem.W.kia_one PySem.W.kitx_dict I.kIn ⟨o, h1, h2.1⟩ e (fun z => nomatch z) h
 | @dT a kvs ea =>
  cases (show u = Value.ref a from rx)
  obtain ⟨_, _, xs, _, o, es, ep, h1, h2, _⟩ := (show ObjOk X.prog X.w H s.heap a (.dT kvs) from I.hok a _ ea)
  exact PySem.W.kia_one PySem.W.kitx_dict I.kIn ⟨o, h1, h2.1⟩ e (fun z => nomatch z) h
 | @ins a C dx fs ea cl ha hn htk hm =>
  cases (show u = Value.ref a from rx)
  obtain ⟨mA, O, _⟩ := ins_get I.hok ea
  obtain ⟨od, J, _⟩ := O.look
  exact PySem.W.kia_one (PySem.W.kitx_own (cl.get _) cl.hd ha hn htk hm) I.kIn J e (fun z => nomatch z) h
end
end L2
namespace L2
open PySem PySem.Spec PyProof.Rows
structure Room (k : Nat) (A : Around) : Prop where
 hd : A.handled = none
 dp : A.depth + 3 * k + 5 < recursionLimit
 un : A.units + 16 * k + 200 < cLine
theorem Room.mono {j k : Nat} {A : Around} (r : Room k A) (h : j ≤ k) : Room j A := ⟨r.hd, by have := r.dp; omega, by have := r.un; omega⟩
theorem Room.deeper {k : Nat} {A : Around} (r : Room (k + 1) A) (env : Env) : Room k (A.deeper env) :=
 ⟨r.hd, by have := r.dp; show A.depth + 1 + 3 * k + 5 < _; omega, by have := r.un; show A.units + 3 + 16 * k + 200 < _; omega⟩
theorem make_depth {A : Around} {C : Addr} {us : List Value} {kw : List (Str × Value)} : (A.under (.builtin "type.__call__" ⟨.ref C :: us, kw⟩)).depth = A.depth + 1 := by
 first | rfl | simp [Around.under, Code.weight, Code.isCreation, Code.isGuard, Code.isCaller, Code.frames, Code.isFrame, guardIds]
theorem make_units {A : Around} {C : Addr} {us : List Value} {kw : List (Str × Value)} : (A.under (.builtin "type.__call__" ⟨.ref C :: us, kw⟩)).units = A.units + 1 := by
 first | rfl | simp [Around.under, Code.cUnits, Code.frames, Code.isFrame]
theorem Room.make {k : Nat} {A : Around} (r : Room (k + 1) A) (C : Addr) (us : List Value) (kw : List (Str × Value)) : Room k (A.under (.builtin "type.__call__" ⟨.ref C :: us, kw⟩)) :=
 ⟨r.hd, by have := r.dp; rw [make_depth]; omega, by have := r.un; rw [make_units]; omega⟩
theorem Room.depth {k : Nat} {A : Around} (r : Room k A) : A.depth < recursionLimit := by have := r.dp; omega
theorem Room.units {k : Nat} {A : Around} (r : Room k A) : A.units + 64 < cLine := by have := r.un; omega
def tNil : TA := fun _ H Q => Q [] H
def tCons (ta : TE) (tr : TA) : TA := fun σ H Q => ta σ H fun x H1 => tr σ H1 fun xs H2 => Q (x :: xs) H2
section
variable {X : Cx} {e : Expr} {es : List Expr} {te : TE} {t : TA} {pos : Pos}
theorem pa_nil : PA X [] tNil := fun _ _ _ _ H Q I h => Calls.spliced_nil ⟨[], H, I, .nil, h⟩
theorem pa_cons (ha : PE X e te) (hr : PA X es t) (hs : starEach (e :: es) X.env = (false, eval e X.env) :: starEach es X.env := by rfl) : PA X (e :: es) (tCons te t) := by
 intro pos pins s σ H Q I h
 rw [hs]
 show wpAny _ _ (spliced ((false, eval e X.env) :: backTo pos (starEach es X.env))) _ _ s
 refine Calls.spliced_cons (thn (ha pins s σ H _ I h) fun u s1 ⟨x, H1, I1, r1, q1⟩ => ?_)
 exact thn (hr pos pins s1 σ H1 _ I1 q1) fun us s2 ⟨xs, H2, I2, r2, q2⟩ => ⟨x :: xs, H2, I2, .cons r1 r2, q2⟩
def tTup (t : TA) : TE := fun σ H Q => t σ H fun xs H1 => xs.length ≤ sizeLine ∧ ∀ p, H1 p = none → Q (.ref p) (upd H1 p (.tup xs))
def tLst (t : TA) : TE := fun σ H Q => t σ H fun xs H1 => xs.length ≤ sizeLine ∧ ∀ p, H1 p = none → Q (.ref p) (upd H1 p (.lst xs))
theorem pe_tup {x1} (h : PA X es t) : PE X (.Tuple es x1 pos) (tTup t) := by
 intro pins s σ H Q I hq
 refine wpAny_Tuple_spliced (thn (h pos pins s σ H _ I hq) fun us s1 ⟨xs, H1, I1, r, z, q⟩ => ⟨by rw [← r.length]; exact z, ?_⟩)
 have hf : H1 s1.heap.objs.size = none := I1.hok.fresh (Nat.le_refl _)
 refine ⟨.ref s1.heap.objs.size, upd H1 s1.heap.objs.size (.tup xs), I1.laid (t' := s1.toks) (fun b u e => Heap.get?_push_of_some _ e) (Nat.le_refl _) ?_, rfl, q _ hf⟩
 exact ⟨z, us, r, ⟨_, Heap.get?_push_size _ rfl, rfl, _, rfl⟩⟩
theorem pe_lst (h : PA X es t) : PE X (.List es pos) (tLst t) := by
 intro pins s σ H Q I hq
 refine wpAny_List_spliced (thn (h pos pins s σ H _ I hq) fun us s1 ⟨xs, H1, I1, r, z, q⟩ => ⟨by rw [← r.length]; exact z, ?_⟩)
 have hf : H1 s1.heap.objs.size = none := I1.hok.fresh (Nat.le_refl _)
 refine ⟨.ref s1.heap.objs.size, upd H1 s1.heap.objs.size (.lst xs), I1.laid (t' := s1.toks) (fun b u e => Heap.get?_push_of_some _ e) (Nat.le_refl _) ?_, rfl, q _ hf⟩
 exact ⟨z, us, 0, r, Heap.get?_push_size _ rfl⟩
end
abbrev Sp := List V → Hp → VK → XK → Prop
abbrev CXT := List Env → Hp → Shared → XK → Value → Shared → Prop
structure Env0 (P : Program) (w : World) (K : PySem.W.Frag) (mg : Str → Option Value) (base : Heap) (A : Around) (outer : List Env) (s : Shared) (H : Hp) : Prop where
 frames : A.frames = some outer
 mod : Mod K mg base
 bs : ∀ b o, base.get? b = some o → s.heap.get? b = some o ∧ H b = none
 bsz : base.objs.size ≤ s.heap.objs.size
 funs : s.heap.FunFrames base outer
 frf : ∀ b ∈ frs outer, H b = none
 hok : HOk P w H s.heap
 bare : AllBare s.gens
def CE (outer : List Env) (P : Program) (w : World) (H : Hp) (s : Shared) (Q : VK) (u : Value) (s' : Shared) : Prop :=
 ∃ v H', s'.os = s.os ∧ AllBare s'.gens ∧ Un (frs outer) [] H H' s.heap s'.heap ∧ HOk P w H' s'.heap ∧ RelV v u ∧ Q v H'
def CR (CX : CXT) (outer : List Env) (P : Program) (w : World) (H : Hp) (s : Shared) (Q : VK) (E : XK) (r : Result) (s' : Shared) : Prop :=
 match r with
 | .ok (.ret u) => CE outer P w H s Q u s'
 | .ok _ => False
 | .error e => CX outer H s E e s'
structure FnOk (P : Program) (w : World) (K : PySem.W.Frag) (mg : Str → Option Value) (base : Heap) (CX : CXT) (k : Nat) (f : Addr) (fd : FuncData) (ps : List Str) (sp : Sp) : Prop where
 len : ∀ vs H Q E, sp vs H Q E → vs.length = ps.length
 run : ∀ (A : Around) (outer : List Env) (s : Shared) (H : Hp) (args : Args) (us : List Value) (vs : List V) (Q : VK) (E : XK), Room k A → Env0 P w K mg base A outer s H → BindsTo s fd args (ps.zip us) → Vals vs us → sp vs H Q E →
  codeAny (model P w) A (.call (.ref f) args) (CR CX outer P w H s Q E) s
theorem Env0.make {P : Program} {w : World} {K : PySem.W.Frag} {mg : Str → Option Value} {base : Heap} {A : Around} {outer : List Env} {s : Shared} {H : Hp} (e : Env0 P w K mg base A outer s H) (C : Addr) (us : List Value) (kw : List (Str × Value)) :
  Env0 P w K mg base (A.under (.builtin "type.__call__" ⟨.ref C :: us, kw⟩)) outer s H := ⟨by first | exact e.frames | (simpa [Around.under, Code.envs, Code.isFrame, pushEnvs] using e.frames), e.mod, e.bs, e.bsz, e.funs, e.frf, e.hok, e.bare⟩
section
variable {X : Cx} {pins : List (Addr × Obj)} {σ : St} {H : Hp} {s s' : Shared}
theorem Inv.env0 (I : Inv X pins σ H s) : Env0 X.prog X.w X.K X.mg X.base X.A X.stack s H :=
 ⟨I.ok.frames, I.ok.mod, I.bs, Nat.le_trans I.ok.bsz I.sz, I.stack, I.stkFree, I.hok, I.bare⟩
theorem Inv.after {Q : VK} {u : Value} (I : Inv X pins σ H s) (h : CE X.stack X.prog X.w H s Q u s') : EP X pins σ Q u s' := by
 obtain ⟨v, H', os, bare, un, hok, r, q⟩ := h
 obtain ⟨hh, g, d, t, os'⟩ := s'
 obtain rfl : os' = s.os := os
 exact ⟨v, H', I.call (h' := hh) (g' := g) (d' := d) (t' := t) (ch := []) un hok bare (fun b z => absurd z (by simp)), r, q⟩
end
def tCall (sp : Sp) (dvs : List V) (E : XK) (t : TA) : TE := fun σ H Q => t σ H fun vs H1 => sp (vs ++ dvs) H1 Q E
def tMake (C : Addr) (sp : Sp) (dvs : List V) (E : XK) (t : TA) : TE := fun σ H Q => t σ H fun vs H1 => ∀ x dx, H1 x = none → H1 dx = none → dx ≠ x →
 sp (.ref x :: (vs ++ dvs)) (upd (upd H1 dx (.own x)) x (.ins C dx [])) (fun v H2 => v = .non ∧ Q (.ref x) H2) E
def Binds (K : PySem.W.Frag) (fd : FuncData) (ps : List Str) (ds : List Value) : Prop :=
 ∀ (s : Shared) (us : List Value), K.In s.heap → (us ++ ds).length = ps.length → BindsTo s fd ⟨us, []⟩ (ps.zip (us ++ ds))
theorem Binds.all {K : PySem.W.Frag} {fd : FuncData} {ps : List Str} (h : ∀ us : List Value, us.length = ps.length → bindArgs fd ⟨us, []⟩ = pure (ps.zip us)) : Binds K fd ps [] := fun s us _ hl => by
 rw [List.append_nil] at hl ⊢
 exact .of_eq (h us hl)
def Passes (CX : CXT) (X : Cx) (E : XK) : Prop := ∀ (pins : List (Addr × Obj)) (σ : St) (H : Hp) (s : Shared) (e : Value) (s' : Shared), Inv X pins σ H s → CX X.stack H s E e s' → X.xe e s'
section
variable {X : Cx} {CX : CXT} {k : Nat} {f C : Addr} {fd : FuncData} {ps : List Str} {sp : Sp} {dvs : List V} {ds : List Value} {E : XK} {x m : Str} {p pos apos : Pos} {e o : Expr} {es : List Expr} {ta : TE} {t : TA}
theorem run_fn {pins : List (Addr × Obj)} {σ : St} {H : Hp} {s : Shared} {Q : VK} {us : List Value} {vs : List V} (F : FnOk X.prog X.w X.K X.mg X.base CX k f fd ps sp) (hr : Room k X.A) (hb : Binds X.K fd ps ds) (hd : Vals dvs ds) (hx : Passes CX X E)
  (I : Inv X pins σ H s) (r : Vals vs us) (h : sp (vs ++ dvs) H Q E) : wpAny (model X.prog X.w) X.A (call (.ref f) us) (EP X pins σ Q) X.xe s := by
 have r2 : Vals (vs ++ dvs) (us ++ ds) := r.append hd
 have hl : (us ++ ds).length = ps.length := by rw [← r2.length]; exact F.len _ _ _ _ h
 refine wpAny_call (codeAny_mono (F.run X.A X.stack s H ⟨us, []⟩ (us ++ ds) (vs ++ dvs) Q E hr I.env0 (hb s us I.kIn hl) r2 h) fun r s' hq => ?_)
 cases r with
 | error e => exact hx pins σ H s e s' I hq
 | ok fl =>
  cases fl with
  | ret u => exact I.after hq
  | next => exact False.elim hq
  | brk => exact False.elim hq
  | cont => exact False.elim hq
theorem pe_call (F : FnOk X.prog X.w X.K X.mg X.base CX k f fd ps sp) (hr : Room k X.A) (hg : Gl X x) (hm : X.mg x = some (.ref f)) (hk : PySem.W.keepIn X.K (.ref f) = true) (hb : Binds X.K fd ps ds) (hd : Vals dvs ds) (hx : Passes CX X E)
  (ha : PA X (e :: es) t) (hdb : (x == ("__debug__" : Str)) = false := by decide) (he : starEach (e :: es) X.env = (false, eval e X.env) :: starEach es X.env := by rfl) (hpl : (backTo pos (starEach es X.env)).any (·.1) = false := by rfl) :
  PE X (.Call (.Name x p) (e :: es) [] pos) (tCall sp dvs E t) := by
 intro pins s σ H Q I h
 refine wpAny_Call_Name_kw (ld_glob I hg hm ?_ hdb)
 refine PySem.W.callWith_K (h₀ := X.base) I.ok.mod.kin hk (thn (ha pos pins s σ H _ I h) fun us s1 ⟨vs, H1, I1, r, q⟩ => ⟨I1.kIn, ?_⟩) he hpl
 exact run_fn F hr hb hd hx I1 r q
structure Mk (K : PySem.W.Frag) (C f : Addr) : Prop where
 makes : PySem.W.makesIn K C = true
 init : PySem.W.findIn K (.ref C) "__init__" = some (some (.ref f))
 fn : PySem.W.isFn K (.ref f) = true
 kp : PySem.W.keepIn K (.ref C) = true
theorem run_make {pins : List (Addr × Obj)} {σ : St} {H : Hp} {s : Shared} {Q : VK} {us : List Value} {vs : List V} (M : Mk X.K C f) (F : FnOk X.prog X.w X.K X.mg X.base CX k f fd ps sp) (hr : Room (k + 1) X.A) (hb : Binds X.K fd ps ds) (hd : Vals dvs ds)
  (hx : Passes CX X E) (I : Inv X pins σ H s) (r : Vals vs us)
  (h : ∀ x dx, H x = none → H dx = none → dx ≠ x → sp (.ref x :: (vs ++ dvs)) (upd (upd H dx (.own x)) x (.ins C dx [])) (fun v H2 => v = .non ∧ Q (.ref x) H2) E) :
  wpAny (model X.prog X.w) X.A (call (.ref C) us) (EP X pins σ Q) X.xe s := by
 have hq := h (s.heap.objs.size + 1) s.heap.objs.size (I.hok.fresh (Nat.le_succ _)) (I.hok.fresh (Nat.le_refl _)) (Nat.ne_of_lt (Nat.lt_succ_self _))
 have I2 := Inv.made (C := C) I
 have r2 : Vals (V.ref (s.heap.objs.size + 1) :: (vs ++ dvs)) (Value.ref (s.heap.objs.size + 1) :: (us ++ ds)) := .cons rfl (r.append hd)
 have hl : (Value.ref (s.heap.objs.size + 1) :: us ++ ds).length = ps.length := by
  have e := r2.length
  rw [F.len _ _ _ _ hq] at e
  exact e.symm
 refine wpAny_call (make_map (f := f) I.kIn M.makes M.init (beq_iff_eq.mp M.fn) (codeAny_mono (F.run _ X.stack _ _ ⟨Value.ref (s.heap.objs.size + 1) :: us, []⟩ (Value.ref (s.heap.objs.size + 1) :: (us ++ ds)) _ _ E (hr.make C us [])
  (I2.env0.make C us []) (hb _ (Value.ref (s.heap.objs.size + 1) :: us) I2.kIn hl) r2 hq) fun r s' hq' => ?_))
 cases r with
 | error e => exact hx pins σ _ _ e s' I2 hq'
 | ok fl =>
  cases fl with
  | ret u =>
   obtain ⟨v, H', I3, rv, ev, q3⟩ := I2.after hq'
   subst ev
   exact ⟨rv, ⟨V.ref (s.heap.objs.size + 1), H', I3, rfl, q3⟩⟩
  | next => exact False.elim hq'
  | brk => exact False.elim hq'
  | cont => exact False.elim hq'
theorem pe_make (M : Mk X.K C f) (F : FnOk X.prog X.w X.K X.mg X.base CX k f fd ps sp) (hr : Room (k + 1) X.A) (hg : Gl X x) (hm : X.mg x = some (.ref C)) (hb : Binds X.K fd ps ds) (hd : Vals dvs ds) (hx : Passes CX X E)
  (ha : PA X (e :: es) t) (hdb : (x == ("__debug__" : Str)) = false := by decide) (he : starEach (e :: es) X.env = (false, eval e X.env) :: starEach es X.env := by rfl) (hpl : (backTo pos (starEach es X.env)).any (·.1) = false := by rfl) :
  PE X (.Call (.Name x p) (e :: es) [] pos) (tMake C sp dvs E t) := by
 intro pins s σ H Q I h
 refine wpAny_Call_Name_kw (ld_glob I hg hm ?_ hdb)
 refine PySem.W.callWith_K (h₀ := X.base) I.ok.mod.kin M.kp (thn (ha pos pins s σ H _ I h) fun us s1 ⟨vs, H1, I1, r, q⟩ => ⟨I1.kIn, ?_⟩) he hpl
 exact run_make M F hr hb hd hx I1 r q
end
section
variable {X : Cx} {CX : CXT} {k : Nat} {f C : Addr} {fd : FuncData} {ps ks : List Str} {sp : Sp} {E : XK} {x m : Str} {p pos apos kpos : Pos} {e o : Expr} {es : List Expr} {kws : List Keyword} {te ta : TE} {t tk : TA} {nm : Option Str}
variable {g : List Value → List Value → List Value} {gV : List V → List V → List V}
end
structure FnScope (N P : List Str) (sc : Scope) : Prop where
 kind : sc.kind = .function
 co : sc.isCoroutine = false
 gen : sc.isGenerator = false
 nd : N.Nodup
 pre : N.take P.length = P
 par : ∀ x ∈ P, sc.names.lookup x = some .local ∨ sc.names.lookup x = some .cell
 nofree : ∀ y ∈ sc.names, y.2 ≠ .free
theorem bindL_out {kindOf : Str → Option NameKind} {x : Str} : ∀ {binds : List (Str × Value)} {m : Str → Option Value}, (∀ v, (x, v) ∉ binds) → bindL kindOf binds m x = m x
 | [], _, _ => rfl
 | (n, v) :: r, m, h => by
  unfold bindL
  rw [bindL_out fun w hw => h w (List.mem_cons_of_mem _ hw)]
  split
  ·have : x ≠ n := by rintro rfl; exact h v List.mem_cons_self
   simp [this]
  ·rfl
theorem bindC_out {kindOf : Str → Option NameKind} {x : Str} : ∀ {binds : List (Str × Value)} {m : Str → Option Value}, (∀ v, (x, v) ∉ binds) → bindC kindOf binds m x = m x
 | [], _, _ => rfl
 | (n, v) :: r, m, h => by
  unfold bindC
  rw [bindC_out fun w hw => h w (List.mem_cons_of_mem _ hw)]
  split
  ·rfl
  ·have : x ≠ n := by rintro rfl; exact h v List.mem_cons_self
   simp [this]
theorem bindL_get {kindOf : Str → Option NameKind} {x : Str} {v : Value} : ∀ {P : List Str} {vs : List Value} {i : Nat} {m : Str → Option Value}, P.Nodup → P[i]? = some x → vs[i]? = some v → kindOf x = some .local →
  bindL kindOf (P.zip vs) m x = some v
 | [], _, _, _, _, h, _, _ => by simp at h
 | _ :: _, [], _, _, _, _, h, _ => by simp at h
 | p :: P, w :: vs, 0, m, nd, h1, h2, hk => by
  simp at h1 h2; subst h1; subst h2
  show bindL kindOf ((p, w) :: P.zip vs) m p = _
  unfold bindL
  rw [bindL_out fun v hv => (List.nodup_cons.mp nd).1 (List.of_mem_zip hv).1, if_pos hk]
  simp
 | p :: P, w :: vs, i + 1, m, nd, h1, h2, hk => by
  show bindL kindOf ((p, w) :: P.zip vs) m x = _
  unfold bindL
  exact bindL_get (i := i) (List.nodup_cons.mp nd).2 (by simpa using h1) (by simpa using h2) hk
theorem bindC_get {kindOf : Str → Option NameKind} {x : Str} {v : Value} : ∀ {P : List Str} {vs : List Value} {i : Nat} {m : Str → Option Value}, P.Nodup → P[i]? = some x → vs[i]? = some v → kindOf x ≠ some .local →
  bindC kindOf (P.zip vs) m x = some v
 | [], _, _, _, _, h, _, _ => by simp at h
 | _ :: _, [], _, _, _, _, h, _ => by simp at h
 | p :: P, w :: vs, 0, m, nd, h1, h2, hk => by
  simp at h1 h2; subst h1; subst h2
  show bindC kindOf ((p, w) :: P.zip vs) m p = _
  unfold bindC
  rw [bindC_out fun v hv => (List.nodup_cons.mp nd).1 (List.of_mem_zip hv).1, if_neg hk]
  simp
 | p :: P, w :: vs, i + 1, m, nd, h1, h2, hk => by
  show bindC kindOf ((p, w) :: P.zip vs) m x = _
  unfold bindC
  exact bindC_get (i := i) (List.nodup_cons.mp nd).2 (by simpa using h1) (by simpa using h2) hk
def start (N : List Str) (vs : List V) : St := vs.map some ++ List.replicate (N.length - vs.length) none
def cxOf (CX : CXT) (P : Program) (w : World) (K : PySem.W.Frag) (mg : Str → Option Value) (base : Heap) (N : List Str) (qual : Str) (scope : Scope) (f : Addr) (cd : Value) (A : Around) (outer : List Env) (s : Shared) (H : Hp) (E : XK) : Cx where
 prog := P
 w := w
 K := K
 mg := mg
 base := base
 A := A.deeper (envOfC qual scope s.heap.objs.size f cd)
 N := N
 s₀ := s
 H₀ := H
 env := envOfC qual scope s.heap.objs.size f cd
 outer := outer
 stack := envOfC qual scope s.heap.objs.size f cd :: outer
 ex := []
 calm := true
 fn := fun _ => true
 pn := []
 xe := fun e s' => wpAny (model P w) (A.deeper (envOfC qual scope s.heap.objs.size f cd)) (leaving (envOfC qual scope s.heap.objs.size f cd) e) (fun _ s'' => CX outer H s E e s'') (fun e' s'' => CX outer H s E e' s'') s'
theorem cell_has {sc : Scope} {n : Nat} {x : Str} (h : sc.names.lookup x = some .cell) : ∃ c, (cellsFrom n sc.names []).lookup x = some c := by
 have q := PySem.W.cellsFrom_some sc.names n [] (.inl h)
 exact Option.isSome_iff_exists.mp q
theorem inv_start {CX : CXT} {P : Program} {w : World} {K : PySem.W.Frag} {mg : Str → Option Value} {base : Heap} {N ps : List Str} {qual : Str} {scope : Scope} {f : Addr} {cd : Value} {A : Around} {outer : List Env} {s s1 : Shared} {H : Hp} {E : XK} {us : List Value} {vs : List V}
  (S : FnScope N ps scope) (hd : A.handled = none) (e0 : Env0 P w K mg base A outer s H) (hl : vs.length = ps.length) (r : Vals vs us)
  (x : InCallC s s.heap.objs.size (bindL (envOfC qual scope s.heap.objs.size f cd).kindOf (ps.zip us) fun _ => none) (cellsFrom (s.heap.objs.size + 1) scope.names []) (bindC (envOfC qual scope s.heap.objs.size f cd).kindOf (ps.zip us) fun _ => none) s1) :
  Inv (cxOf CX P w K mg base N qual scope f cd A outer s H E) [] (start N vs) H s1 := by
 have hpl : ps.length ≤ N.length := by have := congrArg List.length S.pre; rw [List.length_take] at this; omega
 obtain ⟨h1, tk, rfl, hk⟩ := x.done
 have noA : ∀ b : Addr, b ∉ (cxOf CX P w K mg base N qual scope f cd A outer s H E).ex := fun b z => absurd (show b ∈ ([] : List Addr) from z) (by simp)
 refine ⟨⟨e0.mod, S.kind, rfl, rfl, Nat.le_refl _, fun y z c h1 h2 => ?_, fun y hy => ?_, fun y c _ h => ?_, fun _ => hd, Around.frames_deeper e0.frames, .inr ⟨rfl, rfl⟩, fun b z => absurd z (noA b), e0.bs, e0.bsz, fun b _ _ => noA b, fun b z => absurd z (noA b), e0.funs, e0.frf⟩,
  rfl, e0.bare, Un.kept hk, ⟨_, x.toInCall.ns, fun i y v h1 h2 h3 => ?_⟩, fun y c h => ⟨_, x.cell y c h⟩, e0.hok.fresh (Nat.le_refl _), fun y c h => ?_, fun p hp => absurd (show p ∈ ([] : List (Addr × Obj)) from hp) (by simp), e0.hok.kept hk, ?_⟩
 ·exact name_of_addr x.apart (PySem.mem_of_lookup h1) (PySem.mem_of_lookup h2)
 ·have hy : scope.names.lookup y = some .cell ∨ scope.names.lookup y = some .free := hy
  rcases hy with hy | hy
  ·exact cell_has hy
  ·exact absurd rfl (S.nofree _ (PySem.mem_of_lookup hy))
 ·exact Nat.le_of_lt (x.above y c (PySem.mem_of_lookup h))
 ·have hi : i < vs.length := by
   unfold start at h2
   by_cases hi : i < vs.length
   ·exact hi
   ·rw [List.getElem?_append_right (by simpa using hi)] at h2
    rw [List.getElem?_replicate] at h2
    split at h2 <;> cases h2
  have ha : vs[i]? = some v := by
   unfold start at h2
   rw [List.getElem?_append_left (by simpa using hi), List.getElem?_map] at h2
   cases e : vs[i]? with
   | none => rw [e] at h2; cases h2
   | some a => rw [e] at h2; cases h2; rfl
  obtain ⟨u, hu, rv⟩ := r.get ha
  have hp : ps[i]? = some y := by
   rw [← S.pre, List.getElem?_take_of_lt (by omega)]; exact h1
  have ndP : ps.Nodup := by rw [← S.pre]; exact S.nd.sublist (List.take_sublist _ _)
  refine ⟨u, rv, ?_⟩
  rcases S.par y (List.mem_of_getElem? hp) with k | k
  ·exact .inl ⟨k, bindL_get ndP hp hu k⟩
  ·obtain ⟨c, e⟩ := cell_has (n := s.heap.objs.size + 1) k
   refine .inr ⟨.inl k, c, e, ?_⟩
   have q := x.cell y c e
   rw [bindC_get ndP hp hu (by show scope.names.lookup y ≠ _; rw [k]; decide)] at q
   exact q
 ·exact e0.hok.fresh (Nat.le_of_lt (x.above y c (PySem.mem_of_lookup h)))
 ·unfold start
  show _ = N.length
  rw [List.length_append, List.length_map, List.length_replicate]
  omega
theorem fn_of {CX : CXT} {P : Program} {w : World} {K : PySem.W.Frag} {mg : Str → Option Value} {base : Heap} {k : Nat} {f : Addr} {name qual : Str} {params : Arguments} {body : List Stmt} {scope : Scope} {dV kV doc pm cdv ct oc : Value} {an od : Option Addr}
  {osl : Array (Option Value)} {N ps : List Str} {sp : Sp} (lk : K.lookup f = some ⟨oc, od, .func (PySem.W.fnOf name qual params body scope dV kV doc pm an cdv ct), osl⟩) (hcd : PySem.W.codeIn K cdv qual = true) (S : FnScope N ps scope)
  (len : ∀ vs H Q E, sp vs H Q E → vs.length = ps.length)
  (hbody : ∀ (A : Around) (outer : List Env) (s : Shared) (H : Hp) (vs : List V) (Q : VK) (E : XK), Room k (A.deeper (envOfC qual scope s.heap.objs.size f cdv)) → sp vs H Q E →
   ∃ t, PSs (cxOf CX P w K mg base N qual scope f cdv A outer s H E) body t ∧ t { nx := fun _ H' => Q .non H', rt := Q } (start N vs) H) :
  FnOk P w K mg base CX (k + 1) f (PySem.W.fnOf name qual params body scope dV kV doc pm an cdv ct) ps sp := by
 refine ⟨len, fun A outer s H args us vs Q E hr e0 hb r hsp => ?_⟩
 have hl := len _ _ _ _ hsp
 have KX : K.In s.heap := e0.mod.kin.keeps fun b o e => (e0.bs b o e).1
 have lim : s.heap.NoLimit := e0.mod.nolimit.keeps fun b o e => (e0.bs b o e).1
 have hkind : ∀ y ∈ ps.zip us, scope.names.lookup y.1 = some .local ∨ (scope.names.lookup y.1 = some .cell ∧ ((cellsFrom (s.heap.objs.size + 1) scope.names []).lookup y.1).isSome = true) := fun ⟨n, v⟩ hy => by
  rcases S.par n (List.of_mem_zip hy).1 with q | q
  ·exact .inl q
  ·exact .inr ⟨q, PySem.W.cellsFrom_some _ _ _ (.inl q)⟩
 refine codeAny_call_function hr.depth (KX _ _ lk) rfl S.co S.gen rfl (PySem.W.codeRec_of KX hcd) (hb _ _ _ _ ?_)
 refine wpAny_newFunctionEnv_cells S.kind hkind fun env he s1 x => ?_
 subst he
 refine ⟨lim.keeps x.toInCall.keep, codeAny_func ?_⟩
 obtain ⟨t, ht, hq⟩ := hbody A outer s H vs Q E (hr.deeper _) hsp
 have I : Inv (cxOf CX P w K mg base N qual scope f cdv A outer s H E) [] (start N vs) H s1 := inv_start S hr.hd e0 hl r x
 refine wpAny_mono (ht [] s1 (start N vs) H _ I hq) (fun fl s' hs => ?_) fun e s' hs => hs
 have fin : ∀ {σ' : St} {H' : Hp} {v : V} {u : Value}, Inv (cxOf CX P w K mg base N qual scope f cdv A outer s H E) [] σ' H' s' → RelV v u → Q v H' → CE outer P w H s Q u s' :=
  fun {σ' H' v u} J rv q => ⟨v, H', J.os, J.bare, J.base, J.hok, rv, q⟩
 cases fl with
 | ret u =>
  obtain ⟨v, σ', H', J, rv, q⟩ := hs
  exact fin J rv q
 | next =>
  obtain ⟨σ', H', J, q⟩ := hs
  exact fin (v := V.non) (u := Value.none) J rfl q
 | brk =>
  obtain ⟨_, _, _, q⟩ := hs
  exact False.elim q
 | cont =>
  obtain ⟨_, _, _, q⟩ := hs
  exact False.elim q
end L2
namespace L2
open PySem PySem.Spec PyProof.Rows
section
variable {X : Cx} {x : Str} {p pos : Pos} {e : Expr} {es : List Expr} {t : TA} {id T : String} {r : List V → Hp → VK → Prop}
def tCB (r : List V → Hp → VK → Prop) (t : TA) : TE := fun σ H Q => t σ H fun vs H1 => r vs H1 Q
theorem pe_callB (hc : CallR X (.builtin id) r) (hg : Gl X x) (hm : X.mg x = none) (hv : bootBuiltins x = some (.builtin id)) (ha : PA X (e :: es) t) (hn : x ≠ "__name__" := by decide) (hdb : (x == ("__debug__" : Str)) = false := by decide)
  (he : starEach (e :: es) X.env = (false, eval e X.env) :: starEach es X.env := by rfl) (hpl : (backTo pos (starEach es X.env)).any (·.1) = false := by rfl) : PE X (.Call (.Name x p) (e :: es) [] pos) (tCB r t) := by
 intro pins s σ H Q I h
 refine wpAny_Call_Name_kw (ld_blt I hg hm hv ?_ hn hdb)
 exact PyProof.Rows.callWith_builtin1 (thn (ha pos pins s σ H _ I h) fun us s1 ⟨vs, H1, I1, r1, q1⟩ => hc pins s1 σ H1 vs us Q I1 r1 q1) he hpl
theorem pe_callTy (hc : CallR X (.type T) r) (hg : Gl X x) (hm : X.mg x = none) (hv : bootBuiltins x = some (.type T)) (ha : PA X (e :: es) t) (hn : x ≠ "__name__" := by decide) (hdb : (x == ("__debug__" : Str)) = false := by decide)
  (he : starEach (e :: es) X.env = (false, eval e X.env) :: starEach es X.env := by rfl) (hpl : (backTo pos (starEach es X.env)).any (·.1) = false := by rfl) : PE X (.Call (.Name x p) (e :: es) [] pos) (tCB r t) := by
 intro pins s σ H Q I h
 refine wpAny_Call_Name_kw (ld_blt I hg hm hv ?_ hn hdb)
 exact PyProof.Rows.callWith_type1 (thn (ha pos pins s σ H _ I h) fun us s1 ⟨vs, H1, I1, r1, q1⟩ => hc pins s1 σ H1 vs us Q I1 r1 q1) he hpl
end
end L2
namespace HT
open PySem PyProof.Rows
section
open PySem.SeqAt
open PySem.AutoSeq1 (wpAny_loadPart')
open PySem.MeetsSeq PySem.MeetsSeq2 PySem.MeetsSeq3
end
section
variable {prog : Program} {w : World} {A : Around} {E : Value → Shared → Prop} {s : Shared}
def sIx (n d : Nat) : Option Int → Nat
 | none => d
 | some v => if v < 0 then (v + (n : Int)).toNat else min v.toNat n
theorem sIx_none (n d : Nat) : sIx n d none = d := rfl
theorem sIx_nat (n d k : Nat) : sIx n d (some (k : Int)) = min k n := by
 show (if (k : Int) < 0 then ((k : Int) + (n : Int)).toNat else min (k : Int).toNat n) = min k n
 rw [if_neg (by omega), Int.toNat_natCast]
end
end HT
namespace L2
open PySem PySem.Spec PyProof.Rows
abbrev TO := St → Hp → (Option Int → Hp → Prop) → Prop
def PO (X : Cx) (e : Option Expr) (t : TO) : Prop :=
 ∀ (pins : List (Addr × Obj)) (s : Shared) (σ : St) (H : Hp) (Q : Option Int → Hp → Prop), Inv X pins σ H s → t σ H Q →
  wpAny (model X.prog X.w) X.A (evalPart e X.env) (fun u s' => ∃ o H', Inv X pins σ H' s' ∧ IsPart u o ∧ Q o H') X.xe s
def tNoPart : TO := fun _ H Q => Q none H
def tPart (t : TE) : TO := fun σ H Q => t σ H fun x H1 => ∃ i, x = .int i ∧ Q (some i) H1
section
variable {X : Cx} {e : Expr} {te : TE} {lo hi : Option Expr} {tl th : TO} {pos p2 : Pos}
theorem po_none : PO X none tNoPart := by
 intro pins s σ H Q I h
 rw [evalPart_none]
 exact wpAny_pure ⟨none, H, I, .none, h⟩
theorem po_some (h : PE X e te) : PO X (some e) (tPart te) := by
 intro pins s σ H Q I hw
 rw [evalPart_some]
 refine thn (h pins s σ H _ I hw) fun u s1 ⟨x, H1, I1, r1, q1⟩ => ?_
 obtain ⟨i, rfl, q⟩ := q1
 obtain ⟨t, rfl⟩ := r1
 exact ⟨some i, H1, I1, .int i t, q⟩
def SlR (X : Cx) (r : V → Option Int → Option Int → Hp → VK → Prop) : Prop :=
 ∀ (pins : List (Addr × Obj)) (s : Shared) (σ : St) (H : Hp) (x : V) (v vl vu : Value) (lo hi : Option Int) (sl : Addr) (Q : VK), Inv X pins σ H s → RelV x v → s.heap.IsSliceOf sl vl vu .none → IsPart vl lo → IsPart vu hi → r x lo hi H Q →
  ∃ T id, typeLookup (.type T) "__getitem__" = pure (some (.builtin id)) ∧ s.TypeIs v T ∧ wpAny (model X.prog X.w) X.A (getItem v (.ref sl)) (EP X pins σ Q) X.xe s
def tSl (r : V → Option Int → Option Int → Hp → VK → Prop) (te : TE) (tl th : TO) : TE := fun σ H Q => te σ H fun x H1 => tl σ H1 fun l H2 => th σ H2 fun u H3 => r x l u H3 Q
theorem pe_slice {r : V → Option Int → Option Int → Hp → VK → Prop} (hr : SlR X r) (he : PE X e te) (hl : PO X lo tl) (hu : PO X hi th) : PE X (.Subscript e (.Slice lo hi none p2) pos) (tSl r te tl th) := by
 intro pins s σ H Q I h
 refine Subscript_ (thn (he pins s σ H _ I h) fun v s1 ⟨x, H1, I1, r1, q1⟩ => ?_)
 refine wpAny_Slice (thn (hl pins s1 σ H1 _ I1 q1) fun vl s2 ⟨l, H2, I2, pl, q2⟩ => thn (hu pins s2 σ H2 _ I2 q2) fun vu s3 ⟨u, H3, I3, pu, q3⟩ => ?_)
 rw [evalPart_none]
 refine wpAny_pure ?_
 have I4 : Inv X pins σ H3 { s3 with heap := s3.heap.push { cls := .type "slice", data := .fields #[vl, vu, .none] } } := I3.kept (t' := s3.toks) fun b ob q => Heap.get?_push_of_some _ q
 obtain ⟨T, id, hT, ht, hg⟩ := hr pins { s3 with heap := s3.heap.push { cls := .type "slice", data := .fields #[vl, vu, .none] } } σ H3 x v vl vu l u s3.heap.objs.size Q I4 r1 (Heap.IsSliceOf.new ..) pl pu q3
 show wpAny (model X.prog X.w) X.A (subscriptTail e (.Slice lo hi none p2) v (.ref s3.heap.objs.size)) (EP X pins σ Q) X.xe { s3 with heap := s3.heap.push { cls := .type "slice", data := .fields #[vl, vu, .none] } }
 exact tail_any (ops := [.ref s3.heap.objs.size, v]) ht hT hg (by with_unfolding_all rfl)
def cutV (xs : List V) (lo hi : Option Int) : List V := (xs.drop (HT.sIx xs.length 0 lo)).take (HT.sIx xs.length xs.length hi - HT.sIx xs.length 0 lo)
theorem cutV_length (xs : List V) (lo hi : Option Int) : (cutV xs lo hi).length ≤ xs.length := by
 unfold cutV
 rw [List.length_take, List.length_drop]
 omega
end
end L2
namespace L2
open PySem PySem.Spec PyProof.Rows
def ixN (n : Nat) (i : Int) : Option Nat := if 0 ≤ i then (if i < n then some i.toNat else none) else if -(n : Int) ≤ i then some (i + n).toNat else none
def atI {α : Type} (xs : List α) (i : Int) : Option α := (ixN xs.length i).bind fun j => xs[j]?
theorem ixN_seq {n : Nat} {i : Int} {j : Nat} (h : ixN n i = some j) : seqIndex? i n = some j ∧ j < n ∧ -(n : Int) ≤ i ∧ i < n := by
 unfold ixN at h
 by_cases h0 : 0 ≤ i
 ·rw [if_pos h0] at h
  by_cases h1 : i < n
  ·rw [if_pos h1] at h
   have e : i.toNat = j := Option.some.inj h
   exact ⟨by rw [seqIndex_of h0 h1, e], by omega, by omega, h1⟩
  ·rw [if_neg h1] at h; cases h
 ·rw [if_neg h0] at h
  by_cases h1 : -(n : Int) ≤ i
  ·rw [if_pos h1] at h
   have e : (i + n).toNat = j := Option.some.inj h
   exact ⟨by rw [seqIndex_neg (by omega) h1, e], by omega, h1, by omega⟩
  ·rw [if_neg h1] at h; cases h
theorem atI_get {α : Type} {xs : List α} {i : Int} {v : α} (h : atI xs i = some v) : ∃ j, seqIndex? i xs.length = some j ∧ xs[j]? = some v ∧ j < xs.length ∧ -(xs.length : Int) ≤ i ∧ i < xs.length := by
 unfold atI at h
 cases e : ixN xs.length i with
 | none => rw [e] at h; cases h
 | some j =>
  rw [e] at h
  obtain ⟨h1, h2, h3, h4⟩ := ixN_seq e
  exact ⟨j, h1, h, h2, h3, h4⟩
theorem atI_nat {α : Type} {xs : List α} {j : Nat} {v : α} (h : xs[j]? = some v) : atI xs (j : Int) = some v := by
 have hj : j < xs.length := (List.getElem?_eq_some_iff.mp h).1
 have e : ixN xs.length (j : Int) = some j := by
  unfold ixN
  rw [if_pos (by omega), if_pos (by omega)]; simp
 unfold atI; rw [e]; exact h
def PlainIx (b : Expr) : Prop := ∀ o i, subscripted b false o i = operate [o, i] (getItem o i)
def IxR (X : Cx) (r : R2) : Prop :=
 ∀ (value slice : Expr) (pins : List (Addr × Obj)) (s : Shared) (σ : St) (H : Hp) (x y : V) (v u : Value) (Q : VK), Inv X pins σ H s → RelV x v → RelV y u → r x y H Q →
  subscripted slice false v u = operate [v, u] (getItem v u) → wpAny (model X.prog X.w) X.A (subscriptTail value slice v u) (EP X pins σ Q) X.xe s
def MtR (X : Cx) (id : String) (r : V → List V → Hp → VK → Prop) : Prop :=
 ∀ (pins : List (Addr × Obj)) (s : Shared) (σ : St) (H : Hp) (x : V) (xs : List V) (v : Value) (us : List Value) (Q : VK), Inv X pins σ H s → RelV x v → Vals xs us → r x xs H Q →
  wpAny (model X.prog X.w) X.A (call (.builtin id) (v :: us)) (EP X pins σ Q) X.xe s
section
variable {X : Cx} {a b : Expr} {ta tb : TE} {pos : Pos}
theorem pe_ix {r : R2} (hr : IxR X r) (ha : PE X a ta) (hb : PE X b tb) (hs : PlainIx b) : PE X (.Subscript a b pos) (tOp r ta tb) := by
 intro pins s σ H Q I h
 exact Subscript_ (binT ha hb I h fun v u s2 x y H2 I2 rx ry q => hr a b pins s2 σ H2 x y v u Q I2 rx ry q (hs _ _))
def rIxL (K : PySem.W.Frag) : R2 := fun x y H Q => ∃ p xs i v, x = .ref p ∧ y = .int i ∧ SqL K H p xs ∧ atI xs i = some v ∧ Q v H
def rIxT (K : PySem.W.Frag) : R2 := fun x y H Q => ∃ p xs i v, x = .ref p ∧ y = .int i ∧ SqT K H p xs ∧ atI xs i = some v ∧ Q v H
theorem ix_list : IxR X (rIxL X.K) := by
 intro value slice pins s σ H x y v u Q I rx ry h hs
 obtain ⟨p, xs, i, z, rfl, rfl, hq, he, q⟩ := h
 cases rx
 obtain ⟨t, rfl⟩ := ry
 obtain ⟨its, r, pl, hz⟩ := I.list hq
 obtain ⟨j, h1, h2, h3, h4, h5⟩ := atI_get he
 obtain ⟨w, ew, rw'⟩ := r.get h2
 have hl := r.length
 have hn := line63
 have fin : EP X pins σ Q w s := ⟨z, H, I, rw', q⟩
 by_cases h0 : 0 ≤ i
 ·have hj : i.toNat = j := by
   rw [seqIndex_of h0 h5] at h1
   exact Option.some.inj h1
  exact item_listR pl.isList h0 (by omega) (by rw [hj]; simpa using ew) fin hs
 ·have hj : (i + (its.toArray.size : Int)).toNat = j := by
   rw [seqIndex_neg (by omega) h4] at h1
   rw [List.size_toArray, ← hl]
   exact Option.some.inj h1
  exact subscriptTail_builtinR (x := w) pl.isList.typeIs slot_list_getitem.lookup
   (wpAny_getItem_list_neg (Q := fun r s' => r = w ∧ EP X pins σ Q r s') pl.isList (by omega) (by rw [List.size_toArray] <;> omega) (by omega) (by rw [hj]; simpa using ew) ⟨rfl, fin⟩) hs
theorem ix_tup : IxR X (rIxT X.K) := by
 intro value slice pins s σ H x y v u Q I rx ry h hs
 obtain ⟨p, xs, i, z, rfl, rfl, hq, he, q⟩ := h
 cases rx
 obtain ⟨t, rfl⟩ := ry
 obtain ⟨its, r, pl, hz⟩ := I.tuple hq
 obtain ⟨j, h1, h2, h3, h4, h5⟩ := atI_get he
 obtain ⟨w, ew, rw'⟩ := r.get h2
 have hl := r.length
 have hn := line63
 have fin : EP X pins σ Q w s := ⟨z, H, I, rw', q⟩
 exact subscriptTail_builtinR (x := w) pl.typeIs slot_tuple_getitem.lookup
  (getItem_tuple (j := j) (Q := fun r s' => r = w ∧ EP X pins σ Q r s') pl (by omega) (by omega) (by rw [List.size_toArray, ← hl]; exact h1) (by simpa using ew) ⟨rfl, fin⟩) hs
theorem mapSeq_set (its : List Value) (n j : Nat) (u : Value) : Obj.mapSeq (·.setIfInBounds j u) { cls := .type "list", data := .seq its.toArray n } = { cls := .type "list", data := .seq (its.set j u).toArray n } := by
 simp [Obj.mapSeq]
theorem Inv.lst {pins : List (Addr × Obj)} {σ : St} {H : Hp} {s : Shared} {p : Addr} {xs : List V} (I : Inv X pins σ H s) (h : H p = some (.lst xs)) :
  ∃ (its : List Value) (n : Nat), Vals xs its ∧ s.heap.get? p = some { cls := .type "list", data := .seq its.toArray n } ∧ xs.length ≤ sizeLine := by
 obtain ⟨z, its, n, r, e⟩ := I.hok p _ h
 exact ⟨its, n, r, e, z⟩
theorem Inv.lstUpd {pins : List (Addr × Obj)} {σ : St} {H : Hp} {s : Shared} {p : Addr} {xs ys : List V} {its its' : List Value} {n n' : Nat} {f : Obj → Obj} (I : Inv X pins σ H s) (h : H p = some (.lst xs))
  (ho : s.heap.get? p = some { cls := .type "list", data := .seq its.toArray n }) (hf : f { cls := .type "list", data := .seq its.toArray n } = { cls := .type "list", data := .seq its'.toArray n' }) (r : Vals ys its') (hz : ys.length ≤ sizeLine) (t : Nat) :
  Inv X pins σ (upd H p (.lst ys)) { s with heap := s.heap.update p f, toks := t } := by
 have e : (s.heap.update p f).get? p = some { cls := .type "list", data := .seq its'.toArray n' } := by
  rw [Heap.get?_update_self f ho (by rw [hf] <;> rfl), hf]
 refine I.write (x := p) (e := p) (by rw [h]; trivial) (.inl rfl) (fun b u hb q => (Heap.get?_update_other _ _ (Ne.symm hb)).trans q) ⟨_, e⟩ ?_
 exact ⟨hz, its', n', r, e⟩
def rSetL : V → V → V → Hp → (Hp → Prop) → Prop := fun o i v H Q => ∃ p xs k j, o = .ref p ∧ i = .int k ∧ H p = some (.lst xs) ∧ ixN xs.length k = some j ∧ Q (upd H p (.lst (xs.set j v)))
theorem set_list : PSet X rSetL := by
 intro pins s σ H o i v ov iv u Q I ro ri rv h
 obtain ⟨p, xs, k, j, rfl, rfl, hp, hj, q⟩ := h
 cases ro
 obtain ⟨t, rfl⟩ := ri
 obtain ⟨its, n, r, ho, hz⟩ := I.lst hp
 obtain ⟨h1, h2, h3, h4⟩ := ixN_seq hj
 have hl := r.length
 have hn := line63
 have I' : Inv X pins σ (upd H p (.lst (xs.set j v))) { s with heap := s.heap.update p (Obj.mapSeq (·.setIfInBounds j u)) } :=
  I.lstUpd hp ho (mapSeq_set its n j u) (r.set rv j) (by rw [List.length_set]; exact hz) s.toks
 by_cases h0 : 0 ≤ k
 ·have hk : k.toNat = j := by
   rw [seqIndex_of h0 h4] at h1
   exact Option.some.inj h1
  exact PySem.W.ki_setAt ho h0 (by omega) (by rw [List.size_toArray, ← hl]; exact h4) (by rw [hk]; exact ⟨_, I', q⟩)
 ·have hk : (k + (its.toArray.size : Int)).toNat = j := by
   rw [seqIndex_neg (by omega) h3] at h1
   rw [List.size_toArray, ← hl]
   exact Option.some.inj h1
  exact PySem.W.ki_setBack ho (by omega) (by rw [List.size_toArray, ← hl]; exact h3) (by omega) (by rw [hk]; exact ⟨_, I', q⟩)
theorem slice_bounds (lo hi : Option Int) (n : Nat) : (sliceBounds lo hi none n).1 = ((HT.sIx n 0 lo : Nat) : Int) ∧ (sliceBounds lo hi none n).2.1 = ((HT.sIx n n hi : Nat) : Int) ∧ (sliceBounds lo hi none n).2.2 = 1 := by
 refine ⟨?_, ?_, rfl⟩
 ·cases lo with
  | none => simp [sliceBounds, HT.sIx]
  | some i =>
   simp only [sliceBounds, HT.sIx, Option.getD_none, show (1 : Int) > 0 by decide, if_true]
   by_cases h : i < 0
   ·simp only [h, if_true] <;> omega
   ·simp only [h, if_false] <;> omega
 ·cases hi with
  | none => simp [sliceBounds, HT.sIx]
  | some i =>
   simp only [sliceBounds, HT.sIx, Option.getD_none, show (1 : Int) > 0 by decide, if_true]
   by_cases h : i < 0
   ·simp only [h, if_true] <;> omega
   ·simp only [h, if_false] <;> omega
theorem slicePick_cut (its : List Value) (lo hi : Option Int) : slicePick its.toArray lo hi none = ((its.drop (HT.sIx its.length 0 lo)).take (HT.sIx its.length its.length hi - HT.sIx its.length 0 lo)).toArray := by
 obtain ⟨h1, h2, h3⟩ := slice_bounds lo hi its.toArray.size
 unfold slicePick
 rw [h1, h2, h3]
 simp only [sliceRange_one, pick_run, List.size_toArray] <;> rfl
def rSlL (K : PySem.W.Frag) : V → Option Int → Option Int → Hp → VK → Prop := fun x lo hi H Q => ∃ a xs, x = .ref a ∧ SqL K H a xs ∧ ∀ p, H p = none → Q (.ref p) (upd H p (.lst (cutV xs lo hi)))
theorem sl_list : SlR X (rSlL X.K) := by
 intro pins s σ H x v vl vu lo hi sl Q I rx hs pl pu h
 obtain ⟨a, xs, rfl, hx, q⟩ := h
 cases rx
 obtain ⟨its, r, ht, hz⟩ := I.list hx
 have hlen := r.length
 refine ⟨"list", _, slot_list_getitem.lookup, ht.isList.typeIs, ?_⟩
 refine wpAny_getItem_list_slice ht.isList hs pl pu .none (by simp) ?_ (by rw [List.size_toArray] <;> omega)
 rw [slicePick_cut, ← hlen]
 refine ⟨.ref s.heap.objs.size, _, I.laid (t' := s.toks) (o := .lst (cutV xs lo hi)) (fun b ob q => Heap.get?_push_of_some _ q) (Nat.le_refl _) ?_, rfl, q _ (I.hok.fresh (Nat.le_refl _))⟩
 exact ⟨Nat.le_trans (cutV_length xs lo hi) hz, _, 0, (r.drop (HT.sIx xs.length 0 lo)).take (HT.sIx xs.length xs.length hi - HT.sIx xs.length 0 lo), Heap.get?_push_size _ rfl⟩
theorem call_len_seq : CallR X (.builtin "len") (fun xs H Q => ∃ p ys, xs = [.ref p] ∧ (SqL X.K H p ys ∨ SqT X.K H p ys) ∧ Q (.int ys.length) H) := by
 intro pins s σ H xs us Q I r h
 obtain ⟨p, ys, rfl, hq, q⟩ := h
 obtain ⟨u, rfl, rx⟩ := vals1 r
 cases rx
 have hn := line63
 rcases hq with hq | hq
 ·obtain ⟨its, r', pl, hz⟩ := I.list hq
  have hlen := r'.length
  exact Calls.call_len_list pl.isList (by simp only [List.size_toArray] <;> omega) ⟨.int ys.length, H, I.tok _, ⟨s.toks + 1, by rw [List.size_toArray, hlen]⟩, q⟩
 ·obtain ⟨its, r', pl, hz⟩ := I.tuple hq
  have hlen := r'.length
  exact len_tuple pl (by simp only [List.size_toArray] <;> omega) ⟨.int ys.length, H, I.tok _, ⟨s.toks + 1, by rw [List.size_toArray, hlen]⟩, q⟩
theorem call_list_of : CallR X (.type "list") (fun xs H Q => ∃ p ys, xs = [.ref p] ∧ (SqL X.K H p ys ∨ SqT X.K H p ys) ∧ ∀ l, H l = none → Q (.ref l) (upd H l (.lst ys))) := by
 intro pins s σ H xs us Q I r h
 obtain ⟨p, ys, rfl, hq, q⟩ := h
 obtain ⟨u, rfl, rx⟩ := vals1 r
 cases rx
 have fin : ∀ (its : List Value), Vals ys its → ys.length ≤ sizeLine → ∀ (h' : Heap) (c' : Nat), (∀ b o', s.heap.get? b = some o' → h'.get? b = some o') →
   h'.get? s.heap.objs.size = some { cls := .type "list", dict := none, data := .seq its.toArray c', slots := #[] } → EP X pins σ Q (.ref s.heap.objs.size) { s with heap := h' } := fun its r' hz h' c' kp e =>
  ⟨.ref s.heap.objs.size, _, I.laid (t' := s.toks) kp (Nat.le_refl _) (show ObjOk X.prog X.w _ h' _ (.lst ys) from ⟨hz, its, c', r', e⟩), rfl, q _ (I.hok.fresh (Nat.le_refl _))⟩
 rcases hq with hq | hq
 ·obtain ⟨its, r', pl, hz⟩ := I.list hq
  have hlen := r'.length
  obtain ⟨o, ho, hc, n, hd⟩ := pl.isList
  exact call_list_seq p (.inl rfl) ho hc hd (fun h' c' kp e => fin its r' hz h' c' kp e) (by simp only [List.size_toArray] <;> omega)
 ·obtain ⟨its, r', pl, hz⟩ := I.tuple hq
  have hlen := r'.length
  obtain ⟨o, ho, hc, n, hd⟩ := pl
  exact call_list_seq p (.inr rfl) ho hc hd (fun h' c' kp e => fin its r' hz h' c' kp e) (by simp only [List.size_toArray] <;> omega)
theorem call_tuple_of : CallR X (.type "tuple") (fun xs H Q => ∃ p ys, xs = [.ref p] ∧ ((SqL X.K H p ys ∧ ∀ l, H l = none → Q (.ref l) (upd H l (.tup ys))) ∨ (SqT X.K H p ys ∧ Q (.ref p) H))) := by
 intro pins s σ H xs us Q I r h
 obtain ⟨p, ys, rfl, h⟩ := h
 obtain ⟨u, rfl, rx⟩ := vals1 r
 cases rx
 rcases h with ⟨hq, q⟩ | ⟨hq, q⟩
 ·obtain ⟨its, r', pl, hz⟩ := I.list hq
  have hlen := r'.length
  refine call_tuple_list pl.isList (fun h' kp => ?_) (by simp only [List.size_toArray] <;> omega)
  have I1 : Inv X pins σ H { s with heap := h' } := I.kept (t' := s.toks) kp
  have I2 : Inv X pins σ (upd H h'.objs.size (.tup ys)) { s with heap := h'.push { cls := .type "tuple", data := .seq its.toArray } } :=
   I1.laid (t' := s.toks) (fun b o e => Heap.get?_push_of_some _ e) (Nat.le_refl _) (show ObjOk X.prog X.w _ _ _ (.tup ys) from ⟨hz, its, r', IsTup.new _ _⟩)
  exact ⟨.ref h'.objs.size, _, I2, rfl, q _ (I1.hok.fresh (Nat.le_refl _))⟩
 ·obtain ⟨its, r', pl, hz⟩ := I.tuple hq
  exact call_tuple_same pl ⟨.ref p, H, I, rfl, q⟩
def tyV (K : PySem.W.Frag) (T : String) (x : V) (H : Hp) : Prop := match x with
 | .str _ => T = "str"
 | .int _ => T = "int"
 | .ref p => (T = "list" ∧ ∃ xs, SqL K H p xs) ∨ (T = "tuple" ∧ ∃ o, K.lookup p = some o ∧ o.cls = .type "tuple" ∧ o.dict = none) ∨
   (T = "dict" ∧ ((∃ kvs, H p = some (.dK kvs)) ∨ ∃ kvs, H p = some (.dT kvs))) ∨ (T = "set" ∧ ∃ S n, H p = some (.set S n))
 | _ => False
theorem tyV_is {pins : List (Addr × Obj)} {σ : St} {H : Hp} {s : Shared} {T : String} {x : V} {v : Value} (I : Inv X pins σ H s) (r : RelV x v) (ty : tyV X.K T x H) :
  s.TypeIs v T ∧ ∀ a, v = .ref a → ∃ ob, s.heap.get? a = some ob ∧ ob.dict = none := by
 cases x with
 | str z =>
  obtain ⟨t, rfl⟩ := r
  cases (show T = "str" from ty)
  exact ⟨typeIs_str s z t, fun _ e => nomatch e⟩
 | int i =>
  obtain ⟨t, rfl⟩ := r
  cases (show T = "int" from ty)
  exact ⟨typeIs_int s i t, fun _ e => nomatch e⟩
 | ref p =>
  cases r
  rcases ty with ⟨rfl, xs, hq⟩ | ⟨rfl, o, hk, hc, hd⟩ | ⟨rfl, hk⟩ | ⟨rfl, S, n, hk⟩
  ·obtain ⟨its, _, pl, _⟩ := I.list hq
   refine ⟨pl.isList.typeIs, fun a e => ?_⟩
   cases e
   obtain ⟨o, n, e, c, hd, _⟩ := pl
   exact ⟨o, e, hd⟩
  ·refine ⟨⟨o, I.kIn p o hk, hc⟩, fun a e => ?_⟩
   cases e
   exact ⟨o, I.kIn _ o hk, hd⟩
  ·have z : ∃ o, s.heap.get? p = some o ∧ o.ExactDict := by
    rcases hk with ⟨kvs, hk⟩ | ⟨kvs, hk⟩
    ·obtain ⟨_, _, _, _, o, _, _, e, ex, _⟩ := I.hok p _ hk
     exact ⟨o, e, ex⟩
    ·obtain ⟨_, _, _, _, o, _, _, e, ex, _⟩ := I.hok p _ hk
     exact ⟨o, e, ex⟩
   obtain ⟨o, e, ex⟩ := z
   refine ⟨⟨o, e, ex.1⟩, fun a e2 => ?_⟩
   cases e2
   exact ⟨o, e, ex.2.1⟩
  ·obtain ⟨o, _, _, _, e, ex, _⟩ := I.hok p _ hk
   refine ⟨⟨o, e, ex.1⟩, fun a e2 => ?_⟩
   cases e2
   exact ⟨o, e, ex.2.1⟩
 | _ => exact False.elim ty
def tBM0 (K : PySem.W.Frag) (T : String) (r : V → List V → Hp → VK → Prop) (to : TE) : TE := fun σ H Q => to σ H fun x H1 => tyV K T x H1 ∧ r x [] H1 Q
def tBM (K : PySem.W.Frag) (T : String) (r : V → List V → Hp → VK → Prop) (to : TE) (t : TA) : TE := fun σ H Q => to σ H fun x H1 => tyV K T x H1 ∧ t σ H1 fun xs H2 => r x xs H2 Q
variable {o e : Expr} {es : List Expr} {to : TE} {t : TA} {name : Str} {apos cpos : Pos} {T id : String} {r : V → List V → Hp → VK → Prop}
theorem pe_bm0 (pa : PlainAttrs T) (slot : Slot T name id) (hty : typeOf (.builtin id) = pure (.type "method_descriptor")) (hm : MtR X id r) (ho : PE X o to)
  (hbase : attributeBase o name X.env (eval o X.env) = eval o X.env := by rfl) (hline : (apos.endLine == cpos.line) = true := by rfl) : PE X (.Call (.Attribute o name apos) [] [] cpos) (tBM0 X.K T r to) := by
 intro pins s σ H Q I h
 refine wpAny_Call_method0_late hbase hline (thn (ho pins s σ H _ I h) fun v s1 ⟨x, H1, I1, r1, ty, q1⟩ => ?_)
 obtain ⟨h1, h2⟩ := tyV_is I1 r1 ty
 exact ⟨T, id, pa, slot, hty, h1, h2, Calls.callWith_builtin rfl (PySem.evalArgs_none (hm pins s1 σ H1 x [] v [] Q I1 r1 .nil q1))⟩
theorem pe_bm (pa : PlainAttrs T) (slot : Slot T name id) (hty : typeOf (.builtin id) = pure (.type "method_descriptor")) (hm : MtR X id r) (ho : PE X o to) (ha : PA X (e :: es) t)
  (hbase : attributeBase o name X.env (eval o X.env) = eval o X.env := by rfl)
  (hfew : ((backTo cpos (starEach (e :: es) X.env)).all (fun x => !x.1) && (backToKw cpos (keywordEach [] X.env)).all (fun x => x.1.isSome)
   && decide ((e :: es).length + ([] : List Keyword).length + (if ([] : List Keyword).isEmpty then 0 else 1) < 30)) = true := by rfl)
  (hline : (apos.endLine == cpos.line) = true := by rfl) (hs : starEach (e :: es) X.env = (false, eval e X.env) :: starEach es X.env := by rfl) (hplain : (backTo cpos (starEach es X.env)).any (·.1) = false := by rfl) :
  PE X (.Call (.Attribute o name apos) (e :: es) [] cpos) (tBM X.K T r to t) := by
 intro pins s σ H Q I h
 refine wpAny_Call_method_late hbase hfew hline rfl (thn (ho pins s σ H _ I h) fun v s1 ⟨x, H1, I1, r1, ty, q1⟩ => ?_)
 obtain ⟨h1, h2⟩ := tyV_is I1 r1 ty
 refine ⟨T, id, pa, slot, hty, h1, h2, ?_⟩
 have hA := ha cpos pins s1 σ H1 _ I1 q1
 rw [hs] at hA ⊢
 refine Calls.callWith_builtin (by show (false || (backTo cpos (starEach es X.env)).any (·.1)) = false; rw [hplain] <;> rfl) (Calls.evalArgs_plain ?_)
 exact thn hA fun us s2 ⟨vs, H2, I2, r2, q2⟩ => hm pins s2 σ H2 x vs v us Q I2 r1 r2 q2
end
end L2
namespace L2
open PySem PySem.Spec PyProof.Rows
def MtM (X : Cx) (id : String) (r : V → List V → Hp → VK → Prop) : Prop :=
 ∀ (pins : List (Addr × Obj)) (s : Shared) (σ : St) (H : Hp) (x : V) (xs : List V) (v : Value) (us : List Value) (Q : VK), Inv X pins σ H s → RelV x v → Vals xs us → r x xs H Q →
  wpAny (model X.prog X.w) X.A (call (.builtin id) (v :: us)) (EP X pins σ Q) X.xe s
theorem Vals.one : ∀ {x : V} {us : List Value}, Vals [x] us → ∃ u, us = [u] ∧ RelV x u
 | _, _, .cons r .nil => ⟨_, rfl, r⟩
theorem Vals.two : ∀ {x y : V} {us : List Value}, Vals [x, y] us → ∃ u v, us = [u, v] ∧ RelV x u ∧ RelV y v
 | _, _, _, .cons r (.cons q .nil) => ⟨_, _, rfl, r, q⟩
theorem Vals.zero : ∀ {us : List Value}, Vals [] us → us = []
 | _, .nil => rfl
theorem Vals.dropLast {xs : List V} {us : List Value} (h : Vals xs us) : Vals xs.dropLast us.dropLast := by
 induction h with
 | nil => exact .nil
 | cons r t ih =>
  cases t with
  | nil => exact .nil
  | cons q t' => exact .cons r ih
theorem Vals.eraseIdx : ∀ {xs : List V} {us : List Value} (i : Nat), Vals xs us → Vals (xs.eraseIdx i) (us.eraseIdx i)
 | _, _, _, .nil => .nil
 | _, _, 0, .cons _ t => t
 | _, _, i + 1, .cons r t => .cons r (Vals.eraseIdx i t)
theorem Vals.rep {xs : List V} {us : List Value} (h : Vals xs us) : ∀ k : Nat, Vals (List.replicate k xs).flatten (List.replicate k us).flatten
 | 0 => .nil
 | k + 1 => by
  rw [List.replicate_succ, List.replicate_succ, List.flatten_cons, List.flatten_cons]
  exact Vals.append h (Vals.rep h k)
theorem erase_last {α : Type} (l : List α) : l.eraseIdx (l.length - 1) = l.dropLast := by
 induction l with
 | nil => rfl
 | cons a r ih =>
  cases r with
  | nil => rfl
  | cons b r =>
   have e : (a :: b :: r).length - 1 = ((b :: r).length - 1) + 1 := by
    have h1 : (a :: b :: r).length = r.length + 2 := rfl
    have h2 : (b :: r).length = r.length + 1 := rfl
    omega
   rw [e, List.eraseIdx_cons_succ, ih]
   all_goals rfl
theorem len_erase {α : Type} : ∀ (l : List α) (i : Nat), (l.eraseIdx i).length ≤ l.length
 | [], _ => Nat.le_refl _
 | _ :: _, 0 => Nat.le_succ _
 | _ :: r, i + 1 => Nat.succ_le_succ (len_erase r i)
theorem foldl_rep (its : List Value) : ∀ (k : Nat) (acc : List Value),
  List.foldl (fun x1 x2 => x1 ++ x2) acc.toArray (List.replicate k its.toArray) = (acc ++ (List.replicate k its).flatten).toArray
 | 0, acc => by simp
 | k + 1, acc => by
  have e : acc.toArray ++ its.toArray = (acc ++ its).toArray := by simp
  have e2 : (acc ++ its) ++ (List.replicate k its).flatten = acc ++ (List.replicate (k + 1) its).flatten := by
   rw [List.replicate_succ, List.flatten_cons, List.append_assoc]
  rw [← e2, ← foldl_rep its k (acc ++ its), ← e, List.replicate_succ, List.foldl_cons]
section
variable {X : Cx} {pins : List (Addr × Obj)} {σ : St} {H : Hp} {s : Shared} {l b : Addr} {xs ys zs : List V}
theorem Inv.lset {its its' : List Value} {n : Nat} {f : Array Value → Array Value} {t' : Nat} (I : Inv X pins σ H s) (hH : H l = some (.lst xs))
  (e : s.heap.get? l = some { cls := .type "list", data := .seq its.toArray n }) (hf : f its.toArray = its'.toArray) (hv : Vals ys its') (hz : ys.length ≤ sizeLine) :
  Inv X pins σ (upd H l (.lst ys)) { s with heap := s.heap.update l (Obj.mapSeq f), toks := t' } := by
 have q := PySem.IsL.update e f
 rw [hf] at q
 refine I.write (x := l) (e := l) (by rw [hH]; exact trivial) (.inl rfl) (fun b' u hb hu => (Heap.get?_update_other s.heap (Obj.mapSeq f) (Ne.symm hb)).trans hu) ⟨_, q⟩ ?_
 exact ⟨hz, its', _, hv, q⟩
theorem Inv.lnew {its : List Value} {t' : Nat} (I : Inv X pins σ H s) (hv : Vals ys its) (hz : ys.length ≤ sizeLine) :
  Inv X pins σ (upd H s.heap.objs.size (.lst ys)) { s with heap := s.heap.push { cls := .type "list", data := .seq its.toArray }, toks := t' } :=
 I.laid (fun _ _ q => Heap.get?_push_of_some _ q) (Nat.le_refl _) ⟨hz, its, 0, hv, Heap.get?_push_size _ rfl⟩
theorem Inv.fresh (I : Inv X pins σ H s) : H s.heap.objs.size = none := I.hok.fresh (Nat.le_refl _)
theorem Inv.lstM (I : Inv X pins σ H s) (hH : H l = some (.lst xs)) : xs.length ≤ sizeLine ∧ ∃ (its : List Value) (n : Nat), Vals xs its ∧ xs.length = its.length ∧ s.heap.get? l = some { cls := .type "list", data := .seq its.toArray n } := by
 obtain ⟨z, its, n, r, e⟩ := I.hok l _ hH
 exact ⟨z, its, n, r, r.length, e⟩
theorem notLongL {n : Nat} (h : n ≤ sizeLine) : Builtin.List.listTooLong n = false := by
 unfold Builtin.List.listTooLong
 exact decide_eq_false (by omega)
end
section
variable {X : Cx}
def rAppend : V → List V → Hp → VK → Prop := fun x vs H Q => ∃ l xs y, x = .ref l ∧ vs = [y] ∧ H l = some (.lst xs) ∧ xs.length < sizeLine ∧ Q .non (upd H l (.lst (xs ++ [y])))
theorem mt_append : MtM X "list.append" rAppend := by
 intro pins s σ H x vs v us Q I rx rv h
 obtain ⟨l, xs, y, rfl, rfl, hH, hz, q⟩ := h
 cases rx
 obtain ⟨u, rfl, ru⟩ := rv.one
 obtain ⟨z, its, n, r, hl, e⟩ := I.lstM hH
 refine call_meets F.slot_list_append ⟨_, e, rfl⟩ F.entry_list_append (F.args_list_append_2 _ _) (PySem.list_append l its.toArray n u (by rw [List.size_toArray]; omega)) ⟨e, ?_⟩
 refine ⟨.non, _, I.lset (its' := its ++ [u]) hH e (by simp) (r.append (.cons ru .nil)) ?_, rfl, q⟩
 rw [List.length_append, List.length_singleton]
 omega
def rPop : V → List V → Hp → VK → Prop := fun x vs H Q => ∃ l xs y, x = .ref l ∧ vs = [] ∧ H l = some (.lst xs) ∧ xs[xs.length - 1]? = some y ∧ Q y (upd H l (.lst xs.dropLast))
theorem mt_pop : MtM X "list.pop" rPop := by
 intro pins s σ H x vs v us Q I rx rv h
 obtain ⟨l, xs, y, rfl, rfl, hH, hy, q⟩ := h
 cases rx
 have hus := rv.zero
 subst hus
 obtain ⟨z, its, n, r, hl, e⟩ := I.lstM hH
 obtain ⟨u, hu, ru⟩ := r.get hy
 have hy' : its.toArray[its.toArray.size - 1]? = some u := by
  show its.toArray[its.length - 1]? = some u
  rw [← Array.getElem?_toList, ← hl]
  exact hu
 refine call_meets F.slot_list_pop ⟨_, e, rfl⟩ F.entry_list_pop (F.args_list_pop_1 _) (MeetsSeq.list_pop_last l its.toArray n u hy' (by rw [List.size_toArray]; omega)) ⟨e, ?_⟩
 refine ⟨y, _, I.lset (its' := its.dropLast) hH e ?_ r.dropLast ?_, ru, q⟩
 ·show its.toArray.eraseIdxIfInBounds (its.toArray.size - 1) = its.dropLast.toArray
  rw [List.size_toArray, List.eraseIdxIfInBounds_toArray, erase_last]
 ·rw [List.length_dropLast]
  omega
def rPopAt : V → List V → Hp → VK → Prop := fun x vs H Q => ∃ l xs i k y, x = .ref l ∧ vs = [.int i] ∧ H l = some (.lst xs) ∧ -(2 ^ 63) ≤ i ∧ i < 2 ^ 63 ∧ seqIndex? i xs.length = some k ∧ xs[k]? = some y ∧ Q y (upd H l (.lst (xs.eraseIdx k)))
theorem mt_popAt : MtM X "list.pop" rPopAt := by
 intro pins s σ H x vs v us Q I rx rv h
 obtain ⟨l, xs, i, k, y, rfl, rfl, hH, h1, h2, hk, hy, q⟩ := h
 cases rx
 obtain ⟨u, rfl, ru⟩ := rv.one
 obtain ⟨t, rfl⟩ := ru
 obtain ⟨z, its, n, r, hl, e⟩ := I.lstM hH
 obtain ⟨w, hw, rw'⟩ := r.get hy
 refine call_meets F.slot_list_pop ⟨_, e, rfl⟩ F.entry_list_pop (F.args_list_pop_2 _ _)
  (MeetsSeq.list_pop_at l its.toArray n i t k w (fitsIndex_both h1 h2) (by rw [List.size_toArray, ← hl]; exact hk) (by rw [← Array.getElem?_toList]; exact hw) (by rw [List.size_toArray]; omega)) ⟨e, ?_⟩
 refine ⟨y, _, I.lset (its' := its.eraseIdx k) hH e ?_ (r.eraseIdx k) ?_, rw', q⟩
 ·show its.toArray.eraseIdxIfInBounds k = (its.eraseIdx k).toArray
  rw [List.eraseIdxIfInBounds_toArray]
 ·have := len_erase xs k
  omega
def rCat : R2 := fun x y H Q => ∃ l b xs zs, x = .ref l ∧ y = .ref b ∧ H l = some (.lst xs) ∧ H b = some (.lst zs) ∧ xs.length + zs.length ≤ sizeLine ∧ ∀ p, H p = none → Q (.ref p) (upd H p (.lst (xs ++ zs)))
theorem op_cat : OpR X (binaryOp .Add) rCat := by
 intro pins s σ H x y v u Q I rx ry h
 obtain ⟨l, b, xs, zs, rfl, rfl, hH, hB, hz, q⟩ := h
 cases rx
 cases ry
 obtain ⟨z, its, n, r, hl, e⟩ := I.lstM hH
 obtain ⟨z2, its2, n2, r2, hl2, e2⟩ := I.lstM hB
 refine PySem.P.add_list e e2 ?_ (by rw [List.size_toArray, List.size_toArray]; omega)
 have ea : its.toArray ++ its2.toArray = (its ++ its2).toArray := by simp
 rw [ea]
 exact ⟨.ref _, _, I.lnew (t' := s.toks) (r.append r2) (by rw [List.length_append]; omega), rfl, q _ I.fresh⟩
def rRep : R2 := fun x y H Q => ∃ l k xs, x = .ref l ∧ y = .int k ∧ H l = some (.lst xs) ∧ -(2 ^ 63) ≤ k ∧ k < 2 ^ 63 ∧ xs.length * k.toNat ≤ sizeLine ∧
 ∀ p, H p = none → Q (.ref p) (upd H p (.lst (List.replicate k.toNat xs).flatten))
theorem len_rep {α : Type} (xs : List α) (k : Nat) : (List.replicate k xs).flatten.length = k * xs.length := by
 induction k with
 | zero => simp
 | succ k ih => rw [List.replicate_succ, List.flatten_cons, List.length_append, ih, Nat.succ_mul, Nat.add_comm]
theorem op_rep : OpR X (binaryOp .Mult) rRep := by
 intro pins s σ H x y v u Q I rx ry h
 obtain ⟨l, k, xs, rfl, rfl, hH, h1, h2, hz, q⟩ := h
 cases rx
 obtain ⟨t, rfl⟩ := ry
 obtain ⟨z, its, n, r, hl, e⟩ := I.lstM hH
 have hlen : its.toArray.size * k.toNat ≤ sizeLine := by rw [List.size_toArray, ← hl]; exact hz
 have hcap : ¬ its.toArray.size * k.toNat > (2 ^ 63 - 1) / 8 := by
  have : (sizeLine : Nat) ≤ (2 ^ 63 - 1) / 8 := by decide
  omega
 have hfit : ¬ (!Builtin.List.listFitsIndex k) = true := by
  rw [fitsIndex_both h1 h2]
  exact Bool.false_ne_true
 have hlong : ¬ Builtin.List.listTooLong (its.toArray.size * k.toNat) = true := by
  rw [notLongL hlen]
  exact Bool.false_ne_true
 have hnew : List.foldl (fun x1 x2 => x1 ++ x2) #[] (List.replicate (if its.toArray.isEmpty = true then 0 else k.toNat) its.toArray) = (List.replicate k.toNat its).flatten.toArray := by
  have f0 : ∀ m : Nat, List.foldl (fun x1 x2 => x1 ++ x2) #[] (List.replicate m its.toArray) = (List.replicate m its).flatten.toArray := fun m => by
   have := foldl_rep its m []
   rw [List.nil_append] at this
   exact this
  rw [f0]
  cases its with
  | nil => simp
  | cons a r' => rw [if_neg (by simp)]
 refine wpAny_binaryOp_repeat_ref (T := "list") (U := "int") (by decide) ⟨_, e, rfl⟩ (fun s' => typeIs_int s' k t) noFill_list_mul F.fills_int_mul F.slot_int_rmul repeat_list F.slot_int_index.lookup
  (call_meets F.slot_int_rmul (typeIs_int s k t) F.entry_int_rmul (F.args_int_rmul_2 _ _) (int___rmul___int_list k t l its.toArray n)
   ⟨e, rfl, ⟨_, e, rfl⟩, call_meets F.slot_list_mul ⟨_, e, rfl⟩ F.entry_list_mul (F.args_list_mul_2 _ _) (AutoListH.list___mul___list_int_3 l its.toArray n k t hfit hcap hlong) ⟨e, ?_⟩⟩)
 rw [hnew]
 exact ⟨.ref _, _, I.lnew (t' := s.toks) (r.rep k.toNat) (by rw [len_rep, Nat.mul_comm]; exact hz), rfl, q _ I.fresh⟩
end
section
variable {prog : Program} {w : World} {A : Around} {E : Value → Shared → Prop} {s : Shared}
set_option maxRecDepth 100000 in
end
section
variable {X : Cx}
end
end L2
namespace L2
open PySem PySem.Spec PyProof.Rows
section
variable {κ : Type} [DecidableEq κ]
theorem KV.length {kvs : List (κ × V)} {vs : List (κ × Value)} (r : KV kvs vs) : kvs.length = vs.length := Paired.length r
end
section
variable {P : Program} {w : World} {H : Hp} {h : Heap} {a : Addr}
end
section
variable {X : Cx} {pins : List (Addr × Obj)} {σ : St} {H : Hp} {s : Shared} {a : Addr} {y v : V} {u r : Value} {o : Option V} {A : Around} {E : Value → Shared → Prop}
end
section
variable {X : Cx} {pins : List (Addr × Obj)} {σ : St} {H : Hp} {s : Shared} {a : Addr} {kvs : List (Key × V)} {k : Key} {u : Value} {A : Around} {E : Value → Shared → Prop}
end
section
variable {X : Cx} {o i e value : Expr} {pos pos' tpos : Pos} {td ty tv : TE}
end
section
variable {X : Cx} {pos : Pos}
end
section
variable {X : Cx} {pins : List (Addr × Obj)} {σ : St} {H : Hp} {s : Shared} {a : Addr} {y d : V} {u r : Value} {o : Option V} {A : Around} {E : Value → Shared → Prop}
end
section
variable {X : Cx} {o e f : Expr} {apos cpos : Pos} {td ty tx : TE}
end
section
variable {X : Cx} {pins : List (Addr × Obj)} {σ : St} {H : Hp} {s : Shared} {a : Addr} {kvs : List (Key × V)} {A : Around} {E : Value → Shared → Prop}
end
section
variable {X : Cx} {pins : List (Addr × Obj)} {σ : St} {H : Hp} {s : Shared} {a : Addr} {y : V} {u : Value} {A : Around} {E : Value → Shared → Prop}
end
end L2
namespace Att
open PySem PySem.W PySem.Calls PyProof.Rows
theorem ints_of_wellAll {P : Params} {h : Heap} : ∀ (ns : List Int) (vs : List Value), WellAll P h vs (ns.map WData.int) → IntsAre vs ns := by
 intro ns
 induction ns with
 | nil =>
  intro vs w
  rw [List.map_nil] at w
  cases w
  exact .nil
 | cons n ns ih =>
  intro vs w
  rw [List.map_cons] at w
  cases w with
  | cons a b =>
   cases a
   exact .cons _ _ (ih _ b)
theorem script_of {l : OpenLaw} {n : Nat} (hn : l.most = some n) {P : Params} {h : Heap} {args : List WData} {vals : List Value}
  (hpre : l.row.toRowW.claim.pre args = true) (hwl : WellAll P h vals args) :
  ∃ a vs ns, vals = [Value.ref a] ∧ args = [WData.list (ns.map WData.int)] ∧ h.get? a = some { cls := .type "list", data := .seq vs.toArray } ∧ IntsAre vs ns ∧ ns.length ≤ n := by
 have hsh : WShape.hasAll [] args [.list .int] = true := (pre_splitW hpre).1
 have hc : l.pre.holds [] { args := args } = true := (pre_splitW hpre).2
 obtain ⟨d, r, rfl, h1, h2⟩ := hasAllW_cons hsh
 obtain rfl := hasAllW_nil h2
 obtain ⟨xs, rfl, h3⟩ := hasW_list h1
 obtain ⟨ns, rfl⟩ := items_int h3
 have hlen : ns.length ≤ n := by
  unfold OpenLaw.pre at hc
  have h4 : (WTm.not (.lt (.lit (.int (n : Int))) (.len (.arg 0)))).holds [] { args := [.list (ns.map .int)] } = true := by
   have h4 := (holds_andW hc).1
   rw [hn] at h4
   exact h4
  have h5 := condW_of h4 (w_not (w_lt w_lit (w_len_list (w_arg rfl))))
  rw [List.length_map] at h5
  refine Nat.le_of_not_lt fun q => ?_
  have q' : (n : Int) < ((ns.length : Nat) : Int) := by omega
  first
   | (rw [decide_eq_true q'] at h5; exact absurd h5 (by decide))
   | (simp at h5; omega)
 cases hwl with
 | cons w1 w2 =>
  cases w2
  cases w1 with
  | list ho hall => exact ⟨_, _, ns, rfl, rfl, ho, ints_of_wellAll ns _ hall, hlen⟩
theorem post_true (l : OpenLaw) (args : List WData) : l.row.toRowW.claim.post args (.bool true) args = true :=
 postW_of (r := l.row.toRowW) (X := (true == true))
  (show WShape.has [] (.bool true) .bool = true by first | rfl | decide | simp [WShape.has, WShape.arms, WShape.armsAll])
  (show (WTm.eq .res (.lit (.bool true))).value [] { args := args, res := some (.bool true), after := args } = some (.bool (true == true)) from w_eq_bool (w_res rfl) w_lit) rfl
theorem attach_call {l : OpenLaw} {n : Nat} {q : Program} {loose : List Str} {XP : (Str → Option Value) → Heap → Prop} {YP : World → Heap → Prop} {d : DefRec}
  (hn : l.most = some n) (hdf : d.params.defaults = [])
  (call : ∀ (w : World) (s₀ s₁ : Shared) (mg mb : Str → Option Value) (fa : Addr) (o : Obj) (pm cd doc : Value) (a : Addr) (vs : List Value) (ns : List Int),
   Ground q loose [] XP w s₀ mg mb s₁.heap → YP w s₁.heap →
   s₁.heap.get? fa = some o → o.data = .func (docDef d.name d.params d.body d.scope pm cd doc) → s₁.heap.CodeRec cd d.name → mg d.name = some (.ref fa) →
   s₁.heap.get? a = some { cls := .type "list", data := .seq vs.toArray } → IntsAre vs ns → ns.length ≤ n → s₁.gens = #[] →
   codeAny (model l.prog w) callerA (.call (.ref fa) ⟨[.ref a], []⟩) (fun r s' => r = .ok (.ret (.bool true)) ∧ OldK s₁.heap s'.heap ∧ s'.os = s₁.os ∧ AllBare s'.gens) s₁) :
  WalkO q loose XP YP l.row.toRowW d [] (fun f vs => PySem.call f vs) := by
 intro w s₀ s₁ mg mb G Y fa o pm cd doc dV kV ho hd hcd hD hmg hg args vals as hpre hlay hrd hwl hlo
 obtain rfl : dV = .none := Dflts.none hD hdf
 obtain rfl : kV = .none := Dflts.noKw hD
 obtain ⟨a, vs, ns, rfl, rfl, hobj, hints, hlen⟩ := script_of hn hpre hwl
 refine enter_call (codeAny_mono (call w s₀ s₁ mg mb fa o pm cd doc a vs ns G Y ho (fd_plain hd) hcd hmg hobj hints hlen hg) fun r s' hq => ?_)
 obtain ⟨rfl, h2, h3, h4⟩ := hq
 exact ⟨.inl ⟨.bool true, .bool true, [], rfl, fun _ => rfl, .bool true, post_true l _, fun _ => ⟨List.Pairwise.nil, fun _ hm => (nomatch hm)⟩⟩, h2, h3, h4⟩
section
variable {prog : Program} {w : World} {A : Around} {E : Value → Shared → Prop} {s : Shared} {K : Frag}
end
end Att
namespace L2
open PySem PySem.Spec PyProof.Rows
theorem vals_ints : ∀ {vs : List Value} {ns : List Int}, IntsAre vs ns → Vals (ns.map V.int) vs
 | _, _, .nil => .nil
 | _, _, .cons n t h => .cons ⟨t, rfl⟩ (vals_ints h)
def Only (H : Hp) : Prop := ∀ b, H b = none ∨ ∃ o xs, H b = some (.frz o (.lst xs))
theorem law_call {P : Program} {w : World} {K : PySem.W.Frag} {mg mb : Str → Option Value} {CX : CXT} {k : Nat} {fa a : Addr} {fd : FuncData} {x : Str} {sp : Sp} {s₁ : Shared} {vs : List Value} {ns : List Int}
  (KX : K.In s₁.heap) (hns : s₁.heap.Ns mainGlobals mg) (hb : s₁.heap.Ns builtinsNs mb) (hbb : ∀ x : Str, x ≠ "__name__" → mb x = bootBuiltins x) (hlim : s₁.heap.NoLimit) (hg : s₁.gens = #[])
  (ha : s₁.heap.get? a = some { cls := .type "list", data := .seq vs.toArray }) (hi : IntsAre vs ns) (hl : ns.length ≤ sizeLine) (hr : Room k callerA)
  (F : ∀ base : Heap, K.In base → base.Ns mainGlobals mg → FnOk P w K mg base CX k fa fd [x] sp) (hbind : ∀ (s : Shared) (u : Value), BindsTo s fd ⟨[u], []⟩ [(x, u)])
  (hsp : ∀ H : Hp, Only H → SqL K H a (ns.map V.int) → sp [.ref a] H (fun v _ => v = .bl true) fun _ _ _ => False)
  (hCX : ∀ H e s', CX [] H s₁ (fun _ _ _ => False) e s' → False) :
  codeAny (model P w) callerA (.call (.ref fa) ⟨[.ref a], []⟩) (fun r s' => r = .ok (.ret (.bool true)) ∧ OldK s₁.heap s'.heap ∧ s'.os = s₁.os ∧ AllBare s'.gens) s₁ := by
 have rv := vals_ints hi
 have lenV := hi.length
 have core : ∀ H : Hp, Only H → SqL K H a (ns.map V.int) → HOk P w H s₁.heap → (∀ b, H b ≠ none → b = a) → (H a ≠ none → K.lookup a = none) →
   codeAny (model P w) callerA (.call (.ref fa) ⟨[.ref a], []⟩) (fun r s' => r = .ok (.ret (.bool true)) ∧ OldK s₁.heap s'.heap ∧ s'.os = s₁.os ∧ AllBare s'.gens) s₁ := by
  intro H hO hS hok hA hK
  have base_of : ∀ {b : Addr} {o : Obj}, s₁.heap.get? b = some o → H b = none → (hidT s₁.heap H).get? b = some o := fun e n => hidT_get e n
  have noA : ∀ {b : Addr} {o : Obj} {es : Array DictEntry} {ep : Nat}, s₁.heap.get? b = some o → o.data = .dict es ep → H b = none := fun {b o es ep} e d => by
   cases q : H b with
   | none => rfl
   | some u =>
    have e' : b = a := hA b (by rw [q]; simp)
    subst e'
    rw [ha] at e; cases e
    have d' : Data.seq vs.toArray _ = Data.dict es ep := d
    cases d'
  have nsK : ∀ {b : Addr} {m : Str → Option Value}, s₁.heap.Ns b m → (hidT s₁.heap H).Ns b m := fun {b m} ⟨o, es, ep, e, d, r⟩ => ⟨o, es, ep, base_of e (noA e d), d, r⟩
  have hKb : K.In (hidT s₁.heap H) := fun b o e => base_of (KX b o e) (by
   cases q : H b with
   | none => rfl
   | some u =>
    have e' : b = a := hA b (by rw [q]; simp)
    subst e'
    rw [hK (by rw [q]; simp)] at e; cases e)
  have hM : Mod K mg (hidT s₁.heap H) := ⟨hKb, nsK hns, ⟨mb, nsK hb, hbb⟩, let ⟨mc, h1, h2⟩ := hlim; ⟨mc, nsK h1, h2⟩⟩
  have e0 : Env0 P w K mg (hidT s₁.heap H) callerA [] s₁ H := ⟨rfl, hM, fun b o e => of_hidT e, Nat.le_of_eq (hidT_size _ _), trivial, fun b hb => absurd (show b ∈ ([] : List Addr) from hb) (by simp), hok, .of_eq hg⟩
  refine codeAny_mono ((F _ hKb (nsK hns)).run callerA [] s₁ H ⟨[.ref a], []⟩ [.ref a] [.ref a] _ _ hr e0 (hbind s₁ (.ref a)) (.cons rfl .nil) (hsp H hO hS)) fun r s' h => ?_
  cases r with
  | error e => exact (hCX H e s' h).elim
  | ok fl =>
   cases fl with
   | next => exact False.elim h
   | brk => exact False.elim h
   | cont => exact False.elim h
   | ret u =>
    obtain ⟨v, H', os, bare, un, hok', r', q⟩ := h
    have q' : v = .bl true := q
    subst q'
    obtain rfl : u = Value.bool true := r'
    refine ⟨rfl, OldK.of_keep fun b o e => ?_, os, bare⟩
    cases q : H b with
    | none => exact un.keep b o e q (by intro z; exact absurd (show b ∈ ([] : List Addr) from z) (by simp)) (by simp)
    | some u =>
     rcases hO b with z | ⟨ob, xs, z⟩
     ·rw [q] at z; cases z
     ·have z2 := un.frzs b ob _ z
      obtain ⟨e1, _⟩ := hok b _ z
      obtain ⟨e2, _⟩ := hok' b _ z2
      rw [e] at e1; cases e1
      exact e2
 cases hk : K.lookup a with
 | some o =>
  have e := KX a o hk
  rw [ha] at e
  cases e
  refine core (fun _ => none) (fun _ => .inl rfl) (.inr ⟨_, vs.toArray, _, hk, rfl, rfl, rfl, by rw [List.size_toArray, lenV]; exact hl, by simpa using rv⟩) (fun b u z => by have z' : (none : Option HO) = some u := z; cases z') (fun b z => absurd rfl z) fun z => absurd rfl z
 | none =>
  refine core (fun b => if b = a then some (.frz { cls := .type "list", data := .seq vs.toArray } (.lst (ns.map V.int))) else none) (fun b => ?_) (.inl (.inr ⟨{ cls := .type "list", data := .seq vs.toArray }, if_pos rfl⟩)) (fun b u z => ?_) (fun b z => ?_) fun _ => hk
  ·by_cases hb : b = a
   ·exact .inr ⟨_, _, if_pos hb⟩
   ·exact .inl (if_neg hb)
  ·by_cases hb : b = a
   ·have z' := (if_pos hb).symm.trans z
    cases z'
    subst hb
    exact ⟨ha, by rw [List.length_map]; exact hl, vs, _, rv, ha⟩
   ·have z' := (if_neg hb).symm.trans z
    cases z'
  ·by_cases hb : b = a
   ·exact hb
   ·exact absurd (if_neg hb) z
end L2
namespace L2
open PySem PySem.Spec PyProof.Rows
abbrev KOf {K : PySem.W.Frag} {h : Heap} (_ : K.In h) : PySem.W.Frag := K
theorem walk_of {l : PySem.W.OpenLaw} {n k : Nat} {q : Program} {loose : List Str} {XP : (Str → Option Value) → Heap → Prop} {YP : World → Heap → Prop} {d : DefRec} {K : Params → PySem.W.Frag} {CX : World → CXT} {sp : World → Sp} {x : Str}
  (hn : l.most = some n) (hn2 : n ≤ sizeLine) (hdf : d.params.defaults = []) (hr : Room k callerA)
  (hY : ∀ (w : World) (h : Heap), YP w h → (K w.params).In h)
  (F : ∀ (w : World) (mg : Str → Option Value) (fa : Addr) (h : Heap), (K w.params).In h → h.Ns mainGlobals mg → mg d.name = some (.ref fa) →
   ∃ fd : FuncData, (∀ (s : Shared) (u : Value), BindsTo s fd ⟨[u], []⟩ [(x, u)]) ∧
    ∀ base : Heap, (K w.params).In base → base.Ns mainGlobals mg → FnOk l.prog w (K w.params) mg base (CX w) k fa fd [x] (sp w))
  (hsp : ∀ (w : World) (H : Hp) (a : Addr) (ns : List Int), ns.length ≤ n → Only H → SqL (K w.params) H a (ns.map V.int) → sp w [.ref a] H (fun v _ => v = .bl true) fun _ _ _ => False)
  (hCX : ∀ (w : World) (H : Hp) (s : Shared) (e : Value) (s' : Shared), CX w [] H s (fun _ _ _ => False) e s' → False) :
  PySem.W.WalkO q loose XP YP l.row.toRowW d [] (fun f vs => PySem.call f vs) := by
 refine Att.attach_call hn hdf fun w s₀ s₁ mg mb fa o pm cd doc a vs ns G Y ho hd hcd hmg hobj hints hlen hg => ?_
 have KX := hY w _ Y
 obtain ⟨fd, hb, hF⟩ := F w mg fa _ KX G.T.g hmg
 exact law_call KX G.T.g G.T.b G.T.builtins G.T.nolimit hg hobj hints (Nat.le_trans hlen hn2) hr hF hb (fun H hO hS => hsp w H a ns hlen hO hS) fun H e s' => hCX w H s₁ e s'
theorem walk_ofK {l : PySem.W.OpenLaw} {n k : Nat} {q : Program} {loose : List Str} {XP : (Str → Option Value) → Heap → Prop} {YP : World → Heap → Prop} {d : DefRec} {K : Params → PySem.W.Frag} {CX : CXT} {sp : PySem.W.Frag → Sp} {x : Str}
  (hn : l.most = some n) (hn2 : n ≤ sizeLine) (hdf : d.params.defaults = []) (hr : Room k callerA)
  (hY : ∀ (w : World) (h : Heap), YP w h → (K w.params).In h)
  (F : ∀ (w : World) (mg : Str → Option Value) (fa : Addr) (h : Heap), (K w.params).In h → h.Ns mainGlobals mg → mg d.name = some (.ref fa) →
   ∃ fd : FuncData, (∀ (s : Shared) (u : Value), BindsTo s fd ⟨[u], []⟩ [(x, u)]) ∧
    ∀ base : Heap, (K w.params).In base → base.Ns mainGlobals mg → FnOk l.prog w (K w.params) mg base CX k fa fd [x] (sp (K w.params)))
  (hsp : ∀ (K : PySem.W.Frag) (H : Hp) (a : Addr) (ns : List Int), ns.length ≤ n → Only H → SqL K H a (ns.map V.int) → sp K [.ref a] H (fun v _ => v = .bl true) fun _ _ _ => False)
  (hCX : ∀ (H : Hp) (s : Shared) (e : Value) (s' : Shared), CX [] H s (fun _ _ _ => False) e s' → False) :
  PySem.W.WalkO q loose XP YP l.row.toRowW d [] (fun f vs => PySem.call f vs) :=
 walk_of (K := K) (CX := fun _ => CX) (sp := fun w => sp (K w.params)) hn hn2 hdf hr hY F (fun w H a ns h1 h2 h3 => hsp (K w.params) H a ns h1 h2 h3) fun _ H s e s' => hCX H s e s'
end L2
namespace L2
open PySem PySem.Spec PyProof.Rows
def inClass (s : Stmt) (j : Nat) : Stmt := match s with
 | .ClassDef _ _ _ body _ _ _ _ _ _ _ => body.getD j (.Pass ⟨0, 0, 0, 0⟩)
 | _ => .Pass ⟨0, 0, 0, 0⟩
def defArgs (s : Stmt) : Arguments := match s with
 | .FunctionDef _ a _ _ _ _ _ _ _ _ => a
 | _ => { posonlyargs := [], args := [], vararg := none, kwonlyargs := [], kw_defaults := [], kwarg := none, defaults := [] }
def defBody (s : Stmt) : List Stmt := match s with
 | .FunctionDef _ _ b _ _ _ _ _ _ _ => b
 | _ => []
def defScope (s : Stmt) : Scope := match s with
 | .FunctionDef _ _ _ _ _ _ sc _ _ _ => sc
 | _ => { kind := .function, names := [], isGenerator := false, isCoroutine := false }
abbrev CX0 : CXT := fun _ _ _ _ _ _ => False
abbrev E0 : XK := fun _ _ _ => False
theorem pass0 {X : Cx} : Passes CX0 X E0 := fun _ _ _ _ _ _ _ h => h.elim
structure Fun (K : PySem.W.Frag) (x qual : Str) (st : Stmt) (f : Addr) (fd : FuncData) : Prop where
 ex : ∃ (oc : Value) (od : Option Addr) (kV doc pm : Value) (an : Option Addr) (cdv ct : Value) (osl : Array (Option Value)),
  fd = PySem.W.fnOf x qual (defArgs st) (defBody st) (defScope st) .none kV doc pm an cdv ct ∧ K.lookup f = some ⟨oc, od, .func fd, osl⟩ ∧ PySem.W.codeIn K cdv qual = true
 kp : PySem.W.keepIn K (.ref f) = true
section
variable {P : Program} {w : World} {K : PySem.W.Frag} {mg : Str → Option Value} {base : Heap}
theorem Fun.ok {x qual : Str} {st : Stmt} {f : Addr} {fd : FuncData} {N ps : List Str} {k : Nat} {sp : Sp} (F : Fun K x qual st f fd) (S : FnScope N ps (defScope st)) (len : ∀ vs H Q E, sp vs H Q E → vs.length = ps.length)
  (hbody : ∀ (cdv : Value) (A : Around) (outer : List Env) (s : Shared) (H : Hp) (vs : List V) (Q : VK) (E : XK), Room k (A.deeper (envOfC qual (defScope st) s.heap.objs.size f cdv)) → sp vs H Q E →
   ∃ t, PSs (cxOf CX0 P w K mg base N qual (defScope st) f cdv A outer s H E).nox (defBody st) t ∧ t { nx := fun _ H' => Q .non H', rt := Q } (start N vs) H) : FnOk P w K mg base CX0 (k + 1) f fd ps sp := by
 obtain ⟨oc, od, kV, doc, pm, an, cdv, ct, osl, rfl, lk, hcd⟩ := F.ex
 refine fn_of lk hcd S len fun A outer s H vs Q E hr hsp => ?_
 obtain ⟨t, h, q⟩ := hbody cdv A outer s H vs Q E hr hsp
 exact ⟨t, h.nox, q⟩
theorem Fun.binds {x qual : Str} {st : Stmt} {f : Addr} {fd : FuncData} {ps : List Str} (F : Fun K x qual st f fd)
  (h : ∀ (kV doc pm : Value) (an : Option Addr) (cdv ct : Value) (us : List Value), us.length = ps.length → bindArgs (PySem.W.fnOf x qual (defArgs st) (defBody st) (defScope st) .none kV doc pm an cdv ct) ⟨us, []⟩ = pure (ps.zip us)) : Binds K fd ps [] := by
 obtain ⟨oc, od, kV, doc, pm, an, cdv, ct, osl, rfl, lk, hcd⟩ := F.ex
 exact .all (h kV doc pm an cdv ct)
theorem fun_mk {x qual : Str} {st : Stmt} {f : Addr} {oc : Value} {od an : Option Addr} {osl : Array (Option Value)} {kV doc pm cdv ct : Value} (l : K.lookup f = some ⟨oc, od, .func (PySem.W.fnOf x qual (defArgs st) (defBody st) (defScope st) .none kV doc pm an cdv ct), osl⟩)
  (c : PySem.W.codeIn K cdv qual = true) (k : PySem.W.keepIn K (.ref f) = true) : Fun K x qual st f (PySem.W.fnOf x qual (defArgs st) (defBody st) (defScope st) .none kV doc pm an cdv ct) := ⟨⟨oc, od, kV, doc, pm, an, cdv, ct, osl, rfl, l, c⟩, k⟩
end
section
variable {X : Cx}
theorem pv (i : Nat) {x : Str} {pos : Pos} (hN : X.N[i]? = some x := by rfl) (hv : Vis X.env.scope x := by first | exact Or.inl rfl | exact Or.inr (Or.inl rfl) | exact Or.inr (Or.inr rfl)) (hd : (x == ("__debug__" : Str)) = false := by decide)
  (hcd : (x == ("__classdict__" : Str)) = false := by decide) : PE X (.Name x pos) (tVar i) := pe_var hN hv hd hcd
end
theorem iteF {A B : Prop} (h : B) : if false = true then A else B := by
 rw [if_neg Bool.false_ne_true]
 exact h
theorem iteT {A B : Prop} (h : A) : if true = true then A else B := by
 rw [if_pos rfl]
 exact h
theorem iteNS {c A B : Prop} [Decidable c] (hc : c) (h : B) : if (!decide c) = true then A else B := by
 rw [decide_eq_true hc]
 exact iteF h
def Same (H H' : Hp) : Prop := ∀ b o, H b = some o → H' b = some o
theorem Same.refl (H : Hp) : Same H H := fun _ _ h => h
theorem Same.trans {H H1 H2 : Hp} (a : Same H H1) (b : Same H1 H2) : Same H H2 := fun c o h => b c o (a c o h)
theorem Same.free {H H' : Hp} (e : Same H H') {l : Addr} (h : H' l = Option.none) : H l = Option.none := by
 cases q : H l with
 | none => rfl
 | some o =>
  rw [e l o q] at h
  cases h
theorem Same.seq {K : PySem.W.Frag} {H H' : Hp} {a : Addr} {xs : List V} (e : Same H H') (h : SqL K H a xs) : SqL K H' a xs := by
 rcases h with (h | ⟨o, h⟩) | h
 ·exact .inl (.inl (e _ _ h))
 ·exact .inl (.inr ⟨o, e _ _ h⟩)
 ·exact .inr h
section
variable {κ : Type} [DecidableEq κ]
end
end L2
set_option maxHeartbeats 4000000
namespace L2
open PySem PySem.Spec PyProof.Rows
def compCx (X : Cx) (N' : List Str) (scope : Scope) (cl : List (Str × Addr)) (C : Addr) (s : Shared) (H : Hp) (fp : List Addr) : Cx :=
 { X with N := N', s₀ := s, H₀ := H, env := compEnvC scope cl C X.env, outer := X.stack, stack := X.stack, ex := fp, fn := fun _ => false, pn := [], xe := fun _ _ => False }
def AllL {α : Type} (P : α → Prop) : List α → Prop
 | [] => True
 | x :: r => P x ∧ AllL P r
theorem AllL.mem {α : Type} {P : α → Prop} : ∀ {l : List α}, AllL P l → ∀ x ∈ l, P x
 | [], _, x, hx => by simp at hx
 | y :: r, h, x, hx => by
  rcases List.mem_cons.mp hx with e | e
  ·rw [e]; exact h.1
  ·exact AllL.mem h.2 x e
theorem AllL.get {α : Type} {P : α → Prop} {l : List α} (h : AllL P l) {i : Nat} {x : α} (e : l[i]? = some x) : P x := h.mem x (List.mem_of_getElem? e)
structure FrAt (X : Cx) (scope : Scope) (cl : List (Str × Addr)) (p : Str × Nat) : Prop where
 nm : X.N[p.2]? = some p.1
 kx : X.env.kindOf p.1 = some .cell ∨ X.env.kindOf p.1 = some .free
 kc : (relabel scope X.env).names.lookup p.1 = some .cell ∨ (relabel scope X.env).names.lookup p.1 = some .free
 cl : ∃ c, cl.lookup p.1 = some c ∧ X.env.cells.lookup p.1 = some c
structure CompSc (X : Cx) (scope : Scope) (cl : List (Str × Addr)) (x : Str) (fr : List (Str × Nat)) : Prop where
 clos : closureFor scope X.env = pure cl
 kind : scope.kind = .function
 nocell : ∀ y ∈ scope.names, y.2 ≠ .cell
 locs : ∀ y ∈ scope.names, y.2 = .local → scope.names.lookup y.1 = some .local
 here : scope.names.lookup x = some .local
 nd : (x :: fr.map (·.1)).Nodup
 sub : AllL (fun p => X.env.cells.lookup p.1 = some p.2) cl
 has : ((relabel scope X.env).names.all fun p => !(p.2 == .cell || p.2 == .free) || (cl.lookup p.1).isSome) = true
 frs : AllL (FrAt X scope cl) fr
theorem mem_of_lk {α : Type} {x : Str} {v : α} : ∀ {l : List (Str × α)}, l.lookup x = some v → (x, v) ∈ l
 | [], h => by simp at h
 | (y, w) :: r, h => by
  cases hx : x == y with
  | true =>
   have e : x = y := beq_iff_eq.mp hx
   simp only [List.lookup_cons, hx] at h
   cases h
   subst e
   exact List.mem_cons_self
  | false =>
   simp only [List.lookup_cons, hx] at h
   exact List.mem_cons_of_mem _ (mem_of_lk h)
theorem CompSc.subL {X : Cx} {scope : Scope} {cl : List (Str × Addr)} {x : Str} {fr : List (Str × Nat)} (S : CompSc X scope cl x fr) : ∀ y c, cl.lookup y = some c → X.env.cells.lookup y = some c :=
 fun y c e => S.sub.mem (y, c) (mem_of_lk e)
def PTs (X : Cx) (ifs : List Expr) (t : TT) : Prop :=
 ∀ (pins : List (Addr × Obj)) (s : Shared) (σ : St) (H : Hp) (Q : Bool → Hp → Prop), Inv X pins σ H s → t σ H Q →
  wpAny (model X.prog X.w) X.A (forIn ifs true fun c r => if r = true then do let ok ← isTrue c X.env (eval c X.env); pure (ForInStep.yield ok) else pure (ForInStep.yield r)) (TP X pins σ Q) X.xe s
def tYes : TT := fun _ H Q => Q true H
theorem pts_nil {X : Cx} : PTs X [] tYes := fun _ _ _ H _ I h => wpAny_tests_nil ⟨H, I, h⟩
theorem pts_one {X : Cx} {c : Expr} {t : TT} (h : PT X c t) : PTs X [c] t := fun pins s σ H Q I hw => wpAny_tests_one (h pins s σ H Q I hw)
theorem compLoop_any {prog : Program} {w : World} {A : Around} {R : Result → Shared → Prop} {s : Shared} {elt target iter : Expr} {ifs : List Expr} {scope : Scope} {pos : Pos} {it acc : Value} {env : Env} (I : Nat → Shared → Prop)
  (turn : ∀ n s, I n s → wpAny (model prog w) A (pyNext it) (fun r s₁ => match r with
   | none => R (.ok .next) s₁
   | some v => wpAny (model prog w) A (letOwnedTupleGo target it v) (fun _ s₁' => wpAny (model prog w) A (assign target env v) (fun _ s₂ =>
     wpAny (model prog w) A (forIn ifs true fun c r => if r = true then do let ok ← isTrue c env (eval c env); pure (ForInStep.yield ok) else pure (ForInStep.yield r)) (fun ok s₃ =>
      if ok = true then wpAny (model prog w) A (eval elt env) (fun x s₄ =>
       wpAny (model prog w) A (call (.builtin "list.append") [acc, x]) (fun _ s₅ => ∃ m, m < n ∧ I m s₅) (notedBy (model prog w) A env fun e s' => R (.error e) s') s₄) (notedBy (model prog w) A env fun e s' => R (.error e) s') s₃
      else ∃ m, m < n ∧ I m s₃) (notedBy (model prog w) A env fun e s' => R (.error e) s') s₂) (notedBy (model prog w) A env fun e s' => R (.error e) s') s₁') (notedBy (model prog w) A env fun e s' => R (.error e) s') s₁) (notedBy (model prog w) A env fun e s' => R (.error e) s') s)
  (n : Nat) (h : I n s) :
  codeAny (model prog w) A (.compLoop (.ListComp elt [⟨target, iter, ifs, 0⟩] scope pos) 0 it acc env) R s := by
 refine codeAny_loop rfl I (fun n s hI => ?_) n h
 show wpAny _ A ((compTurn (.ListComp elt [⟨target, iter, ifs, 0⟩] scope pos) 0 it acc env).onRaise (fun x => do noteFrame x env; theTreesLotGoes x)) _ _ s
 refine wpAny_noted ?_
 rw [compTurn_list]
 refine wpAny_bind (wpAny_standAt (wpAny_bind (wpAny_mono (turn n s hI) (fun r s₁ h₁ => ?_) fun _ _ h' => h')))
 cases r with
 | none => exact wpAny_pure h₁
 | some v =>
  refine wpAny_bind (wpAny_mono h₁ (fun _ s₁' h₁' => ?_) fun _ _ h' => h')
  refine wpAny_bind (wpAny_mono h₁' (fun _ s₂ h₂ => wpAny_bind (wpAny_mono h₂ (fun ok s₃ h₃ => ?_) fun _ _ h' => h')) fun _ _ h' => h')
  cases ok with
  | false => exact wpAny_pure ⟨rfl, h₃⟩
  | true =>
   exact wpAny_bind (wpAny_bind (wpAny_mono h₃ (fun x s₄ h₄ => wpAny_bind (wpAny_mono h₄ (fun _ s₅ h₅ => wpAny_pure (wpAny_pure ⟨rfl, h₅⟩)) fun _ _ h' => h')) fun _ _ h' => h'))
def frv (fr : List (Str × Nat)) (σ : St) : St := fr.map fun p => (σ[p.2]?).join
def tLC (wi : TI) (fr : List (Str × Nat)) (tc : TT) (te : TE) : TE := fun σ H Q => wi σ H fun J H1 => ∃ W : Nat → Nat → List V → Hp → Prop, (∃ m, W 0 m [] H1) ∧ ∀ i m acc H, W i m acc H →
 (J.stop i H ∧ acc.length ≤ sizeLine ∧ ∀ p, H p = none → Q (.ref p) (upd H p (.lst acc))) ∨
 (J.go i H ∧ ∀ x H', J.yld i H x H' → tc (some x :: frv fr σ) H' fun b H2 => if b = true then te (some x :: frv fr σ) H2 fun v H3 => acc.length < sizeLine ∧ ∃ m', m' < m ∧ W (i + 1) m' (acc ++ [v]) H3
  else ∃ m', m' < m ∧ W (i + 1) m' acc H2)
section
variable {X : Cx} {x : Str} {px pos : Pos} {iter elt : Expr} {ifs : List Expr} {scope : Scope} {cl : List (Str × Addr)} {wi : TI} {tc : TT} {te : TE} {fr : List (Str × Nat)}
theorem compCx_ok {pins : List (Addr × Obj)} {σ : St} {H : Hp} {s : Shared} {fp : List Addr} {C : Addr} (S : CompSc X scope cl x fr) (I : Inv X pins σ H s) (hC : s.heap.objs.size ≤ C)
  (hf : ∀ b ∈ fp, FpOk X pins H b) (ho : ∀ b ∈ fp, ∃ o, s.heap.get? b = some o) : (compCx X (x :: fr.map (·.1)) scope cl C s H fp).Ok where
 mod := I.ok.mod
 kind := S.kind
 glob := I.ok.glob
 blt := I.ok.blt
 above := hC
 inj := fun y z c h1 h2 => I.ok.inj y z c (S.subL y c h1) (S.subL z c h2)
 has := fun y hy => by
  have all := List.all_eq_true.mp S.has
  have go : ∀ k, (k == NameKind.cell || k == NameKind.free) = true → (relabel scope X.env).names.lookup y = some k → ∃ c, cl.lookup y = some c := fun k hk e => by
   have q := all (y, k) (mem_of_lk e)
   have q' : (!(k == NameKind.cell || k == NameKind.free) || (cl.lookup y).isSome) = true := q
   rw [hk] at q'
   exact Option.isSome_iff_exists.mp (by simpa using q')
  rcases hy with hy | hy
  ·exact go .cell rfl hy
  ·exact go .free rfl hy
 cab := fun y c hfn _ => by cases hfn
 hd := I.ok.hd
 frames := I.ok.frames
 stk := .inl rfl
 exf := fun b hb => by
  obtain ⟨o, e⟩ := ho b hb
  exact ⟨Nat.ne_of_lt (Nat.lt_of_lt_of_le (Heap.lt_size e) hC), fun y c h => (hf b hb).2.2.2.2.1 y c (S.subL y c h)⟩
 bs := I.bs
 bsz := Nat.le_trans I.ok.bsz I.sz
 noex := fun b o e hb => by
  rcases (hf b hb).2.2.2.1 with z | z
  ·exact I.ok.noex b o e z
  ·exact absurd (Nat.lt_of_lt_of_le (Heap.lt_size e) (Nat.le_trans I.ok.bsz z)) (Nat.lt_irrefl _)
 exfs := fun b hb z => by
  rcases List.mem_cons.mp (I.stkSub b z) with e | e
  ·exact (hf b hb).2.1 e
  ·exact (hf b hb).2.2.1 e
 funs := I.stack
 frf := I.stkFree
theorem compCx_inv {pins : List (Addr × Obj)} {σ : St} {H : Hp} {s s' : Shared} {fp : List Addr} {C D : Addr} {oD : Obj} {m : Str → Option Value} (S : CompSc X scope cl x fr) (I : Inv X pins σ H s) (hC : s.heap.objs.size ≤ C)
  (hf : ∀ b ∈ fp, FpOk X pins H b) (ho : ∀ b ∈ fp, ∃ o, s.heap.get? b = some o) (os : s'.os = s.os) (bare : AllBare s'.gens) (old : ∀ b o, s.heap.get? b = some o → s'.heap.get? b = some o) (ns : s'.heap.Ns C m)
  (hD : s.heap.objs.size ≤ D) (hDC : D ≠ C) (eD : s'.heap.get? D = some oD) (dD : ∀ v, oD.data ≠ .cell v) :
  Inv (compCx X (x :: fr.map (·.1)) scope cl C s H fp) [(D, oD)] (none :: frv fr σ) H s' where
 ok := compCx_ok S I hC hf ho
 os := os
 bare := bare
 base := Un.kept old
 loc := by
  refine ⟨m, ns, fun i y v h1 h2 _ => ?_⟩
  cases i with
  | zero =>
   have h2' : some (none : Option V) = some (some v) := h2
   cases h2'
  | succ j =>
   have h1' : (fr.map (·.1))[j]? = some y := h1
   have h2' : (frv fr σ)[j]? = some (some v) := h2
   rw [List.getElem?_map] at h1'
   unfold frv at h2'
   rw [List.getElem?_map] at h2'
   cases e : fr[j]? with
   | none => rw [e] at h1'; cases h1'
   | some p =>
    rw [e] at h1' h2'
    have ey : p.1 = y := Option.some.inj h1'
    have ev : (σ[p.2]?).join = some v := Option.some.inj h2'
    have ev' : σ[p.2]? = some (some v) := by
     cases q : σ[p.2]? with
     | none => rw [q] at ev; cases ev
     | some w =>
      rw [q] at ev
      have : w = some v := ev
      rw [this]
    have F := S.frs.get e
    obtain ⟨c, c1, c2⟩ := F.cl
    obtain ⟨m', hn', hl'⟩ := I.loc
    have vis : Vis X.env.scope p.1 := by
     rcases F.kx with k | k
     ·exact .inr (.inl k)
     ·exact .inr (.inr k)
    obtain ⟨u, r, l⟩ := hl' p.2 p.1 v F.nm ev' vis
    rcases l with ⟨k, _⟩ | ⟨k, c', e', hc'⟩
    ·rcases F.kx with k' | k' <;> · rw [k] at k'; cases k'
    ·rw [c2] at e'
     cases e'
     subst ey
     refine ⟨u, r, .inr ⟨F.kc, c, c1, ?_⟩⟩
     obtain ⟨oc, hoc, hd⟩ := hc'
     exact ⟨oc, old _ _ hoc, hd⟩
 cell := fun y c e => by
  obtain ⟨v, oc, hoc, hd⟩ := I.cell y c (S.subL y c e)
  exact ⟨v, oc, old _ _ hoc, hd⟩
 free := I.hok.fresh hC
 freeC := fun y c e => I.freeC y c (S.subL y c e)
 pin := fun p hp => by
  have e : p = (D, oD) := by
   have : p ∈ ([] : List (Addr × Obj)) ++ [(D, oD)] := hp
   simpa using this
  subst e
  refine ⟨eD, I.hok.fresh hD, hDC, fun hb => ?_, dD⟩
  have hb' : D ∈ frs X.stack := hb
  have ok := compCx_ok S I hC hf ho
  obtain ⟨_, o, q, _⟩ := ok.funs.mem hb
  exact absurd (Nat.lt_of_lt_of_le (Heap.lt_size q) hD) (Nat.lt_irrefl _)
 hok := I.hok.kept old
 len := by
  show (none :: frv fr σ).length = (x :: fr.map (·.1)).length
  simp [frv]
abbrev oL (its : List Value) (n : Nat) : Obj := { cls := .type "list", data := .seq its.toArray n }
theorem oL_nc (its : List Value) (n : Nat) : ∀ v, (oL its n).data ≠ .cell v := fun v z => by
 have z' : Data.seq its.toArray n = Data.cell v := z
 cases z'
theorem comp_back {pins : List (Addr × Obj)} {σ σ' : St} {H H' : Hp} {s s' : Shared} {fp : List Addr} {C D : Addr} {its : List Value} {n : Nat} {acc : List V} {h'' : Heap} (I : Inv X pins σ H s) (hC : s.heap.objs.size ≤ C) (hD : s.heap.objs.size ≤ D) (hDC : D ≠ C)
  (hf : ∀ b ∈ fp, FpOk X pins H b) (J : Inv (compCx X (x :: fr.map (·.1)) scope cl C s H fp) [(D, oL its n)] σ' H' s') (r : Vals acc its) (hz : acc.length ≤ sizeLine) (sb : Heap.SameBut C s'.heap h'') :
  Inv X pins σ (upd H' D (.lst acc)) { s' with heap := h'' } := by
 have pD := J.pin (D, oL its n) (List.mem_append_right _ List.mem_cons_self)
 have nC : ∀ b o, s.heap.get? b = some o → b ≠ C := fun b o e => Nat.ne_of_lt (Nat.lt_of_lt_of_le (Heap.lt_size e) hC)
 have nD : ∀ b o, s.heap.get? b = some o → b ≠ D := fun b o e => Nat.ne_of_lt (Nat.lt_of_lt_of_le (Heap.lt_size e) hD)
 have HC : H' C = none := J.free
 have HD : H D = none := I.hok.fresh hD
 refine I.call' (ch := fp) J.os ⟨fun b o e k hb hx => ?_, fun b o e k hb hx => ?_, fun b o e k hx => ?_, fun b o e hx => ?_, fun b xs e => ?_, fun b o u e => ?_, fun b ps e => ?_⟩ (fun b u e => ?_) J.bare fun b hb => ?_
 ·exact (sb.2 b (nC b o e)).trans (J.base.keep b o e k hb hx)
 ·obtain ⟨sl, q⟩ := J.base.slot b o e k hb hx
  exact ⟨sl, (sb.2 b (nC b o e)).trans q⟩
 ·rw [upd_ne (nD b o e)]
  exact J.base.free b o e k hx
 ·obtain ⟨o', q⟩ := J.base.there b o e hx
  exact ⟨o', (sb.2 b (nC b o e)).trans q⟩
 ·rw [upd_ne (ne_of_none e HD)]
  exact J.base.tups b xs e
 ·rw [upd_ne (ne_of_none e HD)]
  exact J.base.frzs b o u e
 ·rw [upd_ne (ne_of_none e HD)]
  exact J.base.tbls b ps e
 ·by_cases hb : b = D
  ·subst hb
   rw [upd_same] at e
   cases e
   exact ⟨hz, its, n, r, (sb.2 b hDC).trans pD.1⟩
  ·rw [upd_ne hb] at e
   refine (J.hok b u e).stay (fun c v hc q => (sb.2 c ?_).trans q) (fun c q => ?_) fun c xs q => ?_
   ·rcases hc with z | z
    ·rw [z]; exact ne_of_none e HC
    ·exact ne_of_none z HC
   ·rw [upd_ne (ne_of_none q pD.2.1)]; exact q
   ·rw [upd_ne (ne_of_none q pD.2.1)]; exact q
 ·exact ⟨(hf b hb).2.2.2.1, (hf b hb).2.1, (hf b hb).2.2.2.2.1, (hf b hb).2.2.2.2.2⟩
theorem pe_lcomp (hc : X.calm = true) (hi : PI X (.Name x px) iter wi) (S : CompSc X scope cl x fr)
  (ht : ∀ C s H fp, PTs (compCx X (x :: fr.map (·.1)) scope cl C s H fp) ifs tc) (he : ∀ C s H fp, PE (compCx X (x :: fr.map (·.1)) scope cl C s H fp) elt te)
  (hs : ∀ v, foldedSetIterable iter X.env v = pure v := by intro _; rfl) : PE X (.ListComp elt [⟨.Name x px, iter, ifs, 0⟩] scope pos) (tLC wi fr tc te) := by
 intro pins s σ H Q I h
 rw [eval_ListComp]
 refine wpAny_comprehension_free (use := none) (cl := cl) rfl hs S.clos S.kind S.locs (thn (hi pins s σ H _ I h) fun v s1 h1 => thn h1 fun itv s2 h2 => ?_)
 obtain ⟨it, fp, tn, J, H2, e, I2, T, st2, f2, W, ⟨m0, w0⟩, turn⟩ := h2
 subst e
 refine wpAny_newObj_type (wpAny_newFunctionEnv S.nocell (by intro y hy; simp at hy) (fun h₁ hns₁ hsb₁ => ?_) S.kind)
 dsimp only at hns₁ hsb₁ ⊢
 generalize hHp : s2.heap.push { cls := .type "list", dict := none, data := .seq ([] : List Value).toArray } = hp at hns₁ hsb₁ ⊢
 have eC : hp.objs.size = s2.heap.objs.size + 1 := by rw [← hHp, Heap.size_push]
 have hDC : s2.heap.objs.size ≠ hp.objs.size := by rw [eC]; exact Nat.ne_of_lt (Nat.lt_succ_self _)
 have hC : s2.heap.objs.size ≤ hp.objs.size := by rw [eC]; exact Nat.le_succ _
 have hD : s2.heap.objs.size ≤ s2.heap.objs.size := Nat.le_refl _
 have nC : ∀ b o, s2.heap.get? b = some o → b ≠ hp.objs.size := fun b o e => Nat.ne_of_lt (Nat.lt_of_lt_of_le (Heap.lt_size e) hC)
 have nD : ∀ b o, s2.heap.get? b = some o → b ≠ s2.heap.objs.size := fun b o e => Nat.ne_of_lt (Heap.lt_size e)
 have old : ∀ b o, s2.heap.get? b = some o → h₁.get? b = some o := fun b o e => hsb₁.extBut b o (nC b o e) (Heap.get?_push_of_some _ (hHp ▸ Heap.get?_push_of_some _ e))
 have eD : h₁.get? s2.heap.objs.size = some (oL [] 0) := hsb₁.extBut _ _ hDC (Heap.get?_push_of_some _ (hHp ▸ Heap.get?_push_size _ rfl))
 have ho : ∀ b ∈ fp, ∃ o, s2.heap.get? b = some o := fun b hb => by
  obtain ⟨o, e, _⟩ := T.obj 0 _ st2 b hb
  exact ⟨o, e⟩
 have J0 : Inv (compCx X (x :: fr.map (·.1)) scope cl hp.objs.size s2 H2 fp) [(s2.heap.objs.size, oL [] 0)] (none :: frv fr σ) H2 { s2 with heap := h₁, toks := s2.toks + ([] : List (Str × Value)).length } :=
  compCx_inv S I2 hC f2 ho rfl I2.bare old hns₁ hD hDC eD (oL_nc [] 0)
 have fpne : ∀ b ∈ fp, b ≠ s2.heap.objs.size := fun b hb => by
  obtain ⟨o, e⟩ := ho b hb
  exact nD b o e
 have fpC : ∀ b ∈ fp, b ≠ hp.objs.size := fun b hb => by
  obtain ⟨o, e⟩ := ho b hb
  exact nC b o e
 have okX := J0.ok
 have stat : ∀ {H' : Hp} {oD : Obj}, (∀ b ∈ fp, H' b = none) → ∀ b ∈ fp, FpOk (compCx X (x :: fr.map (·.1)) scope cl hp.objs.size s2 H2 fp) [(s2.heap.objs.size, oD)] H' b := fun {H' oD} hn b hb =>
  ⟨hn b hb, fpC b hb, okX.exfs b hb, .inl hb, (okX.exf b hb).2, fun p hp' => by
   have e : p = (s2.heap.objs.size, oD) := by
    have : p ∈ ([] : List (Addr × Obj)) ++ [(s2.heap.objs.size, oD)] := hp'
    simpa using this
   rw [e]
   exact (fpne b hb).symm⟩
 have st1 : tn 0 h₁ := T.keep _ _ _ st2 fun b _ o e => old b o e
 have loop : ∀ s₃ : Shared, s₃ = { s2 with heap := h₁, toks := s2.toks + ([] : List (Str × Value)).length } →
   codeAny (model X.prog X.w) X.A (.compLoop (.ListComp elt [⟨.Name x px, iter, ifs, 0⟩] scope pos) 0 (.ref it) (.ref s2.heap.objs.size) (compEnvC scope cl hp.objs.size X.env))
    (compPost (model X.prog X.w) X.A X.xe none (EP X pins σ Q) (.ref s2.heap.objs.size) hp.objs.size) s₃ := by
  rintro s₃ rfl
  refine compLoop_any (fun n s' => ∃ i y H' acc its k, Inv (compCx X (x :: fr.map (·.1)) scope cl hp.objs.size s2 H2 fp) [(s2.heap.objs.size, oL its k)] (y :: frv fr σ) H' s' ∧ tn i s'.heap ∧ (∀ b ∈ fp, H' b = none) ∧ Vals acc its ∧ W i n acc H') ?_ m0
   ⟨0, none, H2, [], [], 0, J0, st1, fun b hb => (f2 b hb).1, .nil, w0⟩
  rintro n s3 ⟨i, y, H3, acc, its, k, I3, st3, fr3, rv, w3⟩
  have noE : ∀ {α : Type} {t : Sem α} {Q' : α → Shared → Prop} {s' : Shared} {E' : Value → Shared → Prop}, wpAny (model X.prog X.w) X.A t Q' (fun _ _ => False) s' → wpAny (model X.prog X.w) X.A t Q' E' s' := fun {α t Q' s' E'} h => wpAny_mono h (fun _ _ q => q) fun _ _ z => z.elim
  rcases turn i n acc H3 w3 with ⟨stop, hz, qn⟩ | ⟨go, step⟩
  ·refine thn (T.done (compCx X (x :: fr.map (·.1)) scope cl hp.objs.size s2 H2 fp) rfl rfl rfl hc i _ s3 _ H3 _ I3 (stat fr3) st3 stop) fun r s4 ⟨hr, I4⟩ => ?_
   subst hr
   obtain ⟨m4, hn4, _⟩ := I4.loc
   have pD := I4.pin (s2.heap.objs.size, oL its k) (List.mem_append_right _ List.mem_cons_self)
   refine ⟨m4, hn4, fun h'' sb => ⟨.ref s2.heap.objs.size, _, comp_back I2 hC hD hDC f2 I4 rv hz sb, rfl, qn _ pD.2.1⟩⟩
  ·refine thn (T.item (compCx X (x :: fr.map (·.1)) scope cl hp.objs.size s2 H2 fp) rfl rfl rfl hc i _ s3 _ H3 _ I3 (stat fr3) st3 go) fun r s4 ⟨u, hr, h4⟩ => ?_
   subst hr
   refine thn h4 fun _ s5 ⟨xv, H5, I5, r5, y5, st5, fr5⟩ => ?_
   have I5' := I5.pinned (stat fr5) (T.obj _ _ st5)
   have hx' : (relabel scope X.env).names.lookup x = some .local := lookup_relabel_local S.here
   refine wpAny_assign_Name (store_ok (i := 0) I5' S.nd rfl (.inl hx') r5 (fun s6 I6 => ?_) (.inr hx'))
   have I6' : Inv (compCx X (x :: fr.map (·.1)) scope cl hp.objs.size s2 H2 fp) ([(s2.heap.objs.size, oL its k)] ++ pinsAt fp s5.heap) (some xv :: frv fr σ) H5 s6 := I6
   refine noE (thn (ht _ _ _ _ _ s6 _ H5 _ I6' (step xv H5 y5)) fun b s7 ⟨H7, I7, q7⟩ => ?_)
   have back : ∀ {σ8 : St} {H8 : Hp} {s8 : Shared}, Inv (compCx X (x :: fr.map (·.1)) scope cl hp.objs.size s2 H2 fp) ([(s2.heap.objs.size, oL its k)] ++ pinsAt fp s5.heap) σ8 H8 s8 → tn (i + 1) s8.heap ∧ ∀ b ∈ fp, H8 b = none := fun {σ8 H8 s8} I8 => by
    refine ⟨T.keep _ _ _ st5 fun b hb o e => (I8.pin (b, o) (List.mem_append_right _ (List.mem_append_right _ (mem_pinsAt hb e)))).1, fun b hb => ?_⟩
    obtain ⟨o, e, d⟩ := T.obj _ _ st5 b hb
    exact (I8.pin (b, o) (List.mem_append_right _ (List.mem_append_right _ (mem_pinsAt hb e)))).2.1
   cases b with
   | false =>
    rw [if_neg Bool.false_ne_true] at q7 ⊢
    obtain ⟨m', hm, w7⟩ := q7
    obtain ⟨t7, n7⟩ := back I7
    exact ⟨m', hm, i + 1, _, H7, acc, its, k, I7.unpinned, t7, n7, rv, w7⟩
   | true =>
    rw [if_pos rfl] at q7 ⊢
    refine noE (thn (he _ _ _ _ _ s7 _ H7 _ I7 q7) fun u8 s8 ⟨v8, H8, I8, r8, hlt, m', hm, w8⟩ => ?_)
    obtain ⟨t8, n8⟩ := back I8
    have pD := I8.pin (s2.heap.objs.size, oL its k) (List.mem_append_right _ (List.mem_append_left _ List.mem_cons_self))
    have hl := rv.length
    refine wpAny_list_append_plain (items := its.toArray) ⟨k, pD.1⟩ (fun h9 ⟨k9, e9⟩ sb9 => ?_) (by rw [List.size_toArray]; omega)
    have e9' : h9.get? s2.heap.objs.size = some (oL (its ++ [u8]) k9) := by
     rw [e9]
     simp [oL]
    have I9 : Inv (compCx X (x :: fr.map (·.1)) scope cl hp.objs.size s2 H2 fp) [] (some xv :: frv fr σ) H8 { s8 with heap := h9, toks := s8.toks } :=
     (I8.pins_of (pins' := []) fun p z => absurd z (by simp)).turned (it := s2.heap.objs.size) (fun b o hb e => (sb9.2 b hb).trans e) pD.2.1 hDC (.inr hD) (fun y c e z => by
      obtain ⟨w', oc, hoc, hd⟩ := I8.cell y c e
      rw [z, pD.1] at hoc
      cases hoc
      exact oL_nc _ _ _ hd) fun p z => absurd (show p ∈ ([] : List (Addr × Obj)) ++ [] from z) (by simp)
    refine ⟨m', hm, i + 1, _, H8, acc ++ [v8], its ++ [u8], k9, I9.pins_of fun p z => ?_, T.keep _ _ _ t8 fun b hb o e => (sb9.2 b (fpne b hb)).trans e, n8, rv.append (.cons r8 .nil), w8⟩
    have e : p = (s2.heap.objs.size, oL (its ++ [u8]) k9) := by simpa using z
    subst e
    exact ⟨e9', pD.2.1, pD.2.2.1, pD.2.2.2.1, oL_nc _ _⟩
 exact codeAny_compStart_list (loop _ rfl) (T.self _ 0 _ _ _ st1 (loop _ rfl))
end
theorem lc_range {lo : Int} {n : Nat} {fr : List (Str × Nat)} {te : TE} {σ : St} {H : Hp} {Qp : Addr → List V → Hp → Prop} (f : Nat → V) (hn : n ≤ sizeLine)
  (hf : ∀ i, i < n → ∀ Q' : VK, Q' (f i) H → te (some (.int (lo + i)) :: frv fr σ) H Q') (hq : ∀ p, H p = none → Qp p ((List.range n).map f) H) :
  ∃ W : Nat → Nat → List V → Hp → Prop, (∃ m, W 0 m [] H) ∧ ∀ i m acc H, W i m acc H →
   ((Itr lo n).stop i H ∧ acc.length ≤ sizeLine ∧ ∀ p, H p = none → Qp p acc H) ∨
   ((Itr lo n).go i H ∧ ∀ x H', (Itr lo n).yld i H x H' → tYes (some x :: frv fr σ) H' fun b H2 => if b = true then te (some x :: frv fr σ) H2 fun v H3 => acc.length < sizeLine ∧ ∃ m', m' < m ∧ W (i + 1) m' (acc ++ [v]) H3
    else ∃ m', m' < m ∧ W (i + 1) m' acc H2) := by
 refine ⟨fun i m acc H' => H' = H ∧ i ≤ n ∧ m = n - i ∧ acc = (List.range i).map f, ⟨n, rfl, Nat.zero_le _, by simp, rfl⟩, ?_⟩
 rintro i m acc H' ⟨rfl, hi, rfl, rfl⟩
 have el : ((List.range i).map f).length = i := by simp
 by_cases hlt : i < n
 ·refine .inr ⟨hlt, fun x H1 y => ?_⟩
  obtain ⟨e, y⟩ := y
  subst e y
  dsimp only [tYes]
  rw [if_pos rfl]
  refine hf i hlt _ ⟨by rw [el]; omega, n - (i + 1), by omega, rfl, hlt, rfl, ?_⟩
  rw [List.range_succ, List.map_append]
  rfl
 ·have e : i = n := by omega
  subst e
  exact .inl ⟨Nat.le_refl _, by rw [el]; exact hn, hq⟩
end L2
namespace L2
open PySem PySem.Spec PyProof.Rows
section
variable {X : Cx}
theorem call_isinst : CallR X (.builtin "isinstance") (fun xs H Q => ∃ x n t b, xs = [x, .ty n] ∧ TyOf X.K H x t ∧ PySem.W.kitOne X.K t (.type n) = some b ∧ Q (.bl b) H) := by
 intro pins s σ H xs us Q I r h
 obtain ⟨x, n, t, b, rfl, ty, e, q⟩ := h
 obtain ⟨u, w', rfl, ru, rw'⟩ := vals2 r
 cases rw'
 exact isinst_ok I ru ty e fun tk => ⟨.bl b, H, I.tok tk, rfl, q⟩
theorem bo_list : bootBuiltins "list" = some (.type "list") := by decide +kernel
theorem bo_int : bootBuiltins "int" = some (.type "int") := by decide +kernel
theorem bo_bool : bootBuiltins "bool" = some (.type "bool") := by decide +kernel
theorem bo_tuple : bootBuiltins "tuple" = some (.type "tuple") := by decide +kernel
theorem bo_len : bootBuiltins "len" = some (.builtin "len") := by decide +kernel
theorem bo_isinstance : bootBuiltins "isinstance" = some (.builtin "isinstance") := by decide +kernel
end
end L2
namespace L2
open PySem PySem.Spec PyProof.Rows
mutual
inductive DRd (K : PySem.W.Frag) (H : Hp) : V → PyData → Prop where
 | non : DRd K H .non .none
 | bl (b : Bool) : DRd K H (.bl b) (.bool b)
 | int (i : Int) : DRd K H (.int i) (.int i)
 | str (x : Str) : DRd K H (.str x) (.str x)
 | lst {a : Addr} {xs : List V} {ds : List PyData} (h : SqL K H a xs) (r : DRds K H xs ds) : DRd K H (.ref a) (.list ds)
 | tup {a : Addr} {xs : List V} {ds : List PyData} (h : SqT K H a xs) (r : DRds K H xs ds) : DRd K H (.ref a) (.tuple ds)
inductive DRds (K : PySem.W.Frag) (H : Hp) : List V → List PyData → Prop where
 | nil : DRds K H [] []
 | cons {x : V} {d : PyData} {xs : List V} {ds : List PyData} (h : DRd K H x d) (r : DRds K H xs ds) : DRds K H (x :: xs) (d :: ds)
end
section
variable {X : Cx} {pins : List (Addr × Obj)} {σ : St} {H : Hp} {s : Shared}
mutual
theorem drd_reads (I : Inv X pins σ H s) : ∀ {x : V} {d : PyData}, DRd X.K H x d → ∀ {u : Value}, RelV x u → ∃ as, Reads s.heap u d as
 | _, _, .non, u, r => by cases (show u = Value.none from r); exact ⟨_, .none⟩
 | _, _, .bl b, u, r => by cases (show u = Value.bool b from r); exact ⟨_, .bool b⟩
 | _, _, .int i, u, r => by obtain ⟨t, e⟩ := (show ∃ t, u = Value.int i t from r); cases e; exact ⟨_, .int i t⟩
 | _, _, .str x, u, r => by obtain ⟨t, e⟩ := (show ∃ t, u = Value.str x t from r); cases e; exact ⟨_, .str x t⟩
 | _, _, .lst (a := a) h rs, u, r => by
  cases (show u = Value.ref a from r)
  obtain ⟨its, rv, p, _⟩ := I.list h
  obtain ⟨o, e, c, n, d⟩ := p.isList
  obtain ⟨as, q⟩ := drds_reads I rs rv
  exact ⟨_, .list e c d (by simpa using q)⟩
 | _, _, .tup (a := a) h rs, u, r => by
  cases (show u = Value.ref a from r)
  obtain ⟨its, rv, p, _⟩ := I.tuple h
  obtain ⟨o, e, c, n, d⟩ := p
  obtain ⟨as, q⟩ := drds_reads I rs rv
  exact ⟨_, .tuple e c d (by simpa using q)⟩
theorem drds_reads (I : Inv X pins σ H s) : ∀ {xs : List V} {ds : List PyData}, DRds X.K H xs ds → ∀ {us : List Value}, Vals xs us → ∃ as, ReadsAll s.heap us ds as
 | _, _, .nil, _, .nil => ⟨_, .nil⟩
 | _, _, .cons h r, _, .cons v vs => by
  obtain ⟨as, q⟩ := drd_reads I h v
  obtain ⟨bs, q'⟩ := drds_reads I r vs
  exact ⟨_, .cons q q'⟩
end
end
section
variable {X : Cx}
def rEqD (K : PySem.W.Frag) : R2 := fun x y H Q => ∃ da db, DRd K H x da ∧ DRd K H y db ∧ PySem.SeqAt.shaped da = true ∧ PySem.SeqAt.shaped db = true ∧ PySem.SeqAt.noMix da db = true ∧ Q (.bl (same da db)) H
def rNeD (K : PySem.W.Frag) : R2 := fun x y H Q => ∃ da db, DRd K H x da ∧ DRd K H y db ∧ PySem.SeqAt.shaped da = true ∧ PySem.SeqAt.shaped db = true ∧ PySem.SeqAt.noMix da db = true ∧ Q (.bl (!same da db)) H
theorem op_eqD (hu : X.A.units + 64 < cLine) : OpR X (compareOp .Eq) (rEqD X.K) := by
 intro pins s σ H x y v u Q I rx ry h
 obtain ⟨da, db, h1, h2, s1, s2, nm, q⟩ := h
 obtain ⟨as, r1⟩ := drd_reads I h1 rx
 obtain ⟨bs, r2⟩ := drd_reads I h2 ry
 exact eq_dataH_same r1 r2 s1 s2 hu nm ⟨.bl _, H, I, rfl, q⟩
theorem op_neD (hu : X.A.units + 64 < cLine) : OpR X (compareOp .NotEq) (rNeD X.K) := by
 intro pins s σ H x y v u Q I rx ry h
 obtain ⟨da, db, h1, h2, s1, s2, nm, q⟩ := h
 obtain ⟨as, r1⟩ := drd_reads I h1 rx
 obtain ⟨bs, r2⟩ := drd_reads I h2 ry
 exact ne_dataH_same r1 r2 s1 s2 hu nm ⟨.bl _, H, I, rfl, q⟩
end
end L2
namespace L2
open PySem PySem.Spec PyProof.Rows
def IntG (mg : Str → Option Value) (x : Str) (n : Int) : Prop := ∃ t, mg x = some (.int n t)
def Raw (K : PySem.W.Frag) (mg : Str → Option Value) (x : Str) (st : Stmt) : Prop := ∃ f fd, mg x = some (.ref f) ∧ Fun K x x st f fd
def GF (P : Program) (w : World) (K : PySem.W.Frag) (mg : Str → Option Value) (base : Heap) (x : Str) (ps : List Str) (k : Nat) (sp : Sp) : Prop :=
 ∃ f fd, mg x = some (.ref f) ∧ (∃ oc od osl, K.lookup f = some ⟨oc, od, .func fd, osl⟩) ∧ PySem.W.keepIn K (.ref f) = true ∧ Binds K fd ps [] ∧ FnOk P w K mg base CX0 k f fd ps sp
def RawC (K : PySem.W.Frag) (mg : Str → Option Value) (x q : Str) (C : Addr) (st : Stmt) : Prop := mg x = some (.ref C) ∧ ∃ f fd, Mk K C f ∧ Fun K "__init__" q st f fd
def GC (P : Program) (w : World) (K : PySem.W.Frag) (mg : Str → Option Value) (base : Heap) (x : Str) (C : Addr) (ps : List Str) (k : Nat) (sp : Sp) : Prop :=
 mg x = some (.ref C) ∧ ∃ f fd, Mk K C f ∧ Binds K fd ps [] ∧ FnOk P w K mg base CX0 k f fd ps sp
section
variable {P : Program} {w : World} {K : PySem.W.Frag} {mg : Str → Option Value} {base : Heap} {x : Str} {st : Stmt} {N ps : List Str} {k : Nat} {sp : Sp}
theorem GF.mk (R : Raw K mg x st) (S : FnScope N ps (defScope st))
  (hb : ∀ (kV doc pm : Value) (an : Option Addr) (cdv ct : Value) (us : List Value), us.length = ps.length → bindArgs (PySem.W.fnOf x x (defArgs st) (defBody st) (defScope st) .none kV doc pm an cdv ct) ⟨us, []⟩ = pure (ps.zip us))
  (len : ∀ vs H Q E, sp vs H Q E → vs.length = ps.length)
  (hbody : ∀ (f : Addr) (cdv : Value) (A : Around) (outer : List Env) (s : Shared) (H : Hp) (vs : List V) (Q : VK) (E : XK), Room k (A.deeper (envOfC x (defScope st) s.heap.objs.size f cdv)) → sp vs H Q E →
   ∃ t, PSs (cxOf CX0 P w K mg base N x (defScope st) f cdv A outer s H E).nox (defBody st) t ∧ t { nx := fun _ H' => Q .non H', rt := Q } (start N vs) H) : GF P w K mg base x ps (k + 1) sp := by
 obtain ⟨f, fd, e, F⟩ := R
 have lk : ∃ oc od osl, K.lookup f = some ⟨oc, od, .func fd, osl⟩ := by
  obtain ⟨oc, od, kV, doc, pm, an, cdv, ct, osl, _, lk, _⟩ := F.ex
  exact ⟨oc, od, osl, lk⟩
 exact ⟨f, fd, e, lk, F.kp, F.binds hb, F.ok S len fun cdv A outer s H vs Q E hr h => hbody f cdv A outer s H vs Q E hr h⟩
theorem GC.mk {q : Str} {C : Addr} (R : RawC K mg x q C st) (S : FnScope N ps (defScope st))
  (hb : ∀ (kV doc pm : Value) (an : Option Addr) (cdv ct : Value) (us : List Value), us.length = ps.length → bindArgs (PySem.W.fnOf "__init__" q (defArgs st) (defBody st) (defScope st) .none kV doc pm an cdv ct) ⟨us, []⟩ = pure (ps.zip us))
  (len : ∀ vs H Q E, sp vs H Q E → vs.length = ps.length)
  (hbody : ∀ (f : Addr) (cdv : Value) (A : Around) (outer : List Env) (s : Shared) (H : Hp) (vs : List V) (Q : VK) (E : XK), Room k (A.deeper (envOfC q (defScope st) s.heap.objs.size f cdv)) → sp vs H Q E →
   ∃ t, PSs (cxOf CX0 P w K mg base N q (defScope st) f cdv A outer s H E).nox (defBody st) t ∧ t { nx := fun _ H' => Q .non H', rt := Q } (start N vs) H) : GC P w K mg base x C ps (k + 1) sp := by
 obtain ⟨e, f, fd, M, F⟩ := R
 exact ⟨e, f, fd, M, F.binds hb, F.ok S len fun cdv A outer s H vs Q E hr h => hbody f cdv A outer s H vs Q E hr h⟩
theorem GF.fn {f : Addr} {fd : FuncData} {oc : Value} {od : Option Addr} {osl : Array (Option Value)} (G : GF P w K mg base x ps k sp) (e : mg x = some (.ref f)) (l : K.lookup f = some ⟨oc, od, .func fd, osl⟩) : FnOk P w K mg base CX0 k f fd ps sp := by
 obtain ⟨f', fd', e', ⟨oc', od', osl', l'⟩, _, _, F⟩ := G
 rw [e] at e'
 cases e'
 rw [l] at l'
 have q : fd = fd' := by
  have q1 := congrArg Obj.data (Option.some.inj l')
  have q2 : Data.func fd = Data.func fd' := q1
  injection q2
 rw [q]
 exact F
theorem raw_mk {h : Heap} {f : Addr} {oc : Value} {od an : Option Addr} {osl : Array (Option Value)} {kV doc pm cdv ct : Value} (X : K.In h) (G : h.Ns mainGlobals mg) (a : PySem.W.nsIn K mainGlobals x = some (some (.ref f)))
  (l : K.lookup f = some ⟨oc, od, .func (PySem.W.fnOf x x (defArgs st) (defBody st) (defScope st) .none kV doc pm an cdv ct), osl⟩) (c : PySem.W.codeIn K cdv x = true) (k : PySem.W.keepIn K (.ref f) = true) : Raw K mg x st :=
 ⟨f, _, PySem.W.mg_of X G a, fun_mk l c k⟩
theorem rawC_mk {h : Heap} {q : Str} {C f : Addr} {oc : Value} {od an : Option Addr} {osl : Array (Option Value)} {kV doc pm cdv ct : Value} (X : K.In h) (G : h.Ns mainGlobals mg) (a : PySem.W.nsIn K mainGlobals x = some (some (.ref C)))
  (a1 : PySem.W.findIn K (.ref C) "__init__" = some (some (.ref f))) (i1 : PySem.W.isFn K (.ref f) = true)
  (l : K.lookup f = some ⟨oc, od, .func (PySem.W.fnOf "__init__" q (defArgs st) (defBody st) (defScope st) .none kV doc pm an cdv ct), osl⟩) (c : PySem.W.codeIn K cdv q = true) (k : PySem.W.keepIn K (.ref f) = true)
  (mk : PySem.W.makesIn K C = true) (kc : PySem.W.keepIn K (.ref C) = true) : RawC K mg x q C st :=
 ⟨PySem.W.mg_of X G a, f, _, ⟨mk, a1, i1, kc⟩, fun_mk l c k⟩
theorem int_mk {h : Heap} {n : Int} {t : Tok} (X : K.In h) (G : h.Ns mainGlobals mg) (a : PySem.W.nsIn K mainGlobals x = some (some (.int n t))) : IntG mg x n := ⟨t, PySem.W.mg_of X G a⟩
end
section
variable {X : Cx} {x : Str} {ps : List Str} {k : Nat} {sp : Sp} {e : Expr} {es : List Expr} {t : TA} {p pos : Pos} {C : Addr}
theorem pe_gcall (G : GF X.prog X.w X.K X.mg X.base x ps k sp) (hr : Room k X.A) (hg : Gl X x) (ha : PA X (e :: es) t) (hdb : (x == ("__debug__" : Str)) = false := by decide)
  (he : starEach (e :: es) X.env = (false, eval e X.env) :: starEach es X.env := by rfl) (hpl : (backTo pos (starEach es X.env)).any (·.1) = false := by rfl) : PE X (.Call (.Name x p) (e :: es) [] pos) (tCall sp [] E0 t) := by
 obtain ⟨f, fd, hm, _, hk, hb, F⟩ := G
 exact pe_call F hr hg hm hk hb .nil pass0 ha hdb he hpl
theorem pe_gmake (G : GC X.prog X.w X.K X.mg X.base x C ps k sp) (hr : Room (k + 1) X.A) (hg : Gl X x) (ha : PA X (e :: es) t) (hdb : (x == ("__debug__" : Str)) = false := by decide)
  (he : starEach (e :: es) X.env = (false, eval e X.env) :: starEach es X.env := by rfl) (hpl : (backTo pos (starEach es X.env)).any (·.1) = false := by rfl) : PE X (.Call (.Name x p) (e :: es) [] pos) (tMake C sp [] E0 t) := by
 obtain ⟨hm, f, fd, M, hb, F⟩ := G
 exact pe_make M F hr hg hm hb .nil pass0 ha hdb he hpl
theorem pe_gint {n : Int} (hg : Gl X x) (h : IntG X.mg x n) (hd : (x == ("__debug__" : Str)) = false := by decide) : PE X (.Name x pos) (tC (.int n)) := by
 obtain ⟨t, e⟩ := h
 exact pe_glob hg e ⟨t, rfl⟩ hd
def tCut (t : TS) : TS := fun D σ H => ∃ R : St → Hp → Prop, t { D with nx := R } σ H ∧ ∀ σ' H', R σ' H' → D.nx σ' H'
theorem ps_cut {st : Stmt} {t : TS} (h : PS X st t) : PS X st (tCut t) := by
 intro pins s σ H D I hw
 obtain ⟨R, h1, h2⟩ := hw
 refine thn (h pins s σ H _ I h1) fun f s1 q => ?_
 cases f with
 | next =>
  obtain ⟨σ', H', I', q⟩ := q
  exact ⟨σ', H', I', h2 σ' H' q⟩
 | ret v => exact q
 | brk => exact q
 | cont => exact q
theorem hu64 {k : Nat} {A : Around} (hr : Room k A) : A.units + 64 < cLine := hr.units
end
section
variable {σ : St} {H : Hp} {D : Ends} {Q : VK} {QT : Bool → Hp → Prop}
theorem atI_ints {ns : List Int} {i : Int} (h0 : 0 ≤ i) (h1 : i < (ns.length : Int)) : atI (ns.map V.int) i = some (.int (ns.getD i.toNat 0)) := by
 unfold atI ixN
 rw [if_pos h0, List.length_map, if_pos h1]
 show (ns.map V.int)[i.toNat]? = _
 have h2 : i.toNat < ns.length := by omega
 rw [List.getElem?_map, List.getElem?_eq_getElem h2, List.getD_eq_getElem?_getD, List.getElem?_eq_getElem h2]
 rfl
theorem ixN_ints {n : Nat} {i : Int} (h0 : 0 ≤ i) (h1 : i < (n : Int)) : ixN n i = some i.toNat := by
 unfold ixN
 rw [if_pos h0, if_pos h1]
theorem iteD {c A B : Prop} [Decidable c] (h1 : c → A) (h2 : ¬ c → B) : if decide c = true then A else B := by
 by_cases h : c
 ·rw [if_pos (decide_eq_true h)]
  exact h1 h
 ·rw [if_neg (by simp [h])]
  exact h2 h
theorem iteB {b : Bool} {A B : Prop} (h1 : b = true → A) (h2 : b = false → B) : if b = true then A else B := by
 cases b with
 | true => rw [if_pos rfl]; exact h1 rfl
 | false => rw [if_neg Bool.false_ne_true]; exact h2 rfl
theorem iteN {c A B : Prop} [Decidable c] (h1 : ¬ c → A) (h2 : c → B) : if (!decide c) = true then A else B := by
 by_cases h : c
 ·rw [decide_eq_true h]
  exact iteF (h2 h)
 ·rw [decide_eq_false h]
  exact iteT (h1 h)
theorem putF_hit {f : Str} {v w : V} {r : List (Str × V)} : putF f v ((f, w) :: r) = (f, v) :: r := by
 unfold putF
 rw [if_pos rfl]
theorem putF_miss {f g : Str} {v w : V} {r : List (Str × V)} (h : ¬ g = f) : putF f v ((g, w) :: r) = (g, w) :: putF f v r := by
 conv => lhs; unfold putF
 rw [if_neg h]
theorem look_hit {f : Str} {v : V} {r : List (Str × V)} : List.lookup f ((f, v) :: r) = some v := by
 rw [List.lookup_cons, beq_self_eq_true]
theorem look_miss {f g : Str} {v : V} {r : List (Str × V)} (h : ¬ f = g) : List.lookup f ((g, v) :: r) = List.lookup f r := by
 rw [List.lookup_cons, beq_eq_false_iff_ne.mpr h]
end
end L2
namespace Sx
open PySem L2
section
variable {σ : St} {H : Hp} {Q : VK} {QT : Bool → Hp → Prop} {QA : List V → Hp → Prop} {D : Ends} {K : PySem.W.Frag} {ta tb tc : TE} {t u : TS} {c c' : TT} {r r' : R2} {E : XK}
theorem var {i : Nat} {v : V} (e : σ[i]? = some (some v)) (q : Q v H) : tVar i σ H Q := ⟨v, e, q⟩
theorem cst {v : V} (q : Q v H) : tC v σ H Q := q
theorem op (h : ta σ H fun x H1 => tb σ H1 fun y H2 => r x y H2 Q) : tOp r ta tb σ H Q := h
theorem i0 {g : Int → Int → V} {i j : Int} (q : Q (g i j) H) : rI0 g (.int i) (.int j) H Q := ⟨i, j, rfl, rfl, q⟩
theorem iC {C : Int → Int → Prop} {g : Int → Int → V} {i j : Int} (c : C i j) (q : Q (g i j) H) : rI C g (.int i) (.int j) H Q := ⟨i, j, rfl, rfl, c, q⟩
theorem eqI {i j : Int} (q : Q (.bl (decide (i = j))) H) : rEq (.int i) (.int j) H Q := ⟨rfl, by
 have e : decide (V.int i = V.int j) = decide (i = j) := by rw [Bool.eq_iff_iff]; simp
 rw [e]; exact q⟩
theorem neI {i j : Int} (q : Q (.bl (!decide (i = j))) H) : rNe (.int i) (.int j) H Q := ⟨rfl, by
 have e : decide (V.int i = V.int j) = decide (i = j) := by rw [Bool.eq_iff_iff]; simp
 rw [e]; exact q⟩
theorem eqS {i j : Str} (q : Q (.bl (decide (i = j))) H) : rEq (.str i) (.str j) H Q := ⟨rfl, by
 have e : decide (V.str i = V.str j) = decide (i = j) := by rw [Bool.eq_iff_iff]; simp
 rw [e]; exact q⟩
theorem neS {i j : Str} (q : Q (.bl (!decide (i = j))) H) : rNe (.str i) (.str j) H Q := ⟨rfl, by
 have e : decide (V.str i = V.str j) = decide (i = j) := by rw [Bool.eq_iff_iff]; simp
 rw [e]; exact q⟩
theorem test (h : ta σ H fun x H' => ∃ k, x = .bl k ∧ QT k H') : tTest ta σ H QT := h
theorem tB (h : ta σ H fun x H' => ∃ k, x = .bl k ∧ QT k H') : tB ta σ H QT := h
theorem isbl {b : Bool} {P : Bool → Prop} (q : P b) : ∃ k, V.bl b = .bl k ∧ P k := ⟨b, rfl, q⟩
theorem and (h : c σ H fun b H1 => if b = true then c' σ H1 QT else QT false H1) : tAnd c c' σ H QT := h
theorem or (h : c σ H fun b H1 => if b = true then QT true H1 else c' σ H1 QT) : tOr c c' σ H QT := h
theorem not (h : c σ H fun b H1 => QT (!b) H1) : tNot c σ H QT := h
theorem andV (h : ta σ H fun x H1 => ∃ c, x = .bl c ∧ if c = true then tb σ H1 Q else Q (.bl false) H1) : tAndV ta tb σ H Q := h
theorem ifE (h : c σ H fun b H1 => if b = true then ta σ H1 Q else tb σ H1 Q) : tIf c ta tb σ H Q := h
theorem fld {f : Str} (h : ta σ H fun x H1 => ∃ a C dx fs v, x = .ref a ∧ H1 a = some (.ins C dx fs) ∧ Cls K C ∧ NoAttr K C f ∧ fs.lookup f = some v ∧ Q v H1) : tFld K ta f σ H Q := h
theorem next (h : D.nx σ H) : tNext D σ H := h
theorem seq (h : t { D with nx := u D } σ H) : tSeq t u D σ H := h
theorem drop (h : ta σ H fun _ H1 => D.nx σ H1) : tDrop ta D σ H := h
theorem ret (h : ta σ H D.rt) : tRet ta D σ H := h
theorem retN (h : D.rt .non H) : tRetN D σ H := h
theorem ifS (h : c σ H fun b H1 => if b = true then t D σ H1 else u D σ H1) : tIfS c t u D σ H := h
theorem asg {g : TG} (h : ta σ H fun x H1 => g x σ H1 D.nx) : tAsg ta g D σ H := h
theorem nm {i : Nat} {v : V} {q : St → Hp → Prop} (h : q (σ.set i (some v)) H) : gName i v σ H q := h
theorem sub {tset : TSet} {v : V} {q : St → Hp → Prop} (h : ta σ H fun o H1 => tb σ H1 fun i H2 => tset o i v H2 fun H3 => q σ H3) : gSub ta tb tset v σ H q := h
theorem call {sp : Sp} {dvs : List V} {a : TA} (h : a σ H fun vs H1 => sp (vs ++ dvs) H1 Q E) : tCall sp dvs E a σ H Q := h
theorem callB {rr : List V → Hp → VK → Prop} {a : TA} (h : a σ H fun vs H1 => rr vs H1 Q) : tCB rr a σ H Q := h
theorem nil (h : QA [] H) : tNil σ H QA := h
theorem cons {a : TA} (h : ta σ H fun x H1 => a σ H1 fun xs H2 => QA (x :: xs) H2) : tCons ta a σ H QA := h
theorem tup {a : TA} (h : a σ H fun xs H1 => xs.length ≤ sizeLine ∧ ∀ p, H1 p = none → Q (.ref p) (upd H1 p (.tup xs))) : tTup a σ H Q := h
theorem lst {a : TA} (h : a σ H fun xs H1 => xs.length ≤ sizeLine ∧ ∀ p, H1 p = none → Q (.ref p) (upd H1 p (.lst xs))) : tLst a σ H Q := h
theorem ixL {p : Addr} {xs : List V} {i : Int} {v : V} (h : H p = some (.lst xs)) (e : atI xs i = some v) (q : Q v H) : rIxL K (.ref p) (.int i) H Q := ⟨p, xs, i, v, rfl, rfl, SqL.of h, e, q⟩
theorem ixN {p : Addr} {ns : List Int} {i : Int} (h : H p = some (.lst (ns.map V.int))) (h0 : 0 ≤ i) (h1 : i < (ns.length : Int)) (q : Q (.int (ns.getD i.toNat 0)) H) : rIxL K (.ref p) (.int i) H Q := ixL h (atI_ints h0 h1) q
theorem setN {p : Addr} {ns : List Int} {i v : Int} {q : Hp → Prop} (h : H p = some (.lst (ns.map V.int))) (h0 : 0 ≤ i) (h1 : i < (ns.length : Int)) (k : q (upd H p (.lst ((ns.set i.toNat v).map V.int)))) : rSetL (.ref p) (.int i) (.int v) H q :=
 ⟨p, _, i, _, rfl, rfl, h, ixN_ints h0 (by rw [List.length_map]; exact h1), by rw [← List.map_set]; exact k⟩
end
end Sx
namespace L2
open PySem PySem.Spec PyProof.Rows
def Ite (K : PySem.W.Frag) (a : Addr) : It :=
 ⟨fun i H => ∃ xs x, SqL K H a xs ∧ xs[i]? = some x, fun i H v H' => ∃ T x, v = .ref T ∧ H T = none ∧ (∀ xs, SqL K H a xs → xs[i]? = some x) ∧ H' = upd H T (.tup [.int i, x]), fun i H => ∃ xs, SqL K H a xs ∧ xs.length ≤ i⟩
theorem turn_enum {P : Program} {w : World} {K : PySem.W.Frag} {elts : List Expr} {x1} {pos : Pos} (a it e : Addr) (hne : e ≠ it) :
  Turn P w K (.Tuple elts x1 pos) (Ite K a) [e, it] e (fun i h => (∃ old, IsEnum h e it (i : Int) old) ∧ h.IsListIter it a i) where
 mem := by simp
 obj := fun i h st b hb => by
  obtain ⟨⟨old, he⟩, o, ho, c, d⟩ := st
  have hb' : b = e ∨ b = it := by simpa using hb
  rcases hb' with rfl | rfl
  ·exact ⟨_, he, fun v z => by
    have z' : Data.fields _ = Data.cell v := z
    cases z'⟩
  ·exact ⟨o, ho, fun v z => by rw [d] at z; cases z⟩
 keep := fun i h h' st k => by
  obtain ⟨⟨old, he⟩, hi⟩ := st
  exact ⟨⟨old, k e (by simp) _ he⟩, hi.at fun o q => k it (by simp) o q⟩
 item := by
  intro X hP hw hK hc i pins s σ H E I hf st hg
  subst hP hw hK
  obtain ⟨⟨old, he⟩, hit⟩ := st
  obtain ⟨xs, x, hq, hx⟩ := hg
  obtain ⟨its, rv, p, hz⟩ := I.list hq
  obtain ⟨u, hu, ru⟩ := rv.get hx
  have fe := hf e (by simp)
  have fi := hf it (by simp)
  refine wpAny_pyNext_enum_item he hit p.isList (x := u) (by simpa using hu) hne fun h1 ho hit1 hT hsz hk => ⟨_, rfl, wpAny_letOwnedTupleGo_enum ho fun h2 he2 hs2 => ?_⟩
  replace hs2 : Heap.SameBut e h1 h2 := hs2
  have fr : H s.heap.objs.size = none := I.hok.fresh (Nat.le_refl _)
  have neT : s.heap.objs.size ≠ e := fun z => by rw [z] at fr; exact absurd (Heap.lt_size he) (by rw [z]; exact Nat.lt_irrefl _)
  have keep : ∀ b o, b ≠ e → b ≠ it → s.heap.get? b = some o → h2.get? b = some o := fun b o n1 n2 q => (hs2.2 b n1).trans (hk b o n1 n2 q)
  have nT : ∀ b u, H b = some u → b ≠ s.heap.objs.size := fun b u q z => by rw [z, fr] at q; cases q
  have ne1 : ∀ b u, H b = some u → b ≠ e := fun b u q z => by rw [z, fe.1] at q; cases q
  have ne2 : ∀ b u, H b = some u → b ≠ it := fun b u q z => by rw [z, fi.1] at q; cases q
  refine ⟨.ref s.heap.objs.size, upd H s.heap.objs.size (.tup [.int i, x]), ?_, rfl, ⟨_, x, rfl, fr, fun ys hy => by rw [I.list_inj hy hq]; exact hx, rfl⟩, ⟨⟨_, by simpa using he2⟩, ?_⟩, fun b hb => ?_⟩
  ·refine I.call' (ch := [e, it]) rfl ⟨fun b o q k hb hx => ?_, fun b o q k hb hx => ?_, fun b o q k hx => ?_, fun b o q hx => ?_, fun b xs q => ?_, fun b o u q => ?_, fun b ps q => ?_⟩ (fun b v q => ?_) I.bare fun b hb => ?_
   ·exact keep b o (fun z => hx (by simp [z])) (fun z => hx (by simp [z])) q
   ·exact ⟨o.slots, keep b o (fun z => hx (by simp [z])) (fun z => hx (by simp [z])) q⟩
   ·rw [upd_ne (Nat.ne_of_lt (Heap.lt_size q))]; exact k
   ·exact ⟨o, keep b o (fun z => hx (by simp [z])) (fun z => hx (by simp [z])) q⟩
   ·rw [upd_ne (nT _ _ q)]; exact q
   ·rw [upd_ne (nT _ _ q)]; exact q
   ·exact ⟨#[], by rw [upd_ne (nT _ _ q), q]; simp⟩
   ·by_cases hb : b = s.heap.objs.size
    ·subst hb
     rw [upd_same] at q
     cases q
     exact ⟨by show 2 ≤ sizeLine; decide, [.int i s.toks, u], .cons ⟨_, rfl⟩ (.cons ru .nil), ⟨_, (hs2.2 _ neT).trans hT, rfl, _, rfl⟩⟩
    ·rw [upd_ne hb] at q
     refine (I.hok b v q).stay (fun c v' hc q' => ?_) (fun c q' => ?_) fun c xs q' => ?_
     ·rcases hc with z | z
      ·exact keep c v' (by rw [z]; exact ne1 b v q) (by rw [z]; exact ne2 b v q) q'
      ·exact keep c v' (ne1 c _ z) (ne2 c _ z) q'
     ·rw [upd_ne (nT _ _ q')]; exact q'
     ·rw [upd_ne (nT _ _ q')]; exact q'
   ·have f := hf b hb
    exact ⟨f.2.2.2.1, f.2.1, f.2.2.2.2.1, f.2.2.2.2.2⟩
  ·exact hit1.extBut hs2.extBut (Ne.symm hne)
  ·have f := hf b hb
   rw [upd_ne fun z => ?_]
   ·exact f.1
   ·have hb' : b = e ∨ b = it := by simpa using hb
    rcases hb' with rfl | rfl
    ·exact neT z.symm
    ·obtain ⟨o, ho, _⟩ := hit
     exact absurd (Heap.lt_size ho) (by rw [z]; exact Nat.lt_irrefl _)
 done := by
  intro X hP hw hK hc i pins s σ H E I hf st hg
  subst hP hw hK
  obtain ⟨⟨old, he⟩, hit⟩ := st
  obtain ⟨xs, hq, hx⟩ := hg
  obtain ⟨its, rv, p, hz⟩ := I.list hq
  obtain ⟨f0, f1, f2, f3, f4, f5⟩ := hf it (by simp)
  have hl := rv.length
  exact wpAny_pyNext_enum_end (I.ok.hd hc) he hit p.isList (by simp; omega) fun h' eb => ⟨rfl, I.turned (t' := s.toks) (fun b o hb e => eb b o hb e) f0 f1 f3 f4 f5⟩
 self := fun _ _ _ _ _ st h => by
  obtain ⟨⟨old, he⟩, _⟩ := st
  exact wpAny_pyIter_enum he h
section
variable {X : Cx}
def iEnum (K : PySem.W.Frag) (ta : TA) : TI := fun σ H R => ta σ H fun vs H1 => ∃ a xs, vs = [.ref a] ∧ SqL K H1 a xs ∧ R (Ite K a) H1
theorem bo_enumerate : bootBuiltins "enumerate" = some (.type "enumerate") := by decide +kernel
theorem pi_enum {elts : List Expr} {x1} {tpos : Pos} {a : Expr} {ta : TA} {p pos : Pos} (hg : Gl X "enumerate") (hm : X.mg "enumerate" = none) (ha : PA X [a] ta) (hs : starEach [a] X.env = [(false, eval a X.env)] := by rfl) :
  PI X (.Tuple elts x1 tpos) (.Call (.Name "enumerate" p) [a] [] pos) (iEnum X.K ta) := by
 intro pins s σ H R I h
 refine Call_ (ld_blt I hg hm bo_enumerate (PyProof.Rows.callWith_type1 (thn (ha pos pins s σ H _ I h) fun us s1 ⟨vs, H1, I1, r1, q1⟩ => ?_) hs rfl))
 obtain ⟨l, xs, e, hq, q⟩ := q1
 subst e
 cases r1 with
 | cons r rr =>
  cases rr
  cases r
  obtain ⟨its, rv, pl, hz⟩ := I1.list hq
  refine call_enumerate_list pl.isList fun h' hE hI hsz hk => ?_
  refine wpAny_pyIter_enum (s := { s1 with heap := h' }) hE ?_
  refine ⟨s1.heap.objs.size + 1, [s1.heap.objs.size + 1, s1.heap.objs.size], _, _, H1, rfl, I1.kept (t' := s1.toks) hk, turn_enum l s1.heap.objs.size (s1.heap.objs.size + 1) (Nat.succ_ne_self _), ⟨⟨_, hE⟩, hI⟩, fun b hb => ?_, q⟩
  have hb' : s1.heap.objs.size ≤ b := by
   have hb2 : b = s1.heap.objs.size + 1 ∨ b = s1.heap.objs.size := by simpa using hb
   rcases hb2 with rfl | rfl
   ·exact Nat.le_succ _
   ·exact Nat.le_refl _
  exact I1.fpOk hb' (I1.hok.fresh hb')
theorem for_enum {K : PySem.W.Frag} {a : Addr} {xs : List V} {g : TG} {tb : TS} {D : Ends} {σ : St} {H : Hp} (Pv : Nat → St → Hp → Prop) (h0 : Pv 0 σ H) (hl : ∀ i σ H, i ≤ xs.length → Pv i σ H → SqL K H a xs)
  (hs : ∀ i x T σ H, xs[i]? = some x → Pv i σ H → H T = none → g (.ref T) σ (upd H T (.tup [.int i, x])) fun σ2 H2 => tb { D with nx := Pv (i + 1), ct := Pv (i + 1), bk := D.nx } σ2 H2) (hd : ∀ σ H, Pv xs.length σ H → D.nx σ H) :
  ∃ W : Nat → Nat → St → Hp → Prop, (∃ m, W 0 m σ H) ∧ ∀ i m σ H, W i m σ H →
   ((Ite K a).stop i H ∧ D.nx σ H) ∨ ((Ite K a).go i H ∧ ∃ N : St → Hp → Prop, (∀ σ' H', N σ' H' → ∃ m', m' < m ∧ W (i + 1) m' σ' H') ∧ ∀ x H', (Ite K a).yld i H x H' → g x σ H' fun σ2 H2 => tb { D with nx := N, ct := N, bk := D.nx } σ2 H2) := by
 refine ⟨fun i m σ H => m = xs.length - i ∧ i ≤ xs.length ∧ Pv i σ H, ⟨xs.length, by simp, Nat.zero_le _, h0⟩, ?_⟩
 rintro i m σ H ⟨rfl, hi, p⟩
 have q := hl i σ H hi p
 by_cases hlt : i < xs.length
 ·refine .inr ⟨⟨xs, xs[i], q, by simp [hlt]⟩, Pv (i + 1), fun σ' H' p' => ⟨xs.length - (i + 1), by omega, rfl, hlt, p'⟩, fun x H' y => ?_⟩
  obtain ⟨T, v, e1, e2, y, e3⟩ := y
  subst e1 e3
  exact hs i v T σ H (y xs q) p e2
 ·have e : i = xs.length := by omega
  subst e
  exact .inl ⟨⟨xs, q, Nat.le_refl _⟩, hd σ H p⟩
end
section
variable {X : Cx} {xs : List Str} {pos : Pos} {iter elt tgt : Expr} {g : TG} {ifs : List Expr} {scope : Scope} {cl : List (Str × Addr)} {wi : TI} {tc : TT} {te : TE} {fr : List (Str × Nat)}
end
end L2
namespace L2
open PySem PySem.Spec PyProof.Rows
theorem filter_take_succ {α β : Type} {xs : List α} {i : Nat} {x : α} (p : α → Bool) (f : α → β) (e : xs[i]? = some x) :
  ((xs.take (i + 1)).filter p).map f = ((xs.take i).filter p).map f ++ (if p x = true then [f x] else []) := by
 have hi : i < xs.length := by
  rcases Nat.lt_or_ge i xs.length with h | h
  ·exact h
  ·rw [List.getElem?_eq_none h] at e; cases e
 rw [List.take_succ, e, Option.toList_some, List.filter_append, List.map_append]
 by_cases h : p x = true
 ·rw [if_pos h, List.filter_cons_of_pos h, List.filter_nil]; rfl
 ·rw [if_neg h, List.filter_cons_of_neg h, List.filter_nil]; rfl
theorem lc_rangeI {lo : Int} {n : Nat} {fr : List (Str × Nat)} {te : TE} {σ : St} {H : Hp} {Qp : Addr → List V → Hp → Prop} (I : Nat → List V → Hp → Prop) (hn : n ≤ sizeLine) (h0 : I 0 [] H) (hl : ∀ i acc H', I i acc H' → acc.length = i)
  (hf : ∀ i acc H', i < n → I i acc H' → ∀ Q' : VK, (∀ v H2, I (i + 1) (acc ++ [v]) H2 → Q' v H2) → te (some (.int (lo + i)) :: frv fr σ) H' Q') (hQ : ∀ acc H', I n acc H' → ∀ p, H' p = none → Qp p acc H') :
  ∃ W : Nat → Nat → List V → Hp → Prop, (∃ m, W 0 m [] H) ∧ ∀ i m acc H, W i m acc H →
   ((Itr lo n).stop i H ∧ acc.length ≤ sizeLine ∧ ∀ p, H p = none → Qp p acc H) ∨
   ((Itr lo n).go i H ∧ ∀ x H', (Itr lo n).yld i H x H' → tYes (some x :: frv fr σ) H' fun b H2 => if b = true then te (some x :: frv fr σ) H2 fun v H3 => acc.length < sizeLine ∧ ∃ m', m' < m ∧ W (i + 1) m' (acc ++ [v]) H3
    else ∃ m', m' < m ∧ W (i + 1) m' acc H2) := by
 refine ⟨fun i m acc H' => I i acc H' ∧ i ≤ n ∧ m = n - i, ⟨n, h0, Nat.zero_le _, by simp⟩, ?_⟩
 rintro i m acc H' ⟨hI, hi, rfl⟩
 have el := hl i acc H' hI
 by_cases hlt : i < n
 ·refine .inr ⟨hlt, fun x H1 y => ?_⟩
  obtain ⟨e, y⟩ := y
  subst e y
  dsimp only [tYes]
  rw [if_pos rfl]
  exact hf i acc _ hlt hI _ fun v H2 q => ⟨by omega, n - (i + 1), by omega, q, hlt, rfl⟩
 ·have e : i = n := by omega
  subst e
  exact .inl ⟨Nat.le_refl _, by omega, hQ acc H' hI⟩
theorem lc_list {K : PySem.W.Frag} {a : Addr} {xs : List V} {fr : List (Str × Nat)} {tc : TT} {te : TE} {σ : St} {H : Hp} {Qp : Addr → List V → Hp → Prop} (p : V → Bool) (f : V → V) (hq : SqL K H a xs) (hn : xs.length ≤ sizeLine)
  (hc : ∀ x ∈ xs, ∀ Q' : Bool → Hp → Prop, Q' (p x) H → tc (some x :: frv fr σ) H Q')
  (hf : ∀ x ∈ xs, p x = true → ∀ Q' : VK, Q' (f x) H → te (some x :: frv fr σ) H Q') (hQ : ∀ q, H q = none → Qp q ((xs.filter p).map f) H) :
  ∃ W : Nat → Nat → List V → Hp → Prop, (∃ m, W 0 m [] H) ∧ ∀ i m acc H, W i m acc H →
   ((Itl K a).stop i H ∧ acc.length ≤ sizeLine ∧ ∀ p, H p = none → Qp p acc H) ∨
   ((Itl K a).go i H ∧ ∀ x H', (Itl K a).yld i H x H' → tc (some x :: frv fr σ) H' fun b H2 => if b = true then te (some x :: frv fr σ) H2 fun v H3 => acc.length < sizeLine ∧ ∃ m', m' < m ∧ W (i + 1) m' (acc ++ [v]) H3
    else ∃ m', m' < m ∧ W (i + 1) m' acc H2) := by
 refine ⟨fun i m acc H' => H' = H ∧ i ≤ xs.length ∧ m = xs.length - i ∧ acc = ((xs.take i).filter p).map f, ⟨xs.length, rfl, Nat.zero_le _, by simp, by simp⟩, ?_⟩
 rintro i m acc H' ⟨rfl, hi, rfl, rfl⟩
 have el : (((xs.take i).filter p).map f).length ≤ i := by
  rw [List.length_map]
  exact Nat.le_trans (List.length_filter_le _ _) (by rw [List.length_take]; omega)
 by_cases hlt : i < xs.length
 ·refine .inr ⟨⟨xs, xs[i], hq, by simp [hlt]⟩, fun x H1 y => ?_⟩
  obtain ⟨e, y⟩ := y
  subst e
  have ex := y xs hq
  have hx : x ∈ xs := List.mem_of_getElem? ex
  refine hc x hx _ ?_
  have es := filter_take_succ p f ex
  by_cases hp : p x = true
  ·rw [if_pos hp] at es ⊢
   exact hf x hx hp _ ⟨by omega, _, by omega, rfl, hlt, rfl, es.symm⟩
  ·rw [if_neg hp] at es ⊢
   exact ⟨_, by omega, rfl, hlt, rfl, by rw [es, List.append_nil]⟩
 ·have e : i = xs.length := by omega
  subst e
  refine .inl ⟨⟨xs, hq, Nat.le_refl _⟩, by omega, ?_⟩
  rw [List.take_length]
  exact hQ
theorem lc_listI {K : PySem.W.Frag} {a : Addr} {xs : List V} {fr : List (Str × Nat)} {te : TE} {σ : St} {H : Hp} {Qp : Addr → List V → Hp → Prop} (I : Nat → List V → Hp → Prop) (hn : xs.length ≤ sizeLine) (h0 : I 0 [] H) (hl : ∀ i acc H', I i acc H' → acc.length = i) (hs : ∀ i acc H', I i acc H' → SqL K H' a xs)
  (hf : ∀ i x acc H', xs[i]? = some x → I i acc H' → ∀ Q' : VK, (∀ v H2, I (i + 1) (acc ++ [v]) H2 → Q' v H2) → te (some x :: frv fr σ) H' Q') (hQ : ∀ acc H', I xs.length acc H' → ∀ p, H' p = none → Qp p acc H') :
  ∃ W : Nat → Nat → List V → Hp → Prop, (∃ m, W 0 m [] H) ∧ ∀ i m acc H, W i m acc H →
   ((Itl K a).stop i H ∧ acc.length ≤ sizeLine ∧ ∀ p, H p = none → Qp p acc H) ∨
   ((Itl K a).go i H ∧ ∀ x H', (Itl K a).yld i H x H' → tYes (some x :: frv fr σ) H' fun b H2 => if b = true then te (some x :: frv fr σ) H2 fun v H3 => acc.length < sizeLine ∧ ∃ m', m' < m ∧ W (i + 1) m' (acc ++ [v]) H3
    else ∃ m', m' < m ∧ W (i + 1) m' acc H2) := by
 refine ⟨fun i m acc H' => I i acc H' ∧ i ≤ xs.length ∧ m = xs.length - i, ⟨xs.length, h0, Nat.zero_le _, by simp⟩, ?_⟩
 rintro i m acc H' ⟨hI, hi, rfl⟩
 have el := hl i acc H' hI
 have hq := hs i acc H' hI
 by_cases hlt : i < xs.length
 ·refine .inr ⟨⟨xs, xs[i], hq, by simp [hlt]⟩, fun x H1 y => ?_⟩
  obtain ⟨e, y⟩ := y
  subst e
  have ex := y xs hq
  dsimp only [tYes]
  rw [if_pos rfl]
  exact hf i x acc _ ex hI _ fun v H2 q => ⟨by omega, xs.length - (i + 1), by omega, q, hlt, rfl⟩
 ·have e : i = xs.length := by omega
  subst e
  exact .inl ⟨⟨xs, hq, Nat.le_refl _⟩, by omega, hQ acc H' hI⟩
theorem Same.seqT {K : PySem.W.Frag} {H H' : Hp} {a : Addr} {xs : List V} (e : Same H H') (h : SqT K H a xs) : SqT K H' a xs := by
 rcases h with h | h
 ·rcases h with h | ⟨o, h⟩
  ·exact .inl (.inl (e _ _ h))
  ·exact .inl (.inr ⟨o, e _ _ h⟩)
 ·exact .inr h
theorem Same.new' {H H1 : Hp} {l : Addr} {o : HO} (s : Same H H1) (n : H1 l = none) : Same H (upd H1 l o) := fun b u e => by rw [upd_ne (ne_of_none (s b u e) n)]; exact s b u e
end L2
namespace L2
open PySem PySem.Spec PyProof.Rows
section
variable {X : Cx} {K : PySem.W.Frag} {a e : Expr} {ta : TE} {f : Str} {pos : Pos}
theorem ix_listK (h : X.K = K) : IxR X (rIxL K) := by subst h; exact ix_list
theorem ix_tupK (h : X.K = K) : IxR X (rIxT K) := by subst h; exact ix_tup
theorem pg_tupK {es : List Expr} {k : Nat} {t : TGs} {n : Nat} (h : X.K = K) (hc : X.calm = true) (hp : PGs X es t)
  (hn : (assignEach es X.env).length = n := by rfl) (hst : (assignEach es X.env).findIdx? (·.1) = none := by rfl) : PG X (.Tuple es k pos) (gTup K n t) := by subst h; exact pg_tup hc hp hn hst
theorem pe_fldK (h : X.K = K) (he : PE X e ta) (hb : attributeBase e f X.env (eval e X.env) = eval e X.env) : PE X (.Attribute e f pos) (tFld K ta f) := by subst h; exact pe_fld he hb
theorem op_eqDK (h : X.K = K) (hu : X.A.units + 64 < cLine) : OpR X (compareOp .Eq) (rEqD K) := by subst h; exact op_eqD hu
theorem op_neDK (h : X.K = K) (hu : X.A.units + 64 < cLine) : OpR X (compareOp .NotEq) (rNeD K) := by subst h; exact op_neD hu
theorem pi_enumK {elts : List Expr} {x1} {tpos : Pos} {ta : TA} {p : Pos} (h : X.K = K) (hg : Gl X "enumerate") (hm : X.mg "enumerate" = none) (ha : PA X [a] ta) (hs : starEach [a] X.env = [(false, eval a X.env)] := by rfl) :
  PI X (.Tuple elts x1 tpos) (.Call (.Name "enumerate" p) [a] [] pos) (iEnum K ta) := by subst h; exact pi_enum hg hm ha hs
theorem pi_listK {tg : Expr} (h : X.K = K) (hl : PE X e ta) : PI X tg e (iList K ta) := by subst h; exact pi_list hl
theorem pi_tupK {tg : Expr} (h : X.K = K) (hl : PE X e ta) : PI X tg e (iTup K ta) := by subst h; exact pi_tup hl
theorem ps_fldK {o value : Expr} {tv : TE} {pos' : Pos} (h : X.K = K) (ha : PE X o ta) (hv : PE X value tv) (hs : swapsWith value (some (.Attribute o f pos')) pos.line X.env = pure false) : PS X (.Assign [.Attribute o f pos'] value pos) (sFld K ta tv f) := by subst h; exact ps_fld ha hv hs
theorem sl_listK (h : X.K = K) : SlR X (rSlL K) := by subst h; exact sl_list
theorem call_isinstK (h : X.K = K) : CallR X (.builtin "isinstance") (fun xs H Q => ∃ x n t b, xs = [x, .ty n] ∧ TyOf K H x t ∧ PySem.W.kitOne K t (.type n) = some b ∧ Q (.bl b) H) := by subst h; exact call_isinst
theorem call_list_ofK (h : X.K = K) : CallR X (.type "list") (fun xs H Q => ∃ p ys, xs = [.ref p] ∧ (SqL K H p ys ∨ SqT K H p ys) ∧ ∀ l, H l = none → Q (.ref l) (upd H l (.lst ys))) := by subst h; exact call_list_of
theorem call_tuple_ofK (h : X.K = K) : CallR X (.type "tuple") (fun xs H Q => ∃ p ys, xs = [.ref p] ∧ ((SqL K H p ys ∧ ∀ l, H l = none → Q (.ref l) (upd H l (.tup ys))) ∨ (SqT K H p ys ∧ Q (.ref p) H))) := by subst h; exact call_tuple_of
theorem bo_str : bootBuiltins "str" = some (.type "str") := by decide +kernel
def tTru (K : PySem.W.Frag) (ta : TE) : TT := fun σ H Q => ta σ H fun x H' => ∃ k, TruV K x H' k ∧ Q k H'
theorem pt_truthK (h : X.K = K) (ha : PE X a ta) (he : ∀ whole, isTrue a X.env whole = (do let v ← whole; standAt a.pos; holding [v] (truthy v))) : PT X a (tTru K ta) := by subst h; exact pt_truth ha he
theorem call_len_seqK (h : X.K = K) : CallR X (.builtin "len") (fun xs H Q => ∃ p ys, xs = [.ref p] ∧ (SqL K H p ys ∨ SqT K H p ys) ∧ Q (.int ys.length) H) := by subst h; exact call_len_seq
end
end L2
namespace L2
open PySem PySem.Spec PyProof.Rows
def noStar : Expr → Bool
 | .Starred .. => false
 | _ => true
theorem star_ns {e : Expr} {es : List Expr} {env : Env} (h : noStar e = true) : starEach (e :: es) env = (false, eval e env) :: starEach es env := by
 cases e <;> first | rfl | cases h
theorem any_ns {pos : Pos} {env : Env} : ∀ {es : List Expr}, es.all noStar = true → (backTo pos (starEach es env)).any (·.1) = false
 | [], _ => rfl
 | e :: es, h => by
  rw [List.all_cons, Bool.and_eq_true] at h
  rw [star_ns h.1]
  show (false || (backTo pos (starEach es env)).any (·.1)) = false
  rw [any_ns h.2]
  rfl
section
variable {X : Cx} {x : Str} {ps : List Str} {k : Nat} {sp : Sp} {e : Expr} {es : List Expr} {t : TA} {te : TE} {p pos : Pos} {C : Addr} {r : List V → Hp → VK → Prop} {id T : String}
def cInt : Expr → Option Int
 | .Constant (.int i) _ _ => some i
 | _ => none
def cInts : List Expr → Option (List Int)
 | [] => some []
 | e :: es => (cInt e).bind fun i => (cInts es).map fun r => i :: r
def tInts (ns : List Int) : TA := fun _ H Q => Q (ns.map V.int) H
theorem pa_ints : ∀ {es : List Expr} {ns : List Int}, cInts es = some ns → PA X es (tInts ns)
 | [], ns, h => by
  cases h
  exact pa_nil
 | e :: es, ns, h => by
  rw [cInts] at h
  cases e1 : cInt e with
  | none => rw [e1] at h; cases h
  | some i =>
   cases e2 : cInts es with
   | none => rw [e1, e2] at h; cases h
   | some r =>
    rw [e1, e2] at h
    cases h
    have hr := pa_ints e2
    have : ∃ j p, e = .Constant (.int i) j p := by
     unfold cInt at e1
     split at e1
     ·cases e1; exact ⟨_, _, rfl⟩
     ·cases e1
    obtain ⟨j, p, rfl⟩ := this
    exact pa_cons pe_int hr (star_ns rfl)
theorem pa_c (ha : PE X e te) (hr : PA X es t) (h : noStar e = true := by rfl) : PA X (e :: es) (tCons te t) := pa_cons ha hr (star_ns h)
theorem pe_gcallN (G : GF X.prog X.w X.K X.mg X.base x ps k sp) (hr : Room k X.A) (hg : Gl X x) (ha : PA X (e :: es) t) (hdb : (x == ("__debug__" : Str)) = false := by decide)
  (h : (e :: es).all noStar = true := by rfl) : PE X (.Call (.Name x p) (e :: es) [] pos) (tCall sp [] E0 t) :=
 pe_gcall G hr hg ha hdb (star_ns (Bool.and_eq_true_iff.mp h).1) (any_ns (Bool.and_eq_true_iff.mp h).2)
theorem pe_gmakeN (G : GC X.prog X.w X.K X.mg X.base x C ps k sp) (hr : Room (k + 1) X.A) (hg : Gl X x) (ha : PA X (e :: es) t) (hdb : (x == ("__debug__" : Str)) = false := by decide)
  (h : (e :: es).all noStar = true := by rfl) : PE X (.Call (.Name x p) (e :: es) [] pos) (tMake C sp [] E0 t) :=
 pe_gmake G hr hg ha hdb (star_ns (Bool.and_eq_true_iff.mp h).1) (any_ns (Bool.and_eq_true_iff.mp h).2)
theorem pe_callBN (hc : CallR X (.builtin id) r) (hg : Gl X x) (hm : X.mg x = none) (hv : bootBuiltins x = some (.builtin id)) (ha : PA X (e :: es) t) (hn : x ≠ "__name__" := by decide) (hdb : (x == ("__debug__" : Str)) = false := by decide)
  (h : (e :: es).all noStar = true := by rfl) : PE X (.Call (.Name x p) (e :: es) [] pos) (tCB r t) :=
 pe_callB hc hg hm hv ha hn hdb (star_ns (Bool.and_eq_true_iff.mp h).1) (any_ns (Bool.and_eq_true_iff.mp h).2)
theorem pe_callTyN (hc : CallR X (.type T) r) (hg : Gl X x) (hm : X.mg x = none) (hv : bootBuiltins x = some (.type T)) (ha : PA X (e :: es) t) (hn : x ≠ "__name__" := by decide) (hdb : (x == ("__debug__" : Str)) = false := by decide)
  (h : (e :: es).all noStar = true := by rfl) : PE X (.Call (.Name x p) (e :: es) [] pos) (tCB r t) :=
 pe_callTy hc hg hm hv ha hn hdb (star_ns (Bool.and_eq_true_iff.mp h).1) (any_ns (Bool.and_eq_true_iff.mp h).2)
end
end L2
namespace Sx
open PySem L2
section
variable {σ : St} {H : Hp} {Q : VK} {QT : Bool → Hp → Prop} {D : Ends} {K : PySem.W.Frag} {t : TS} {E : XK}
theorem cut (R : St → Hp → Prop) (h : t { D with nx := R } σ H) (k : ∀ σ' H', R σ' H' → D.nx σ' H') : tCut t D σ H := ⟨R, h, k⟩
theorem lc {wi : TI} {fr : List (Str × Nat)} {tc : TT} {te : TE} (h : wi σ H fun J H1 => ∃ W : Nat → Nat → List V → Hp → Prop, (∃ m, W 0 m [] H1) ∧ ∀ i m acc H, W i m acc H →
 (J.stop i H ∧ acc.length ≤ sizeLine ∧ ∀ p, H p = none → Q (.ref p) (upd H p (.lst acc))) ∨
 (J.go i H ∧ ∀ x H', J.yld i H x H' → tc (some x :: frv fr σ) H' fun b H2 => if b = true then te (some x :: frv fr σ) H2 fun v H3 => acc.length < sizeLine ∧ ∃ m', m' < m ∧ W (i + 1) m' (acc ++ [v]) H3
  else ∃ m', m' < m ∧ W (i + 1) m' acc H2)) : tLC wi fr tc te σ H Q := h
theorem iL {ta : TE} {R : It → Hp → Prop} (h : ta σ H fun x H1 => ∃ a, x = .ref a ∧ (∃ xs, SqL K H1 a xs) ∧ R (Itl K a) H1) : iList K ta σ H R := h
theorem iT {ta : TE} {R : It → Hp → Prop} (h : ta σ H fun x H1 => ∃ a, x = .ref a ∧ (∃ xs, SqT K H1 a xs) ∧ R (Itt K a) H1) : iTup K ta σ H R := h
theorem iE {ta : TA} {R : It → Hp → Prop} (h : ta σ H fun vs H1 => ∃ a xs, vs = [.ref a] ∧ SqL K H1 a xs ∧ R (Ite K a) H1) : iEnum K ta σ H R := h
theorem iR1 {ta : TA} {R : It → Hp → Prop} (h : ta σ H fun vs H1 => ∃ j : Int, vs = [.int j] ∧ -(2 ^ 62) ≤ j ∧ j < 2 ^ 62 ∧ R (Itr 0 j.toNat) H1) : iRng1 ta σ H R := h
theorem for_ {wi : TI} {g : TG} {tb : TS} (h : wi σ H fun J H1 => ∃ W : Nat → Nat → St → Hp → Prop, (∃ m, W 0 m σ H1) ∧ ∀ i m σ H, W i m σ H →
 (J.stop i H ∧ D.nx σ H) ∨ (J.go i H ∧ ∃ N : St → Hp → Prop, (∀ σ' H', N σ' H' → ∃ m', m' < m ∧ W (i + 1) m' σ' H') ∧ ∀ x H', J.yld i H x H' → g x σ H' fun σ2 H2 => tb { D with nx := N, ct := N, bk := D.nx } σ2 H2)) : tFor wi g tb D σ H := h
theorem make {C : Addr} {sp : Sp} {dvs : List V} {ta : TA} (h : ta σ H fun vs H1 => ∀ x dx, H1 x = none → H1 dx = none → dx ≠ x → sp (.ref x :: (vs ++ dvs)) (upd (upd H1 dx (.own x)) x (.ins C dx [])) (fun v H2 => v = .non ∧ Q (.ref x) H2) E) : tMake C sp dvs E ta σ H Q := h
theorem sfld {ta tv : TE} {f : Str} (h : tv σ H fun y H1 => ta σ H1 fun x H2 => ∃ a C dx fs, x = .ref a ∧ H2 a = some (.ins C dx fs) ∧ Cls K C ∧ NoAttr K C f ∧ fs.length < 1000 ∧ D.nx σ (upd H2 a (.ins C dx (putF f y fs)))) : sFld K ta tv f D σ H := h
theorem intsA {ns : List Int} {QA : List V → Hp → Prop} (h : QA (ns.map V.int) H) : tInts ns σ H QA := h
theorem sl {r : V → Option Int → Option Int → Hp → VK → Prop} {te : TE} {tl th : TO} (h : te σ H fun x H1 => tl σ H1 fun l H2 => th σ H2 fun u H3 => r x l u H3 Q) : tSl r te tl th σ H Q := h
theorem part {te : TE} {QO : Option Int → Hp → Prop} (h : te σ H fun x H1 => ∃ i, x = .int i ∧ QO (some i) H1) : tPart te σ H QO := h
theorem nopart {QO : Option Int → Hp → Prop} (h : QO none H) : tNoPart σ H QO := h
theorem isI {i : Int} {P : Int → Prop} (q : P i) : ∃ k, V.int i = .int k ∧ P k := ⟨i, rfl, q⟩
theorem tru {ta : TE} (h : ta σ H fun x H' => ∃ k, TruV K x H' k ∧ QT k H') : tTru K ta σ H QT := h
theorem truL {p : Addr} {xs : List V} {P : Bool → Prop} (h : H p = some (.lst xs)) (q : P (!xs.isEmpty)) : ∃ k, TruV K (.ref p) H k ∧ P k := ⟨_, .inl ⟨xs, SqL.of h, rfl⟩, q⟩
theorem cat {l b : Addr} {xs zs : List V} (h1 : H l = some (.lst xs)) (h2 : H b = some (.lst zs)) (hz : xs.length + zs.length ≤ sizeLine) (q : ∀ p, H p = none → Q (.ref p) (upd H p (.lst (xs ++ zs)))) : rCat (.ref l) (.ref b) H Q := ⟨l, b, xs, zs, rfl, rfl, h1, h2, hz, q⟩
theorem slL {l : Addr} {xs : List V} {lo hi : Option Int} (h1 : H l = some (.lst xs)) (q : ∀ p, H p = none → Q (.ref p) (upd H p (.lst (cutV xs lo hi)))) : rSlL K (.ref l) lo hi H Q := ⟨l, xs, rfl, SqL.of h1, q⟩
theorem bm {T : String} {r : V → List V → Hp → VK → Prop} {to : TE} {a : TA} (h : to σ H fun x H1 => tyV K T x H1 ∧ a σ H1 fun xs H2 => r x xs H2 Q) : tBM K T r to a σ H Q := h
theorem iteNT {A B : Prop} (h : B) : if (!true) = true then A else B := h
theorem iteNF {A B : Prop} (h : A) : if (!false) = true then A else B := h
theorem nonAnd {P : Prop} (q : P) : V.non = V.non ∧ P := ⟨rfl, q⟩
end
end Sx
namespace L2
open PySem PySem.Spec PyProof.Rows
section
variable {X : Cx} {x : Str} {px pos : Pos} {iter elt : Expr} {ifs : List Expr} {scope : Scope} {cl : List (Str × Addr)} {wi : TI} {tc : TT} {te : TE} {fr : List (Str × Nat)}
theorem ps_setLC {i : Nat} {yn : Str} {py spos : Pos} (hN : X.N.Nodup) (hiy : X.N[i]? = some yn) (hy : Loc X.env.scope yn) (hsw : swapsWith (.ListComp elt [⟨.Name x px, iter, ifs, 0⟩] scope pos) (some (.Name yn py)) spos.line X.env = pure true) (hc : X.calm = true) (hi : PI X (.Name x px) iter wi) (S : CompSc X scope cl x fr)
  (ht : ∀ C s H fp, PTs (compCx X (x :: fr.map (·.1)) scope cl C s H fp) ifs tc) (he : ∀ C s H fp, PE (compCx X (x :: fr.map (·.1)) scope cl C s H fp) elt te)
  (hs : ∀ v, foldedSetIterable iter X.env v = pure v := by intro _; rfl) (hf : X.fn yn = true ∨ X.env.scope.names.lookup yn = some .local := by first | exact .inl rfl | exact .inr rfl | assumption) :
  PS X (.Assign [.Name yn py] (.ListComp elt [⟨.Name x px, iter, ifs, 0⟩] scope pos) spos) (tAsg (tLC wi fr tc te) (gName i)) := by
 intro pins s σ H D I h
 rw [exec_Assign_Name_used _ _ _ _ hsw]
 refine wpAny_bind (wpAny_standAt (wpAny_bind ?_))
 show wpAny _ X.A (do let _ ← comprehension (.ListComp elt [⟨.Name x px, iter, ifs, 0⟩] scope pos) scope X.env _ (newList []) false (eval iter X.env) (some (assign (.Name yn py) X.env))) _ _ s
 refine wpAny_bind (wpAny_mono (wpAny_comprehension_free (use := some (assign (.Name yn py) X.env)) (Q := fun _ s' => SP X pins D .next s') (cl := cl) rfl hs S.clos S.kind S.locs (thn (hi pins s σ H _ I h) fun v s1 h1 => thn h1 fun itv s2 h2 => ?_)) (fun _ s' hq => wpAny_pure (wpAny_pure hq)) fun _ _ e => e)
 obtain ⟨it, fp, tn, J, H2, e, I2, T, st2, f2, W, ⟨m0, w0⟩, turn⟩ := h2
 subst e
 refine wpAny_newObj_type (wpAny_newFunctionEnv S.nocell (by intro y hy; simp at hy) (fun h₁ hns₁ hsb₁ => ?_) S.kind)
 dsimp only at hns₁ hsb₁ ⊢
 generalize hHp : s2.heap.push { cls := .type "list", dict := none, data := .seq ([] : List Value).toArray } = hp at hns₁ hsb₁ ⊢
 have eC : hp.objs.size = s2.heap.objs.size + 1 := by rw [← hHp, Heap.size_push]
 have hDC : s2.heap.objs.size ≠ hp.objs.size := by rw [eC]; exact Nat.ne_of_lt (Nat.lt_succ_self _)
 have hC : s2.heap.objs.size ≤ hp.objs.size := by rw [eC]; exact Nat.le_succ _
 have hD : s2.heap.objs.size ≤ s2.heap.objs.size := Nat.le_refl _
 have nC : ∀ b o, s2.heap.get? b = some o → b ≠ hp.objs.size := fun b o e => Nat.ne_of_lt (Nat.lt_of_lt_of_le (Heap.lt_size e) hC)
 have nD : ∀ b o, s2.heap.get? b = some o → b ≠ s2.heap.objs.size := fun b o e => Nat.ne_of_lt (Heap.lt_size e)
 have old : ∀ b o, s2.heap.get? b = some o → h₁.get? b = some o := fun b o e => hsb₁.extBut b o (nC b o e) (Heap.get?_push_of_some _ (hHp ▸ Heap.get?_push_of_some _ e))
 have eD : h₁.get? s2.heap.objs.size = some (oL [] 0) := hsb₁.extBut _ _ hDC (Heap.get?_push_of_some _ (hHp ▸ Heap.get?_push_size _ rfl))
 have ho : ∀ b ∈ fp, ∃ o, s2.heap.get? b = some o := fun b hb => by
  obtain ⟨o, e, _⟩ := T.obj 0 _ st2 b hb
  exact ⟨o, e⟩
 have J0 : Inv (compCx X (x :: fr.map (·.1)) scope cl hp.objs.size s2 H2 fp) [(s2.heap.objs.size, oL [] 0)] (none :: frv fr σ) H2 { s2 with heap := h₁, toks := s2.toks + ([] : List (Str × Value)).length } :=
  compCx_inv S I2 hC f2 ho rfl I2.bare old hns₁ hD hDC eD (oL_nc [] 0)
 have fpne : ∀ b ∈ fp, b ≠ s2.heap.objs.size := fun b hb => by
  obtain ⟨o, e⟩ := ho b hb
  exact nD b o e
 have fpC : ∀ b ∈ fp, b ≠ hp.objs.size := fun b hb => by
  obtain ⟨o, e⟩ := ho b hb
  exact nC b o e
 have okX := J0.ok
 have stat : ∀ {H' : Hp} {oD : Obj}, (∀ b ∈ fp, H' b = none) → ∀ b ∈ fp, FpOk (compCx X (x :: fr.map (·.1)) scope cl hp.objs.size s2 H2 fp) [(s2.heap.objs.size, oD)] H' b := fun {H' oD} hn b hb =>
  ⟨hn b hb, fpC b hb, okX.exfs b hb, .inl hb, (okX.exf b hb).2, fun p hp' => by
   have e : p = (s2.heap.objs.size, oD) := by
    have : p ∈ ([] : List (Addr × Obj)) ++ [(s2.heap.objs.size, oD)] := hp'
    simpa using this
   rw [e]
   exact (fpne b hb).symm⟩
 have st1 : tn 0 h₁ := T.keep _ _ _ st2 fun b _ o e => old b o e
 have loop : ∀ s₃ : Shared, s₃ = { s2 with heap := h₁, toks := s2.toks + ([] : List (Str × Value)).length } →
   codeAny (model X.prog X.w) X.A (.compLoop (.ListComp elt [⟨.Name x px, iter, ifs, 0⟩] scope pos) 0 (.ref it) (.ref s2.heap.objs.size) (compEnvC scope cl hp.objs.size X.env))
    (compPost (model X.prog X.w) X.A X.xe (some (assign (.Name yn py) X.env)) (fun _ s' => SP X pins D .next s') (.ref s2.heap.objs.size) hp.objs.size) s₃ := by
  rintro s₃ rfl
  refine compLoop_any (fun n s' => ∃ i y H' acc its k, Inv (compCx X (x :: fr.map (·.1)) scope cl hp.objs.size s2 H2 fp) [(s2.heap.objs.size, oL its k)] (y :: frv fr σ) H' s' ∧ tn i s'.heap ∧ (∀ b ∈ fp, H' b = none) ∧ Vals acc its ∧ W i n acc H') ?_ m0
   ⟨0, none, H2, [], [], 0, J0, st1, fun b hb => (f2 b hb).1, .nil, w0⟩
  rintro n s3 ⟨i, y, H3, acc, its, k, I3, st3, fr3, rv, w3⟩
  have noE : ∀ {α : Type} {t : Sem α} {Q' : α → Shared → Prop} {s' : Shared} {E' : Value → Shared → Prop}, wpAny (model X.prog X.w) X.A t Q' (fun _ _ => False) s' → wpAny (model X.prog X.w) X.A t Q' E' s' := fun {α t Q' s' E'} h => wpAny_mono h (fun _ _ q => q) fun _ _ z => z.elim
  rcases turn i n acc H3 w3 with ⟨stop, hz, qn⟩ | ⟨go, step⟩
  ·refine thn (T.done (compCx X (x :: fr.map (·.1)) scope cl hp.objs.size s2 H2 fp) rfl rfl rfl hc i _ s3 _ H3 _ I3 (stat fr3) st3 stop) fun r s4 ⟨hr, I4⟩ => ?_
   subst hr
   obtain ⟨m4, hn4, _⟩ := I4.loc
   have pD := I4.pin (s2.heap.objs.size, oL its k) (List.mem_append_right _ List.mem_cons_self)
   have I5 : Inv X pins σ (upd H3 s2.heap.objs.size (.lst acc)) s4 := comp_back I2 hC hD hDC f2 I4 rv hz ⟨rfl, fun _ _ => rfl⟩
   have nCl : hp.objs.size ≠ X.env.locals := fun z => absurd (Nat.lt_of_lt_of_le I2.lt hC) (by rw [z]; exact Nat.lt_irrefl _)
   have nCc : ∀ z c, X.env.cells.lookup z = some c → c ≠ hp.objs.size := fun z c e q => by
    obtain ⟨w', oc, hoc, _⟩ := I2.cell z c e
    exact nC c oc hoc q
   have HC : (upd H3 s2.heap.objs.size (.lst acc)) hp.objs.size = none := by rw [upd_ne hDC.symm]; exact I4.free
   show wpAny _ X.A (assign (.Name yn py) X.env (.ref s2.heap.objs.size)) _ _ s4
   refine wpAny_assign_Name (store_ok2 (v := .ref s2.heap.objs.size) I5 hN hiy hy rfl (fun s6 I6 hsb => ?_) hf)
   obtain ⟨ad, sb, hb⟩ := hsb
   have nCa : hp.objs.size ≠ ad := by
    rcases hb with e | e
    ·rw [e]; exact nCl
    ·exact fun q => nCc yn ad e q.symm
   refine ⟨m4, hn4.sameBut sb nCa, fun h'' sb2 => ⟨_, _, I6.turned (it := hp.objs.size) (t' := s6.toks) (fun b o hb' e => (sb2.2 b hb').trans e) HC nCl (.inr (Nat.le_trans I2.sz hC)) nCc fun p hp' z => ?_, qn _ pD.2.1⟩⟩
   exact nC p.1 p.2 (I2.pin p hp').1 z
  ·refine thn (T.item (compCx X (x :: fr.map (·.1)) scope cl hp.objs.size s2 H2 fp) rfl rfl rfl hc i _ s3 _ H3 _ I3 (stat fr3) st3 go) fun r s4 ⟨u, hr, h4⟩ => ?_
   subst hr
   refine thn h4 fun _ s5 ⟨xv, H5, I5, r5, y5, st5, fr5⟩ => ?_
   have I5' := I5.pinned (stat fr5) (T.obj _ _ st5)
   have hx' : (relabel scope X.env).names.lookup x = some .local := lookup_relabel_local S.here
   refine wpAny_assign_Name (store_ok (i := 0) I5' S.nd rfl (.inl hx') r5 (fun s6 I6 => ?_) (.inr hx'))
   have I6' : Inv (compCx X (x :: fr.map (·.1)) scope cl hp.objs.size s2 H2 fp) ([(s2.heap.objs.size, oL its k)] ++ pinsAt fp s5.heap) (some xv :: frv fr σ) H5 s6 := I6
   refine noE (thn (ht _ _ _ _ _ s6 _ H5 _ I6' (step xv H5 y5)) fun b s7 ⟨H7, I7, q7⟩ => ?_)
   have back : ∀ {σ8 : St} {H8 : Hp} {s8 : Shared}, Inv (compCx X (x :: fr.map (·.1)) scope cl hp.objs.size s2 H2 fp) ([(s2.heap.objs.size, oL its k)] ++ pinsAt fp s5.heap) σ8 H8 s8 → tn (i + 1) s8.heap ∧ ∀ b ∈ fp, H8 b = none := fun {σ8 H8 s8} I8 => by
    refine ⟨T.keep _ _ _ st5 fun b hb o e => (I8.pin (b, o) (List.mem_append_right _ (List.mem_append_right _ (mem_pinsAt hb e)))).1, fun b hb => ?_⟩
    obtain ⟨o, e, d⟩ := T.obj _ _ st5 b hb
    exact (I8.pin (b, o) (List.mem_append_right _ (List.mem_append_right _ (mem_pinsAt hb e)))).2.1
   cases b with
   | false =>
    rw [if_neg Bool.false_ne_true] at q7 ⊢
    obtain ⟨m', hm, w7⟩ := q7
    obtain ⟨t7, n7⟩ := back I7
    exact ⟨m', hm, i + 1, _, H7, acc, its, k, I7.unpinned, t7, n7, rv, w7⟩
   | true =>
    rw [if_pos rfl] at q7 ⊢
    refine noE (thn (he _ _ _ _ _ s7 _ H7 _ I7 q7) fun u8 s8 ⟨v8, H8, I8, r8, hlt, m', hm, w8⟩ => ?_)
    obtain ⟨t8, n8⟩ := back I8
    have pD := I8.pin (s2.heap.objs.size, oL its k) (List.mem_append_right _ (List.mem_append_left _ List.mem_cons_self))
    have hl := rv.length
    refine wpAny_list_append_plain (items := its.toArray) ⟨k, pD.1⟩ (fun h9 ⟨k9, e9⟩ sb9 => ?_) (by rw [List.size_toArray]; omega)
    have e9' : h9.get? s2.heap.objs.size = some (oL (its ++ [u8]) k9) := by
     rw [e9]
     simp [oL]
    have I9 : Inv (compCx X (x :: fr.map (·.1)) scope cl hp.objs.size s2 H2 fp) [] (some xv :: frv fr σ) H8 { s8 with heap := h9, toks := s8.toks } :=
     (I8.pins_of (pins' := []) fun p z => absurd z (by simp)).turned (it := s2.heap.objs.size) (fun b o hb e => (sb9.2 b hb).trans e) pD.2.1 hDC (.inr hD) (fun y c e z => by
      obtain ⟨w', oc, hoc, hd⟩ := I8.cell y c e
      rw [z, pD.1] at hoc
      cases hoc
      exact oL_nc _ _ _ hd) fun p z => absurd (show p ∈ ([] : List (Addr × Obj)) ++ [] from z) (by simp)
    refine ⟨m', hm, i + 1, _, H8, acc ++ [v8], its ++ [u8], k9, I9.pins_of fun p z => ?_, T.keep _ _ _ t8 fun b hb o e => (sb9.2 b (fpne b hb)).trans e, n8, rv.append (.cons r8 .nil), w8⟩
    have e : p = (s2.heap.objs.size, oL (its ++ [u8]) k9) := by simpa using z
    subst e
    exact ⟨e9', pD.2.1, pD.2.2.1, pD.2.2.2.1, oL_nc _ _⟩
 exact codeAny_compStart_list (loop _ rfl) (T.self _ 0 _ _ _ st1 (loop _ rfl))
end
end L2
namespace L2
open PySem PySem.Spec PyProof.Rows
def StrG (mg : Str → Option Value) (x : Str) (n : Str) : Prop := ∃ t, mg x = some (.str n t)
section
variable {K : PySem.W.Frag} {mg : Str → Option Value} {x : Str}
theorem str_mk {h : Heap} {n : Str} {t : Tok} (X : K.In h) (G : h.Ns mainGlobals mg) (a : PySem.W.nsIn K mainGlobals x = some (some (.str n t))) : StrG mg x n := ⟨t, PySem.W.mg_of X G a⟩
end
section
variable {X : Cx} {x : Str} {pos : Pos}
theorem pe_gstr {n : Str} (hg : Gl X x) (h : StrG X.mg x n) (hd : (x == ("__debug__" : Str)) = false := by decide) : PE X (.Name x pos) (tC (.str n)) := by
 obtain ⟨t, e⟩ := h
 exact pe_glob hg e ⟨t, rfl⟩ hd
end
theorem putF_add {f : Str} {v : V} : ∀ {fs : List (Str × V)}, f ∉ fs.map (·.1) → putF f v fs = fs ++ [(f, v)]
 | [], _ => rfl
 | (g, w) :: r, h => by
  rw [putF_miss (fun e => h (by rw [e]; exact List.mem_cons_self)), putF_add (fun z => h (List.mem_cons_of_mem _ z))]
  rfl
end L2
namespace Sx
open PySem L2
section
variable {K : PySem.W.Frag} {H : Hp} {Q : VK} {l : Addr}
theorem rep {x : V} {k : Int} (h : H l = some (.lst [x])) (h0 : 0 ≤ k) (h1 : k ≤ 1000000) (q : ∀ p, H p = none → Q (.ref p) (upd H p (.lst (List.replicate k.toNat x)))) : rRep (.ref l) (.int k) H Q := by
 refine ⟨l, k, [x], rfl, rfl, h, by omega, by omega, by rw [sizeLine_eq]; simp; omega, fun p hp => ?_⟩
 have e : (List.replicate k.toNat [x]).flatten = List.replicate k.toNat x := by
  induction k.toNat with
  | zero => rfl
  | succ n ih => rw [List.replicate_succ, List.flatten_cons, ih, List.replicate_succ]; rfl
 rw [e]
 exact q p hp
theorem pop0 {x : V} {r : List V} (h : H l = some (.lst (x :: r))) (q : Q x (upd H l (.lst r))) : rPopAt (.ref l) [.int 0] H Q :=
 ⟨l, x :: r, 0, 0, x, rfl, rfl, h, by decide, by decide, by unfold seqIndex?; simp, rfl, q⟩
theorem app {y : V} {xs : List V} (h : H l = some (.lst xs)) (hz : xs.length < 16777216) (q : Q .non (upd H l (.lst (xs ++ [y])))) : rAppend (.ref l) [y] H Q :=
 ⟨l, xs, y, rfl, rfl, h, by rw [sizeLine_eq]; exact hz, q⟩
theorem tyL {xs : List V} (h : H l = some (.lst xs)) : tyV K "list" (.ref l) H := .inl ⟨rfl, _, SqL.of h⟩
end
end Sx
namespace L2
open PySem
theorem upd_self {H : Hp} {a : Addr} {o : HO} (h : H a = some o) : upd H a o = H := by
 funext x
 by_cases e : x = a
 ·rw [e, upd_same, h]
 ·rw [upd_ne e]
end L2
namespace L2
open PySem PySem.Spec PyProof.Rows
theorem lc_tupI {K : PySem.W.Frag} {a : Addr} {xs : List V} {fr : List (Str × Nat)} {te : TE} {σ : St} {H : Hp} {Qp : Addr → List V → Hp → Prop} (I : Nat → List V → Hp → Prop) (hn : xs.length ≤ sizeLine) (h0 : I 0 [] H) (hl : ∀ i acc H', I i acc H' → acc.length = i) (hs : ∀ i acc H', I i acc H' → SqT K H' a xs)
  (hf : ∀ i x acc H', xs[i]? = some x → I i acc H' → ∀ Q' : VK, (∀ v H2, I (i + 1) (acc ++ [v]) H2 → Q' v H2) → te (some x :: frv fr σ) H' Q') (hQ : ∀ acc H', I xs.length acc H' → ∀ p, H' p = none → Qp p acc H') :
  ∃ W : Nat → Nat → List V → Hp → Prop, (∃ m, W 0 m [] H) ∧ ∀ i m acc H, W i m acc H →
   ((Itt K a).stop i H ∧ acc.length ≤ sizeLine ∧ ∀ p, H p = none → Qp p acc H) ∨
   ((Itt K a).go i H ∧ ∀ x H', (Itt K a).yld i H x H' → tYes (some x :: frv fr σ) H' fun b H2 => if b = true then te (some x :: frv fr σ) H2 fun v H3 => acc.length < sizeLine ∧ ∃ m', m' < m ∧ W (i + 1) m' (acc ++ [v]) H3
    else ∃ m', m' < m ∧ W (i + 1) m' acc H2) := by
 refine ⟨fun i m acc H' => I i acc H' ∧ i ≤ xs.length ∧ m = xs.length - i, ⟨xs.length, h0, Nat.zero_le _, by simp⟩, ?_⟩
 rintro i m acc H' ⟨hI, hi, rfl⟩
 have el := hl i acc H' hI
 have hq := hs i acc H' hI
 by_cases hlt : i < xs.length
 ·refine .inr ⟨⟨xs, xs[i], hq, by simp [hlt]⟩, fun x H1 y => ?_⟩
  obtain ⟨e, y⟩ := y
  subst e
  have ex := y xs hq
  dsimp only [tYes]
  rw [if_pos rfl]
  exact hf i x acc _ ex hI _ fun v H2 q => ⟨by omega, xs.length - (i + 1), by omega, q, hlt, rfl⟩
 ·have e : i = xs.length := by omega
  subst e
  exact .inl ⟨⟨xs, hq, Nat.le_refl _⟩, by omega, hQ acc H' hI⟩
end L2
namespace L2
open PySem
theorem cutFrom (xs : List V) (k : Nat) : cutV xs (some (k : Int)) none = xs.drop k := by
 unfold cutV
 rw [HT.sIx_nat, HT.sIx_none]
 rcases Nat.le_total k xs.length with h | h
 ·rw [Nat.min_eq_left h]
  exact List.take_of_length_le (by simp)
 ·rw [Nat.min_eq_right h, List.drop_length, List.drop_eq_nil_of_le h]
  simp
theorem cutMid (xs : List V) (a b : Nat) : cutV xs (some (a : Int)) (some (b : Int)) = (xs.drop a).take (b - a) := by
 unfold cutV
 rw [HT.sIx_nat, HT.sIx_nat]
 rcases Nat.le_total a xs.length with h | h
 ·rw [Nat.min_eq_left h]
  rcases Nat.le_total b xs.length with g | g
  ·rw [Nat.min_eq_left g]
  ·rw [Nat.min_eq_right g, List.take_of_length_le (by simp), List.take_of_length_le (by simp; omega)]
 ·rw [Nat.min_eq_right h, List.drop_length, List.drop_eq_nil_of_le h]
  simp
theorem cutTo (xs : List V) (b : Nat) : cutV xs none (some (b : Int)) = xs.take b := by
 unfold cutV
 rw [HT.sIx_nat, HT.sIx_none]
 rcases Nat.le_total b xs.length with g | g
 ·rw [Nat.min_eq_left g]; simp
 ·rw [Nat.min_eq_right g, List.take_of_length_le g]; simp
end L2
namespace L2
open PySem PySem.Spec PyProof.Rows
section
variable {X : Cx} {K : PySem.W.Frag}
theorem call_isinstC (h : X.K = K) : CallR X (.builtin "isinstance") (fun xs H Q => ∃ x C t b, xs = [x, .ref C] ∧ TyOf K H x t ∧ PySem.W.kitOne K t (.ref C) = some b ∧ Q (.bl b) H) := by
 subst h
 intro pins s σ H xs us Q I r h
 obtain ⟨x, n, t, b, rfl, ty, e, q⟩ := h
 obtain ⟨u, w', rfl, ru, rw'⟩ := vals2 r
 cases rw'
 exact isinst_ok I ru ty e fun tk => ⟨.bl b, H, I.tok tk, rfl, q⟩
end
section
variable {X : Cx} {K : PySem.W.Frag}
end
end L2
namespace Sx
open PySem L2
section
variable {K : PySem.W.Frag} {H : Hp} {Q : VK} {l : Addr}
end
end Sx
namespace L2
open PySem PySem.Spec PyProof.Rows
theorem Same.newH {H : Hp} {l : Addr} {o : HO} (n : H l = none) : Same H (upd H l o) := fun b u e => by rw [upd_ne (ne_of_none e n)]; exact e
def rListOf (K : PySem.W.Frag) : List V → Hp → VK → Prop := fun xs H Q => ∃ p ys, xs = [.ref p] ∧ (SqL K H p ys ∨ SqT K H p ys) ∧ ∀ l, H l = none → Q (.ref l) (upd H l (.lst ys))
def rTupOf (K : PySem.W.Frag) : List V → Hp → VK → Prop := fun xs H Q => ∃ p ys, xs = [.ref p] ∧ ((SqL K H p ys ∧ ∀ l, H l = none → Q (.ref l) (upd H l (.tup ys))) ∨ (SqT K H p ys ∧ Q (.ref p) H))
def rLenOf (K : PySem.W.Frag) : List V → Hp → VK → Prop := fun xs H Q => ∃ p ys, xs = [.ref p] ∧ (SqL K H p ys ∨ SqT K H p ys) ∧ Q (.int ys.length) H
def rIsT (K : PySem.W.Frag) : List V → Hp → VK → Prop := fun xs H Q => ∃ x n t b, xs = [x, .ty n] ∧ TyOf K H x t ∧ PySem.W.kitOne K t (.type n) = some b ∧ Q (.bl b) H
def rIsC (K : PySem.W.Frag) : List V → Hp → VK → Prop := fun xs H Q => ∃ x C t b, xs = [x, .ref C] ∧ TyOf K H x t ∧ PySem.W.kitOne K t (.ref C) = some b ∧ Q (.bl b) H
section
variable {X : Cx} {K : PySem.W.Frag}
theorem call_list_ofN (h : X.K = K) : CallR X (.type "list") (rListOf K) := call_list_ofK h
theorem call_tuple_ofN (h : X.K = K) : CallR X (.type "tuple") (rTupOf K) := call_tuple_ofK h
theorem call_len_seqN (h : X.K = K) : CallR X (.builtin "len") (rLenOf K) := call_len_seqK h
theorem call_isinstN (h : X.K = K) : CallR X (.builtin "isinstance") (rIsT K) := call_isinstK h
theorem call_isinstCN (h : X.K = K) : CallR X (.builtin "isinstance") (rIsC K) := call_isinstC h
end
end L2
namespace Sx
open PySem L2
section
variable {K : PySem.W.Frag} {σ : St} {H : Hp} {Q : VK} {l : Addr} {a : TA} {xs ys : List V}
def NewT (xs : List V) (H : Hp) (Q : VK) : Prop := xs.length ≤ sizeLine ∧ ∀ p, H p = none → Q (.ref p) (upd H p (.tup xs))
def NewL (xs : List V) (H : Hp) (Q : VK) : Prop := xs.length ≤ sizeLine ∧ ∀ p, H p = none → Q (.ref p) (upd H p (.lst xs))
theorem tupN (h : a σ H fun xs H1 => NewT xs H1 Q) : tTup a σ H Q := h
theorem lstN (h : a σ H fun xs H1 => NewL xs H1 Q) : tLst a σ H Q := h
theorem newT (hz : xs.length ≤ sizeLine) (k : ∀ p H', H p = none → H' p = some (.tup xs) → Same H H' → Q (.ref p) H') : NewT xs H Q := ⟨hz, fun p n => k p _ n upd_same (Same.newH n)⟩
theorem newL (hz : xs.length ≤ sizeLine) (k : ∀ p H', H p = none → H' p = some (.lst xs) → Same H H' → Q (.ref p) H') : NewL xs H Q := ⟨hz, fun p n => k p _ n upd_same (Same.newH n)⟩
theorem listOf (h : SqL K H l ys ∨ SqT K H l ys) (k : ∀ p H', H p = none → H' p = some (.lst ys) → Same H H' → Q (.ref p) H') : rListOf K [.ref l] H Q := ⟨l, ys, rfl, h, fun p n => k p _ n upd_same (Same.newH n)⟩
theorem tupOfL (h : H l = some (.lst ys)) (k : ∀ p H', H p = none → H' p = some (.tup ys) → Same H H' → Q (.ref p) H') : rTupOf K [.ref l] H Q := ⟨l, ys, rfl, .inl ⟨SqL.of h, fun p n => k p _ n upd_same (Same.newH n)⟩⟩
theorem lenL (h : H l = some (.lst ys)) (k : Q (.int (ys.length : Nat)) H) : rLenOf K [.ref l] H Q := ⟨l, ys, rfl, .inl (SqL.of h), k⟩
theorem lenS (h : SqL K H l ys) (k : Q (.int (ys.length : Nat)) H) : rLenOf K [.ref l] H Q := ⟨l, ys, rfl, .inl h, k⟩
theorem lenT (h : SqT K H l ys) (k : Q (.int (ys.length : Nat)) H) : rLenOf K [.ref l] H Q := ⟨l, ys, rfl, .inr h, k⟩
theorem isT {x : V} {n : String} {t : Value} {b : Bool} (ty : TyOf K H x t) (e : PySem.W.kitOne K t (.type n) = some b) (k : Q (.bl b) H) : rIsT K [x, .ty n] H Q := ⟨x, n, t, b, rfl, ty, e, k⟩
theorem isC {x : V} {C : Addr} {t : Value} {b : Bool} (ty : TyOf K H x t) (e : PySem.W.kitOne K t (.ref C) = some b) (k : Q (.bl b) H) : rIsC K [x, .ref C] H Q := ⟨x, C, t, b, rfl, ty, e, k⟩
theorem slN {lo hi : Option Int} (h : SqL K H l xs) (k : ∀ p H', H p = none → H' p = some (.lst (cutV xs lo hi)) → Same H H' → Q (.ref p) H') : rSlL K (.ref l) lo hi H Q := ⟨l, xs, rfl, h, fun p n => k p _ n upd_same (Same.newH n)⟩
end
end Sx
namespace L2
theorem iteDS {c A B : Prop} [Decidable c] (h : c) (a : A) : if decide c = true then A else B := by rw [if_pos (decide_eq_true h)]; exact a
end L2
namespace L2
open PySem PySem.Spec PyProof.Rows
theorem lc_rangeF {lo : Int} {n : Nat} {fr : List (Str × Nat)} {tc : TT} {te : TE} {σ : St} {H : Hp} {Qp : Addr → List V → Hp → Prop} (I : Nat → List V → Hp → Prop) (hn : n ≤ sizeLine) (h0 : I 0 [] H) (hl : ∀ i acc H', I i acc H' → acc.length ≤ i)
  (hf : ∀ i acc H', i < n → I i acc H' → ∀ (QT : Bool → Hp → Prop), (∀ H2, (∀ Q' : VK, (∀ v H3, I (i + 1) (acc ++ [v]) H3 → Q' v H3) → te (some (.int (lo + i)) :: frv fr σ) H2 Q') → QT true H2) → (∀ H2, I (i + 1) acc H2 → QT false H2) → tc (some (.int (lo + i)) :: frv fr σ) H' QT) (hQ : ∀ acc H', I n acc H' → ∀ p, H' p = none → Qp p acc H') :
  ∃ W : Nat → Nat → List V → Hp → Prop, (∃ m, W 0 m [] H) ∧ ∀ i m acc H, W i m acc H →
   ((Itr lo n).stop i H ∧ acc.length ≤ sizeLine ∧ ∀ p, H p = none → Qp p acc H) ∨
   ((Itr lo n).go i H ∧ ∀ x H', (Itr lo n).yld i H x H' → tc (some x :: frv fr σ) H' fun b H2 => if b = true then te (some x :: frv fr σ) H2 fun v H3 => acc.length < sizeLine ∧ ∃ m', m' < m ∧ W (i + 1) m' (acc ++ [v]) H3
    else ∃ m', m' < m ∧ W (i + 1) m' acc H2) := by
 refine ⟨fun i m acc H' => I i acc H' ∧ i ≤ n ∧ m = n - i, ⟨n, h0, Nat.zero_le _, by simp⟩, ?_⟩
 rintro i m acc H' ⟨hI, hi, rfl⟩
 have el := hl i acc H' hI
 by_cases hlt : i < n
 ·refine .inr ⟨hlt, fun x H1 y => ?_⟩
  obtain ⟨e, y⟩ := y
  subst e y
  refine hf i acc _ hlt hI _ (fun H2 h => ?_) (fun H2 h => ?_)
  ·rw [if_pos rfl]
   exact h _ fun v H3 q => ⟨by omega, n - (i + 1), by omega, q, hlt, rfl⟩
  ·rw [if_neg Bool.false_ne_true]
   exact ⟨n - (i + 1), by omega, h, hlt, rfl⟩
 ·have e : i = n := by omega
  subst e
  exact .inl ⟨Nat.le_refl _, by omega, hQ acc H' hI⟩
end L2
namespace L2
open PySem PySem.Spec PyProof.Rows
section
variable {X : Cx} {K : PySem.W.Frag}
end
end L2
namespace Sx
open PySem L2 PyProof.Rows
section
variable {K : PySem.W.Frag} {H : Hp} {Q : VK} {l b : Addr} {xs ys : List V}
end
end Sx
namespace L2
open PySem PySem.Spec PyProof.Rows
end L2
namespace L2
open PySem PySem.Spec PyProof.Rows
end L2
namespace L2
open PySem PySem.Spec PyProof.Rows
section
variable {X : Cx}
end
end L2
namespace L2
open PySem PySem.Spec PyProof.Rows
section
variable {X : Cx} {xs : List Str} {pos : Pos} {iter elt tgt : Expr} {g : TG} {ifs : List Expr} {scope : Scope} {cl : List (Str × Addr)} {wi : TI} {tc : TT} {te : TE} {fr : List (Str × Nat)}
end
end L2
namespace L2
open PySem PySem.Spec PyProof.Rows
section
variable {X : Cx}
end
end L2
namespace L2
open PySem PySem.Spec PyProof.Rows
section
variable {K : PySem.W.Frag} {mg : Str → Option Value} {x : Str} {a : Addr} {xs : List V} {H : Hp}
end
section
variable {X : Cx} {K : PySem.W.Frag} {x : Str} {pos : Pos} {xs : List V}
end
end L2
namespace Sx
open PySem L2
section
variable {σ : St} {H : Hp} {Q : VK} {K : PySem.W.Frag} {ta : TE} {u : TJ} {acc x : Str}
end
end Sx
namespace L2
open PySem PySem.Spec PyProof.Rows
section
variable {prog : Program} {w : World} {A : Around} {E : Value → Shared → Prop} {s : Shared}
end
section
variable {X : Cx} {K : PySem.W.Frag}
end
end L2
namespace Sx
open PySem L2
section
variable {K : PySem.W.Frag} {σ : St} {H : Hp} {Q : VK} {l : Addr}
end
end Sx
namespace L2
open PySem PySem.Spec PyProof.Rows
theorem extT (l : Addr) (xs : Array Value) (n : Nat) (b : Addr) (ys : Array Value) (m : Nat) (dd : Option Addr) (sl : Array (Option Value)) (g0 : ¬(!xs.isEmpty && Builtin.List.listTooLong (xs.size + ys.size)) = true) (g1 : xs.size ≤ sizeLine) (g2 : xs.size + ys.size ≤ sizeLine + 1) :
  Meets (Builtin.«list.extend» ⟨[.ref l, .ref b], []⟩) (fun _ R s => s.heap.get? l = some { cls := .type "list", data := .seq xs n } ∧ s.heap.get? b = some ⟨.type "tuple", dd, .seq ys m, sl⟩ ∧
   R (.ok (.ret Value.none)) { s with heap := s.heap.update l (Obj.mapSeq fun x => x ++ ys), toks := s.toks }) :=
 .of_wp fun prog w A R s h => by
  obtain ⟨hp, g, d, tk, os⟩ := s
  obtain ⟨hl, hb, h⟩ := h
  have f1 := AutoSeq1.idx_int
  have f2 := AutoSeq1.sub_tuple_tuple
  have f3 := AutoSeq1.sub_list_list
  have f4 := AutoSeq1.sub_tuple_list
  have f5 := AutoSeq1.sub_list_tuple
  have hz' : (xs ++ ys).size ≤ sizeLine + 1 := by rw [Array.size_append]; exact g2
  wp_walk using (wpAny_updateSeq hl rfl (hz := g1) (_hz' := hz')), AutoSeq1.wpAny_loadPart' hl, AutoSeq1.wpAny_loadPart' hb
  exact ⟨_, rfl, h⟩
section
variable {X : Cx} {K : PySem.W.Frag}
def rExtT (K : PySem.W.Frag) : V → List V → Hp → VK → Prop := fun x vs H Q => ∃ l b xs zs, x = .ref l ∧ vs = [.ref b] ∧ H l = some (.lst xs) ∧ SqT K H b zs ∧ xs.length + zs.length ≤ sizeLine ∧ Q .non (upd H l (.lst (xs ++ zs)))
theorem mt_extT (h : X.K = K) : MtM X "list.extend" (rExtT K) := by
 subst h
 intro pins s σ H x vs v us Q I rx rv h
 obtain ⟨l, b, xs, zs, rfl, rfl, hH, hB, hz, q⟩ := h
 cases rx
 obtain ⟨u, rfl, ru⟩ := rv.one
 cases ru
 obtain ⟨z, its, n, r, hl, e⟩ := I.lstM hH
 obtain ⟨its2, r2, pt, z2⟩ := I.tuple hB
 obtain ⟨⟨cls, dd, data, sl⟩, e2, hc, m, hd⟩ := pt
 simp only at hc hd
 subst hc hd
 have l2 := r2.length
 have hlong : ¬ (!its.toArray.isEmpty && Builtin.List.listTooLong (its.toArray.size + its2.toArray.size)) = true := by
  rw [notLongL (by rw [List.size_toArray, List.size_toArray]; omega), Bool.and_false]
  exact Bool.false_ne_true
 refine call_meets F.slot_list_extend ⟨_, e, rfl⟩ F.entry_list_extend (F.args_list_extend_2 _ _)
  (extT l its.toArray n b its2.toArray m dd sl hlong (by rw [List.size_toArray]; omega) (by rw [List.size_toArray, List.size_toArray]; omega)) ⟨e, e2, ?_⟩
 refine ⟨.non, _, I.lset (its' := its ++ its2) hH e (by simp) (r.append r2) ?_, rfl, q⟩
 rw [List.length_append]
 omega
end
end L2
namespace Sx
open PySem L2
section
variable {K : PySem.W.Frag} {σ : St} {H : Hp} {Q : VK} {l : Addr}
theorem bm0 {T : String} {r : V → List V → Hp → VK → Prop} {to : TE} (h : to σ H fun x H1 => tyV K T x H1 ∧ r x [] H1 Q) : tBM0 K T r to σ H Q := h
theorem extT {b : Addr} {xs zs : List V} {P : Hp → Prop} (h : H l = some (.lst xs)) (hb : SqT K H b zs) (hz : xs.length + zs.length ≤ 16777216) (k : ∀ H', H' l = some (.lst (xs ++ zs)) → (∀ b o, b ≠ l → H b = some o → H' b = some o) → P H') : rExtT K (.ref l) [.ref b] H (fun _ H' => P H') :=
 ⟨l, b, xs, zs, rfl, rfl, h, hb, by rw [sizeLine_eq]; exact hz, k _ upd_same fun b o n e => by rw [upd_ne n]; exact e⟩
theorem popL {xs : List V} {y : V} {P : V → Hp → Prop} (h : H l = some (.lst (xs ++ [y]))) (k : ∀ H', H' l = some (.lst xs) → (∀ b o, b ≠ l → H b = some o → H' b = some o) → P y H') : rPop (.ref l) [] H P :=
 ⟨l, xs ++ [y], y, rfl, rfl, h, by simp, by rw [List.dropLast_concat]; exact k _ upd_same fun b o n e => by rw [upd_ne n]; exact e⟩
end
end Sx
open L2
local macro_rules | `(tactic| wtm_at "s") => `(tactic| first
 | ((with_reducible refine' Sx.var ?e ?_); (case e => exact rfl))
 | (with_reducible first
  | refine Sx.cst ?_ | refine Sx.op ?_ | refine Sx.un ?_ | refine Sx.i0 ?_ | refine Sx.eqI ?_ | refine Sx.neI ?_ | refine Sx.eqB ?_ | refine Sx.neB ?_ | refine Sx.eqS ?_ | refine Sx.neS ?_
  | refine Sx.test ?_ | refine Sx.tB ?_ | refine Sx.isbl ?_ | refine Sx.and ?_ | refine Sx.or ?_ | refine Sx.not ?_ | refine Sx.andV ?_ | refine Sx.orV ?_ | refine Sx.notV ?_ | refine Sx.ifE ?_ | refine Sx.chain ?_ | refine Sx.fld ?_
  | refine Sx.next ?_ | refine Sx.seq ?_ | refine Sx.drop ?_ | refine Sx.ret ?_ | refine Sx.retN ?_ | refine Sx.ifS ?_ | refine Sx.asg ?_ | refine Sx.nm ?_ | refine Sx.sub ?_ | refine Sx.call ?_ | refine Sx.callB ?_ | refine Sx.nil ?_ | refine Sx.cons ?_ | refine Sx.tup ?_ | refine Sx.lst ?_
  | refine Sx.lc ?_ | refine Sx.lcN ?_ | refine Sx.iL ?_ | refine Sx.iT ?_ | refine Sx.iE ?_ | refine Sx.iR1 ?_ | refine Sx.iR2 ?_ | refine Sx.for_ ?_ | refine Sx.make ?_ | refine Sx.dget ?_ | refine Sx.dput ?_ | refine Sx.sfld ?_ | refine Sx.intsA ?_ | refine Sx.pnil ?_ | refine Sx.pcons ?_ | refine Sx.disp ?_ | refine Sx.sl ?_ | refine Sx.part ?_ | refine Sx.nopart ?_ | refine Sx.isI ?_ | refine Sx.tru ?_ | refine Sx.bm ?_ | refine Sx.nonAnd ?_ | refine iteT ?_ | refine iteF ?_ | refine Sx.iteNT ?_ | refine Sx.iteNF ?_)
 | ((with_reducible refine' Sx.iC ?c ?_); (case c => first | exact ⟨by decide, by decide⟩ | exact .inl ⟨by decide, by decide⟩ | exact .inr ⟨by decide, by decide⟩ | (show (0 : Int) < _; first | decide | omega) | exact ⟨by omega, by omega⟩ | exact .inl ⟨by omega, by omega⟩ | exact .inr ⟨by omega, by omega⟩)))
local macro_rules | `(tactic| wtm_at "ss") => `(tactic| repeat wtm_at "s")
namespace Tx
open PySem L2
def top (i : Nat) : Stmt := PySem.Challenge.pw_corehouse_k27_whole_saved_and_taken.main.body.getD i (.Pass ⟨0, 0, 0, 0⟩)
abbrev s_parts : Stmt := top 11
theorem sc_parts : FnScope ["word"] ["word"] (defScope s_parts) := ⟨rfl, rfl, rfl, by decide +kernel, rfl, by decide +kernel, by decide +kernel⟩
abbrev s_deed : Stmt := top 14
theorem sc_deed : FnScope ["machine", "told", "kind", "far", "place"] ["machine"] (defScope s_deed) := ⟨rfl, rfl, rfl, by decide +kernel, rfl, by decide +kernel, by decide +kernel⟩
abbrev s_move_on : Stmt := top 15
theorem sc_move_on : FnScope ["machine"] ["machine"] (defScope s_move_on) := ⟨rfl, rfl, rfl, by decide +kernel, rfl, by decide +kernel, by decide +kernel⟩
abbrev s_place_behind : Stmt := top 16
theorem sc_place_behind : FnScope ["place"] ["place"] (defScope s_place_behind) := ⟨rfl, rfl, rfl, by decide +kernel, rfl, by decide +kernel, by decide +kernel⟩
abbrev s_raise_cell : Stmt := top 17
theorem sc_raise_cell : FnScope ["machine", "place"] ["machine", "place"] (defScope s_raise_cell) := ⟨rfl, rfl, rfl, by decide +kernel, rfl, by decide +kernel, by decide +kernel⟩
abbrev s_far_place : Stmt := top 18
theorem sc_far_place : FnScope ["machine", "place"] ["machine", "place"] (defScope s_far_place) := ⟨rfl, rfl, rfl, by decide +kernel, rfl, by decide +kernel, by decide +kernel⟩
abbrev s_do_with_cell : Stmt := top 19
theorem sc_do_with_cell : FnScope ["machine", "kind", "place"] ["machine", "kind", "place"] (defScope s_do_with_cell) := ⟨rfl, rfl, rfl, by decide +kernel, rfl, by decide +kernel, by decide +kernel⟩
abbrev s_add_to_total : Stmt := top 20
theorem sc_add_to_total : FnScope ["machine", "amount"] ["machine", "amount"] (defScope s_add_to_total) := ⟨rfl, rfl, rfl, by decide +kernel, rfl, by decide +kernel, by decide +kernel⟩
abbrev s_turn_mark : Stmt := top 21
theorem sc_turn_mark : FnScope ["machine"] ["machine"] (defScope s_turn_mark) := ⟨rfl, rfl, rfl, by decide +kernel, rfl, by decide +kernel, by decide +kernel⟩
abbrev s_do_rise : Stmt := top 22
theorem sc_do_rise : FnScope ["machine", "place"] ["machine", "place"] (defScope s_do_rise) := ⟨rfl, rfl, rfl, by decide +kernel, rfl, by decide +kernel, by decide +kernel⟩
abbrev s_has_bit : Stmt := top 23
theorem sc_has_bit : FnScope ["place", "bit"] ["place", "bit"] (defScope s_has_bit) := ⟨rfl, rfl, rfl, by decide +kernel, rfl, by decide +kernel, by decide +kernel⟩
abbrev s_do_change : Stmt := top 24
theorem sc_do_change : FnScope ["machine", "place"] ["machine", "place"] (defScope s_do_change) := ⟨rfl, rfl, rfl, by decide +kernel, rfl, by decide +kernel, by decide +kernel⟩
abbrev s_shift_left : Stmt := top 25
theorem sc_shift_left : FnScope ["machine", "doubled"] ["machine"] (defScope s_shift_left) := ⟨rfl, rfl, rfl, by decide +kernel, rfl, by decide +kernel, by decide +kernel⟩
abbrev s_shift_right : Stmt := top 26
theorem sc_shift_right : FnScope ["machine", "left_over"] ["machine"] (defScope s_shift_right) := ⟨rfl, rfl, rfl, by decide +kernel, rfl, by decide +kernel, by decide +kernel⟩
abbrev s_do_test : Stmt := top 27
theorem sc_do_test : FnScope ["machine", "place"] ["machine", "place"] (defScope s_do_test) := ⟨rfl, rfl, rfl, by decide +kernel, rfl, by decide +kernel, by decide +kernel⟩
abbrev s_test_is_so : Stmt := top 28
theorem sc_test_is_so : FnScope ["machine", "place", "so"] ["machine", "place"] (defScope s_test_is_so) := ⟨rfl, rfl, rfl, by decide +kernel, rfl, by decide +kernel, by decide +kernel⟩
abbrev s_happen : Stmt := top 49
theorem sc_happen : FnScope ["person", "event", "name"] ["person", "event"] (defScope s_happen) := ⟨rfl, rfl, rfl, by decide +kernel, rfl, by decide +kernel, by decide +kernel⟩
abbrev s_take_start : Stmt := top 50
theorem sc_take_start : FnScope ["person", "place", "machine"] ["person", "place"] (defScope s_take_start) := ⟨rfl, rfl, rfl, by decide +kernel, rfl, by decide +kernel, by decide +kernel⟩
abbrev s_take_key : Stmt := top 51
theorem sc_take_key : FnScope ["person", "letter"] ["person", "letter"] (defScope s_take_key) := ⟨rfl, rfl, rfl, by decide +kernel, rfl, by decide +kernel, by decide +kernel⟩
abbrev s_take_tick : Stmt := top 52
theorem sc_take_tick : FnScope ["person"] ["person"] (defScope s_take_tick) := ⟨rfl, rfl, rfl, by decide +kernel, rfl, by decide +kernel, by decide +kernel⟩
abbrev s_take_step : Stmt := top 53
theorem sc_take_step : FnScope ["person", "place", "asked"] ["person"] (defScope s_take_step) := ⟨rfl, rfl, rfl, by decide +kernel, rfl, by decide +kernel, by decide +kernel⟩
abbrev s_do_ask : Stmt := top 54
theorem sc_do_ask : FnScope ["person", "asked", "place", "machine"] ["person", "asked", "place"] (defScope s_do_ask) := ⟨rfl, rfl, rfl, by decide +kernel, rfl, by decide +kernel, by decide +kernel⟩
abbrev s_skip_if : Stmt := top 55
theorem sc_skip_if : FnScope ["machine", "so"] ["machine", "so"] (defScope s_skip_if) := ⟨rfl, rfl, rfl, by decide +kernel, rfl, by decide +kernel, by decide +kernel⟩
abbrev s_do_hear : Stmt := top 56
theorem sc_do_hear : FnScope ["person", "place", "machine"] ["person", "place"] (defScope s_do_hear) := ⟨rfl, rfl, rfl, by decide +kernel, rfl, by decide +kernel, by decide +kernel⟩
abbrev s_do_say : Stmt := top 57
theorem sc_do_say : FnScope ["person", "place"] ["person", "place"] (defScope s_do_say) := ⟨rfl, rfl, rfl, by decide +kernel, rfl, by decide +kernel, by decide +kernel⟩
abbrev s_wait_at : Stmt := top 58
theorem sc_wait_at : FnScope ["person", "state", "place", "machine"] ["person", "state", "place"] (defScope s_wait_at) := ⟨rfl, rfl, rfl, by decide +kernel, rfl, by decide +kernel, by decide +kernel⟩
abbrev s_do_sleep : Stmt := top 59
theorem sc_do_sleep : FnScope ["person", "machine"] ["person"] (defScope s_do_sleep) := ⟨rfl, rfl, rfl, by decide +kernel, rfl, by decide +kernel, by decide +kernel⟩
abbrev s_do_with_block : Stmt := top 60
theorem sc_do_with_block : FnScope ["person", "asked", "machine", "place", "block"] ["person", "asked"] (defScope s_do_with_block) := ⟨rfl, rfl, rfl, by decide +kernel, rfl, by decide +kernel, by decide +kernel⟩
abbrev s_fetch_block : Stmt := top 61
theorem sc_fetch_block : FnScope ["machine", "block", "place", "number"] ["machine", "block", "place"] (defScope s_fetch_block) := ⟨rfl, rfl, rfl, by decide +kernel, rfl, by decide +kernel, by decide +kernel⟩
abbrev s_store_block : Stmt := top 62
theorem sc_store_block : FnScope ["machine", "block", "place", "number"] ["machine", "block", "place"] (defScope s_store_block) := ⟨rfl, rfl, rfl, by decide +kernel, rfl, by decide +kernel, by decide +kernel⟩
abbrev s_picture : Stmt := top 63
theorem sc_picture : FnScope ["person", "machine"] ["person"] (defScope s_picture) := ⟨rfl, rfl, rfl, by decide +kernel, rfl, by decide +kernel, by decide +kernel⟩
abbrev s_person_of : Stmt := top 64
theorem sc_person_of : FnScope ["told", "person"] ["told"] (defScope s_person_of) := ⟨rfl, rfl, rfl, by decide +kernel, rfl, by decide +kernel, by decide +kernel⟩
abbrev s_empty_rooms : Stmt := top 66
theorem sc_empty_rooms : FnScope ["count"] ["count"] (defScope s_empty_rooms) := ⟨rfl, rfl, rfl, by decide +kernel, rfl, by decide +kernel, by decide +kernel⟩
abbrev s_room_with : Stmt := top 67
theorem sc_room_with : FnScope ["rooms", "user", "room", "guest"] ["rooms", "user"] (defScope s_room_with) := ⟨rfl, rfl, rfl, by decide +kernel, rfl, by decide +kernel, by decide +kernel⟩
abbrev s_bring_in : Stmt := top 68
theorem sc_bring_in : FnScope ["house", "user"] ["house", "user"] (defScope s_bring_in) := ⟨rfl, rfl, rfl, by decide +kernel, rfl, by decide +kernel, by decide +kernel⟩
abbrev s_load : Stmt := top 71
theorem sc_load : FnScope ["house", "user", "cells", "machine"] ["house", "user", "cells"] (defScope s_load) := ⟨rfl, rfl, rfl, by decide +kernel, rfl, by decide +kernel, by decide +kernel⟩
abbrev s_set_switches : Stmt := top 72
theorem sc_set_switches : FnScope ["house", "user", "word", "person"] ["house", "user", "word"] (defScope s_set_switches) := ⟨rfl, rfl, rfl, by decide +kernel, rfl, by decide +kernel, by decide +kernel⟩
abbrev s_start : Stmt := top 73
theorem sc_start : FnScope ["house", "user", "place"] ["house", "user", "place"] (defScope s_start) := ⟨rfl, rfl, rfl, by decide +kernel, rfl, by decide +kernel, by decide +kernel⟩
abbrev s_key : Stmt := top 74
theorem sc_key : FnScope ["house", "user", "letter"] ["house", "user", "letter"] (defScope s_key) := ⟨rfl, rfl, rfl, by decide +kernel, rfl, by decide +kernel, by decide +kernel⟩
abbrev s_run : Stmt := top 75
theorem sc_run : FnScope ["house", "count", "number"] ["house", "count"] (defScope s_run) := ⟨rfl, rfl, rfl, by decide +kernel, rfl, by decide +kernel, by decide +kernel⟩
abbrev s_seen : Stmt := top 76
theorem sc_seen : FnScope ["house", "user"] ["house", "user"] (defScope s_seen) := ⟨rfl, rfl, rfl, by decide +kernel, rfl, by decide +kernel, by decide +kernel⟩
abbrev s_diary : Stmt := top 77
theorem sc_diary : FnScope ["house", "user"] ["house", "user"] (defScope s_diary) := ⟨rfl, rfl, rfl, by decide +kernel, rfl, by decide +kernel, by decide +kernel⟩
abbrev s_room_of : Stmt := top 78
theorem sc_room_of : FnScope ["house", "user"] ["house", "user"] (defScope s_room_of) := ⟨rfl, rfl, rfl, by decide +kernel, rfl, by decide +kernel, by decide +kernel⟩
abbrev s_happen_in : Stmt := top 79
theorem sc_happen_in : FnScope ["house", "user", "event", "person", "was_ready"] ["house", "user", "event"] (defScope s_happen_in) := ⟨rfl, rfl, rfl, by decide +kernel, rfl, by decide +kernel, by decide +kernel⟩
abbrev s_do_step : Stmt := top 80
theorem sc_do_step : FnScope ["house"] ["house"] (defScope s_do_step) := ⟨rfl, rfl, rfl, by decide +kernel, rfl, by decide +kernel, by decide +kernel⟩
abbrev s_step_who_runs : Stmt := top 81
theorem sc_step_who_runs : FnScope ["house", "user"] ["house"] (defScope s_step_who_runs) := ⟨rfl, rfl, rfl, by decide +kernel, rfl, by decide +kernel, by decide +kernel⟩
abbrev s_do_tick : Stmt := top 82
theorem sc_do_tick : FnScope ["house", "user"] ["house"] (defScope s_do_tick) := ⟨rfl, rfl, rfl, by decide +kernel, rfl, by decide +kernel, by decide +kernel⟩
abbrev s_shorten_turn : Stmt := top 83
theorem sc_shorten_turn : FnScope ["house"] ["house"] (defScope s_shorten_turn) := ⟨rfl, rfl, rfl, by decide +kernel, rfl, by decide +kernel, by decide +kernel⟩
abbrev s_end_turn : Stmt := top 84
theorem sc_end_turn : FnScope ["house"] ["house"] (defScope s_end_turn) := ⟨rfl, rfl, rfl, by decide +kernel, rfl, by decide +kernel, by decide +kernel⟩
abbrev s_let_next_run : Stmt := top 85
theorem sc_let_next_run : FnScope ["house"] ["house"] (defScope s_let_next_run) := ⟨rfl, rfl, rfl, by decide +kernel, rfl, by decide +kernel, by decide +kernel⟩
abbrev s_saved : Stmt := top 87
theorem sc_saved : FnScope ["house"] ["house"] (defScope s_saved) := ⟨rfl, rfl, rfl, by decide +kernel, rfl, by decide +kernel, by decide +kernel⟩
abbrev s_taken : Stmt := top 88
theorem sc_taken : FnScope ["told", "house"] ["told"] (defScope s_taken) := ⟨rfl, rfl, rfl, by decide +kernel, rfl, by decide +kernel, by decide +kernel⟩
abbrev s_law_cell : Stmt := top 90
theorem sc_law_cell : FnScope ["_law_script", "_law_k"] ["_law_script", "_law_k"] (defScope s_law_cell) := ⟨rfl, rfl, rfl, by decide +kernel, rfl, by decide +kernel, by decide +kernel⟩
abbrev s_law_mix : Stmt := top 91
theorem sc_law_mix : FnScope ["_law_cell_here", "_law_prime", "_law_many"] ["_law_cell_here", "_law_prime", "_law_many"] (defScope s_law_mix) := ⟨rfl, rfl, rfl, by decide +kernel, rfl, by decide +kernel, by decide +kernel⟩
abbrev s_law_whole : Stmt := top 92
theorem sc_law_whole : FnScope ["_law_found"] ["_law_found"] (defScope s_law_whole) := ⟨rfl, rfl, rfl, by decide +kernel, rfl, by decide +kernel, by decide +kernel⟩
abbrev s_law_some : Stmt := top 93
theorem sc_law_some : FnScope ["_law_cell_here", "_law_some_here"] ["_law_cell_here"] (defScope s_law_some) := ⟨rfl, rfl, rfl, by decide +kernel, rfl, by decide +kernel, by decide +kernel⟩
abbrev s_law_program : Stmt := top 94
theorem sc_law_program : FnScope ["_law_cell_here", "_law_cells", "_law_turn", "_law_front"] ["_law_cell_here"] (defScope s_law_program) := ⟨rfl, rfl, rfl, by decide +kernel, rfl, by decide +kernel, by decide +kernel⟩
abbrev s_law_hall : Stmt := top 95
theorem sc_law_hall : FnScope ["_law_script", "_law_users", "_law_rooms", "_law_quantum", "_law_beat"] ["_law_script"] (defScope s_law_hall) := ⟨rfl, rfl, rfl, by decide +kernel, rfl, by decide +kernel, by decide +kernel⟩
abbrev s_law_made : Stmt := top 96
theorem sc_law_made : FnScope ["_law_hall_here", "_law_script", "_law_made_here", "_law_user", "_law_cells"] ["_law_hall_here", "_law_script"] (defScope s_law_made) := ⟨rfl, rfl, rfl, by decide +kernel, rfl, by decide +kernel, by decide +kernel⟩
abbrev s_law_acts : Stmt := top 97
theorem sc_law_acts : FnScope ["_law_hall_here", "_law_script", "_law_found", "_law_cell_here", "_law_user", "_law_turn"] ["_law_hall_here", "_law_script"] (defScope s_law_acts) := ⟨rfl, rfl, rfl, by decide +kernel, rfl, by decide +kernel, by decide +kernel⟩
abbrev s_law_do : Stmt := top 98
theorem sc_law_do : FnScope ["_law_made_here", "_law_act", "_law_cells"] ["_law_made_here", "_law_act"] (defScope s_law_do) := ⟨rfl, rfl, rfl, by decide +kernel, rfl, by decide +kernel, by decide +kernel⟩
abbrev s_law_plain : Stmt := top 99
theorem sc_law_plain : FnScope ["_law_told", "_law_left", "_law_one"] ["_law_told"] (defScope s_law_plain) := ⟨rfl, rfl, rfl, by decide +kernel, rfl, by decide +kernel, by decide +kernel⟩
abbrev s_law_all : Stmt := top 100
theorem sc_law_all : FnScope ["_law_made_here", "_law_hall_here", "_law_users", "_law_clock"] ["_law_made_here", "_law_hall_here"] (defScope s_law_all) := ⟨rfl, rfl, rfl, by decide +kernel, rfl, by decide +kernel, by decide +kernel⟩
abbrev s_law : Stmt := top 101
theorem sc_law : FnScope ["_law_script", "_law_hall_here", "_law_made_here", "_law_acts_here", "_law_cut", "_law_act", "_law_told", "_law_other"] ["_law_script"] (defScope s_law) := ⟨rfl, rfl, rfl, by decide +kernel, rfl, by decide +kernel, by decide +kernel⟩
abbrev s_Machine_init : Stmt := inClass (top 13) 0
theorem sc_Machine_init : FnScope ["self", "cells", "total", "mark", "at"] ["self", "cells", "total", "mark", "at"] (defScope s_Machine_init) := ⟨rfl, rfl, rfl, by decide +kernel, rfl, by decide +kernel, by decide +kernel⟩
abbrev s_Person_init : Stmt := inClass (top 48) 0
theorem sc_Person_init : FnScope ["self", "cells", "switches"] ["self", "cells", "switches"] (defScope s_Person_init) := ⟨rfl, rfl, rfl, by decide +kernel, rfl, by decide +kernel, by decide +kernel⟩
abbrev s_House_init : Stmt := inClass (top 70) 0
theorem sc_House_init : FnScope ["self", "users", "rooms", "quantum", "beat"] ["self", "users", "rooms", "quantum", "beat"] (defScope s_House_init) := ⟨rfl, rfl, rfl, by decide +kernel, rfl, by decide +kernel, by decide +kernel⟩
end Tx
namespace Mir
open PySem
structure Mach where
 cells : List Int
 total : Int
 mark : Int
 at_ : Int
def cellM (m : Mach) (q : Int) : Int := m.cells.getD q.toNat 0
def moveOn (m : Mach) : Mach := { m with at_ := (m.at_ + 1) % 64 }
def raiseC (m : Mach) (q : Int) : Mach := { m with cells := m.cells.set q.toNat ((cellM m q + 1) % 1024) }
def farM (m : Mach) (q : Int) : Mach := if 8 ≤ q ∧ q ≤ 11 then raiseC m q else m
def farV (m : Mach) (q : Int) : Int := cellM (farM m q) q % 64
def turnK (m : Mach) : Mach := { m with mark := 1 - m.mark }
def addT (m : Mach) (a : Int) : Mach := if 1024 ≤ m.total + a then turnK { m with total := m.total + a - 1024 } else { m with total := m.total + a }
def doRise (m : Mach) (q : Int) : Mach := if cellM (raiseC m q) q = 0 then moveOn (raiseC m q) else raiseC m q
def withCell (m : Mach) (k q : Int) : Mach :=
 if k = 0 then { m with total := Builtin.bitAnd m.total (cellM m q) } else if k = 1 then addT m (cellM m q) else if k = 2 then doRise m q
 else if k = 3 then { m with cells := m.cells.set q.toNat m.total, total := 0 } else if k = 4 then { m with cells := m.cells.set q.toNat m.at_, at_ := (q + 1) % 64 }
 else if k = 5 then { m with at_ := q } else m
def bit (q b : Int) : Bool := decide (q / b % 2 = 1)
def shiftL (m : Mach) : Mach := { m with total := (m.total * 2 + m.mark) % 1024, mark := (m.total * 2 + m.mark) / 1024 }
def shiftR (m : Mach) : Mach := { m with total := m.total / 2 + m.mark * (1024 / 2), mark := m.total % 2 }
def ch1 (m : Mach) (q : Int) : Mach := if bit q 32 = true then { m with total := 0 } else m
def ch2 (m : Mach) (q : Int) : Mach := if bit q 16 = true then { m with total := 1024 - 1 - m.total } else m
def ch3 (m : Mach) (q : Int) : Mach := if bit q 8 = true then turnK m else m
def ch4 (m : Mach) (q : Int) : Mach := if bit q 4 = true then addT m 1 else m
def ch5 (m : Mach) (q : Int) : Mach := if bit q 2 = true ∧ bit q 1 = false then shiftL m else m
def ch6 (m : Mach) (q : Int) : Mach := if bit q 1 = true ∧ bit q 2 = false then shiftR m else m
def changeM (m : Mach) (q : Int) : Mach := ch6 (ch5 (ch4 (ch3 (ch2 (ch1 m q) q) q) q) q) q
def soM (m : Mach) (q : Int) : Bool := (bit q 32 && decide (1024 / 2 ≤ m.total)) || ((bit q 16 && decide (m.total = 0)) || (bit q 8 && decide (m.mark = 1)))
def testSo (m : Mach) (q : Int) : Bool := if bit q 4 = true then !(soM m q) else soM m q
def te1 (m : Mach) (q : Int) : Mach := if testSo m q = true then moveOn m else m
def te2 (m : Mach) (q : Int) : Mach := if bit q 2 = true then { m with total := 0 } else m
def te3 (m : Mach) (q : Int) : Mach := if bit q 1 = true then { m with mark := 0 } else m
def testM (m : Mach) (q : Int) : Mach := te3 (te2 (te1 m q) q) q
def deedW (m : Mach) (w : Int) : Option Int × Mach :=
 if w / 128 = 6 then (some (w % 64), m) else if w / 128 = 7 ∧ w % 128 / 64 = 0 then (none, changeM m (w % 64)) else if w / 128 = 7 then (none, testM m (w % 64))
 else if w % 128 / 64 = 0 then (none, withCell m (w / 128) (w % 64)) else (none, withCell (farM m (w % 64)) (w / 128) (farV m (w % 64)))
def deedM (m : Mach) : Option Int × Mach := deedW (moveOn m) (cellM m m.at_)
structure Wf (m : Mach) : Prop where
 len : m.cells.length = 64
 at0 : 0 ≤ m.at_
 at1 : m.at_ < 64
theorem raiseC_len (m : Mach) (q : Int) : (raiseC m q).cells.length = m.cells.length := by simp [raiseC]
theorem farM_len (m : Mach) (q : Int) : (farM m q).cells.length = m.cells.length := by unfold farM; split <;> simp [raiseC_len]
theorem moveOn_at0 (m : Mach) : 0 ≤ (moveOn m).at_ := by simp only [moveOn]; omega
theorem moveOn_at1 (m : Mach) : (moveOn m).at_ < 64 := by simp only [moveOn]; omega
end Mir
local macro_rules | `(tactic| wtm_at "1") => `(tactic| exact fun _ _ _ _ _ _ us hl => match us, hl with | [_], _ => rfl)
local macro_rules | `(tactic| wtm_at "2") => `(tactic| exact fun _ _ _ _ _ _ us hl => match us, hl with | [_, _], _ => rfl)
local macro_rules | `(tactic| wtm_at "3") => `(tactic| exact fun _ _ _ _ _ _ us hl => match us, hl with | [_, _, _], _ => rfl)
local macro_rules | `(tactic| wtm_at "l") => `(tactic| ((repeat rw [L2.look_miss (by decide +kernel)]); exact L2.look_hit))
local macro_rules | `(tactic| wtm_at "p") => `(tactic| ((repeat rw [L2.putF_miss (by decide +kernel)]); rw [L2.putF_hit]))
namespace Pr
end Pr
namespace Pr
open PySem L2 Mir Tx
def fldsM (c : Addr) (m : Mach) : List (Str × V) := [("cells", .ref c), ("total", .int m.total), ("mark", .int m.mark), ("at", .int m.at_)]
theorem n_ct : ¬ (("cells" : Str) = "total") := by decide +kernel
theorem n_cm : ¬ (("cells" : Str) = "mark") := by decide +kernel
theorem n_ca : ¬ (("cells" : Str) = "at") := by decide +kernel
theorem n_tm : ¬ (("total" : Str) = "mark") := by decide +kernel
theorem n_ta : ¬ (("total" : Str) = "at") := by decide +kernel
theorem n_ma : ¬ (("mark" : Str) = "at") := by decide +kernel
theorem lk_cells (c : Addr) (m : Mach) : (fldsM c m).lookup ("cells" : Str) = some (.ref c) := look_hit
theorem lk_total (c : Addr) (m : Mach) : (fldsM c m).lookup ("total" : Str) = some (.int m.total) := by
 unfold fldsM; rw [look_miss (Ne.symm n_ct)]; exact look_hit
theorem lk_mark (c : Addr) (m : Mach) : (fldsM c m).lookup ("mark" : Str) = some (.int m.mark) := by
 unfold fldsM; rw [look_miss (Ne.symm n_cm), look_miss (Ne.symm n_tm)]; exact look_hit
theorem lk_at (c : Addr) (m : Mach) : (fldsM c m).lookup ("at" : Str) = some (.int m.at_) := by
 unfold fldsM; rw [look_miss (Ne.symm n_ca), look_miss (Ne.symm n_ta), look_miss (Ne.symm n_ma)]; exact look_hit
theorem pf_total (c : Addr) (m : Mach) (y : Int) : putF "total" (.int y) (fldsM c m) = fldsM c { m with total := y } := by
 unfold fldsM; rw [putF_miss n_ct, putF_hit]
theorem pf_mark (c : Addr) (m : Mach) (y : Int) : putF "mark" (.int y) (fldsM c m) = fldsM c { m with mark := y } := by
 unfold fldsM; rw [putF_miss n_cm, putF_miss n_tm, putF_hit]
theorem pf_at (c : Addr) (m : Mach) (y : Int) : putF "at" (.int y) (fldsM c m) = fldsM c { m with at_ := y } := by
 unfold fldsM; rw [putF_miss n_ca, putF_miss n_ta, putF_miss n_ma, putF_hit]
theorem pf_init (c : Addr) (m : Mach) : putF "at" (.int m.at_) (putF "mark" (.int m.mark) (putF "total" (.int m.total) (putF "cells" (.ref c) []))) = fldsM c m := by
 show putF "at" (.int m.at_) (putF "mark" (.int m.mark) (putF "total" (.int m.total) [("cells", V.ref c)])) = _
 rw [putF_miss n_ct]
 show putF "at" (.int m.at_) (putF "mark" (.int m.mark) [("cells", V.ref c), ("total", V.int m.total)]) = _
 rw [putF_miss n_cm, putF_miss n_tm]
 show putF "at" (.int m.at_) [("cells", V.ref c), ("total", V.int m.total), ("mark", V.int m.mark)] = _
 rw [putF_miss n_ca, putF_miss n_ta, putF_miss n_ma]
 rfl
theorem len_flds (c : Addr) (m : Mach) : (fldsM c m).length < 1000 := by show 4 < 1000; decide
def Fr2 (H H' : Hp) (p c : Addr) : Prop := ∀ b o, H b = some o → b ≠ p → b ≠ c → H' b = some o
theorem Fr2.refl {H : Hp} {p c : Addr} : Fr2 H H p c := fun _ _ h _ _ => h
theorem Fr2.trans {H H1 H2 : Hp} {p c : Addr} (a : Fr2 H H1 p c) (b : Fr2 H1 H2 p c) : Fr2 H H2 p c := fun x o h h1 h2 => b x o (a x o h h1 h2) h1 h2
theorem Fr2.updP {H : Hp} {p c : Addr} {o : HO} : Fr2 H (upd H p o) p c := fun b u h h1 _ => by rw [upd_ne h1]; exact h
theorem Fr2.updC {H : Hp} {p c : Addr} {o : HO} : Fr2 H (upd H c o) p c := fun b u h _ h2 => by rw [upd_ne h2]; exact h
theorem Fr2.new {H : Hp} {p c a : Addr} {o : HO} (n : H a = none) : Fr2 H (upd H a o) p c := fun b u h _ _ => by rw [upd_ne (ne_of_none h n)]; exact h
structure MAt (C : Addr) (H : Hp) (p c dx : Addr) (m : Mach) : Prop where
 ob : H p = some (.ins C dx (fldsM c m))
 cl : H c = some (.lst (m.cells.map V.int))
theorem MAt.ne {C : Addr} {H : Hp} {p c dx : Addr} {m : Mach} (h : MAt C H p c dx m) : p ≠ c := ne_of h.ob h.cl (by intro z; cases z)
theorem MAt.setP {C : Addr} {H : Hp} {p c dx : Addr} {m m' : Mach} (h : MAt C H p c dx m) (e : m'.cells = m.cells) : MAt C (upd H p (.ins C dx (fldsM c m'))) p c dx m' :=
 ⟨upd_same, by rw [upd_ne h.ne.symm, e]; exact h.cl⟩
theorem MAt.setC {C : Addr} {H : Hp} {p c dx : Addr} {m m' : Mach} {xs : List V} (h : MAt C H p c dx m) (e : xs = m'.cells.map V.int) (e1 : m'.total = m.total) (e2 : m'.mark = m.mark) (e3 : m'.at_ = m.at_) : MAt C (upd H c (.lst xs)) p c dx m' :=
 ⟨by rw [upd_ne h.ne, show fldsM c m' = fldsM c m by unfold fldsM; rw [e1, e2, e3]]; exact h.ob, by rw [upd_same, e]⟩
theorem MAt.new {C : Addr} {H : Hp} {p c dx a : Addr} {o : HO} {m : Mach} (h : MAt C H p c dx m) (n : H a = none) : MAt C (upd H a o) p c dx m :=
 ⟨by rw [upd_ne (ne_of_none h.ob n)]; exact h.ob, by rw [upd_ne (ne_of_none h.cl n)]; exact h.cl⟩
theorem MAt.same {C : Addr} {H : Hp} {p c dx : Addr} {m m' : Mach} (h : MAt C H p c dx m) (e : m = m') : MAt C H p c dx m' := by rw [← e]; exact h
structure TxtM (K : PySem.W.Frag) (mg : Str → Option Value) (C : Addr) : Prop where
 cl : Cls K C
 n_cells : NoAttr K C "cells"
 n_total : NoAttr K C "total"
 n_mark : NoAttr K C "mark"
 n_at : NoAttr K C "at"
 WORDS : IntG mg "WORDS" 1024
 PLACES : IntG mg "PLACES" 64
 AND : IntG mg "AND" 0
 ADD : IntG mg "ADD" 1
 RISE : IntG mg "RISE" 2
 PUT : IntG mg "PUT" 3
 CALL : IntG mg "CALL" 4
 GO : IntG mg "GO" 5
 ASK : IntG mg "ASK" 6
 BITS : IntG mg "BITS" 7
 list_ : mg "list" = none
def sp_behind : Sp := fun vs H Q _ => ∃ a, vs = [.int a] ∧ Q (.int ((a + 1) % 64)) H
def sp_parts : Sp := fun vs H Q _ => ∃ w, vs = [.int w] ∧ ∀ t, H t = none → Q (.ref t) (upd H t (.tup [.int (w / 128), .int (w % 128 / 64), .int (w % 64)]))
def sp_bit : Sp := fun vs H Q _ => ∃ a b, vs = [.int a, .int b] ∧ CDiv a b ∧ Q (.bl (bit a b)) H
def spM (C : Addr) (pre : Mach → Prop) (f : Mach → Mach) : Sp := fun vs H Q _ => ∃ p c dx m, vs = [.ref p] ∧ MAt C H p c dx m ∧ pre m ∧ ∀ H', MAt C H' p c dx (f m) → Fr2 H H' p c → Q .non H'
def spM1 (C : Addr) (pre : Mach → Int → Prop) (f : Mach → Int → Mach) : Sp := fun vs H Q _ => ∃ p c dx m a, vs = [.ref p, .int a] ∧ MAt C H p c dx m ∧ pre m a ∧ ∀ H', MAt C H' p c dx (f m a) → Fr2 H H' p c → Q .non H'
def spV1 (C : Addr) (pre : Mach → Int → Prop) (g : Mach → Int → V) (f : Mach → Int → Mach) : Sp := fun vs H Q _ => ∃ p c dx m a, vs = [.ref p, .int a] ∧ MAt C H p c dx m ∧ pre m a ∧ ∀ H', MAt C H' p c dx (f m a) → Fr2 H H' p c → Q (g m a) H'
def spM2 (C : Addr) (pre : Mach → Int → Int → Prop) (f : Mach → Int → Int → Mach) : Sp := fun vs H Q _ => ∃ p c dx m k a, vs = [.ref p, .int k, .int a] ∧ MAt C H p c dx m ∧ pre m k a ∧ ∀ H', MAt C H' p c dx (f m k a) → Fr2 H H' p c → Q .non H'
def vO : Option Int → V
 | some i => .int i
 | none => .non
def sp_deed (C : Addr) : Sp := fun vs H Q _ => ∃ p c dx m, vs = [.ref p] ∧ MAt C H p c dx m ∧ Wf m ∧ ∀ H', MAt C H' p c dx (deedM m).2 → Fr2 H H' p c → Q (vO (deedM m).1) H'
def sp_init (C : Addr) (K : PySem.W.Frag) : Sp := fun vs H Q _ => ∃ (p dx l : Addr) (ns : List Int) (t k a : Int), vs = [.ref p, .ref l, .int t, .int k, .int a] ∧ H p = some (.ins C dx []) ∧ SqL K H l (ns.map V.int) ∧ ns.length ≤ 1000 ∧
 ∀ c H', H c = none → MAt C H' p c dx ⟨ns, t, k, a⟩ → (∀ b o, H b = some o → b ≠ p → H' b = some o) → Q .non H'
def pre1 (m : Mach) (q : Int) : Prop := m.cells.length = 64 ∧ 0 ≤ q ∧ q < 64
def pre2 (m : Mach) (_ q : Int) : Prop := m.cells.length = 64 ∧ 0 ≤ q ∧ q < 64
section
variable {P : Program} {w : World} {K : PySem.W.Frag} {mg : Str → Option Value} {base : Heap} {C : Addr}
theorem ok_behind (R : Raw K mg "place_behind" s_place_behind) (T : TxtM K mg C) : GF P w K mg base "place_behind" ["place"] 1 sp_behind := by
 refine GF.mk R sc_place_behind (by wtm_at "1") (fun vs H Q E h => ?_) (fun f cdv A outer s H vs Q E hr h => ?_)
 ·obtain ⟨a, rfl, _⟩ := h; rfl
 ·obtain ⟨a, rfl, k⟩ := h
  refine ⟨_, (pss_one (ps_ret (pe_op op_mod (pe_op op_add (pv 0) pe_int) (pe_gint rfl T.PLACES)))), ?_⟩
  exact ⟨_, rfl, _, _, rfl, rfl, _, _, rfl, rfl, (by show (0 : Int) < 64; decide), k⟩
theorem ok_parts (R : Raw K mg "parts" s_parts) : GF P w K mg base "parts" ["word"] 1 sp_parts := by
 refine GF.mk R sc_parts (by wtm_at "1") (fun vs H Q E h => ?_) (fun f cdv A outer s H vs Q E hr h => ?_)
 ·obtain ⟨a, rfl, _⟩ := h; rfl
 ·obtain ⟨a, rfl, k⟩ := h
  refine ⟨_, (pss_one (ps_ret (pe_tup (pa_cons (pe_op op_fdiv (pv 0) pe_int) (pa_cons (pe_op op_fdiv (pe_op op_mod (pv 0) pe_int) pe_int) (pa_cons (pe_op op_mod (pv 0) pe_int) pa_nil)))))), ?_⟩
  exact ⟨_, rfl, _, _, rfl, rfl, ⟨by decide, by decide⟩, _, rfl, _, _, rfl, rfl, (by show (0 : Int) < 128; decide), _, _, rfl, rfl, ⟨by decide, by decide⟩, _, rfl, _, _, rfl, rfl, (by show (0 : Int) < 64; decide), (by show 3 ≤ sizeLine; decide), fun t ht => k t ht⟩
theorem ok_bit (R : Raw K mg "has_bit" s_has_bit) : GF P w K mg base "has_bit" ["place", "bit"] 1 sp_bit := by
 refine GF.mk R sc_has_bit (by wtm_at "2") (fun vs H Q E h => ?_) (fun f cdv A outer s H vs Q E hr h => ?_)
 ·obtain ⟨a, b, rfl, _⟩ := h; rfl
 ·obtain ⟨a, b, rfl, hc, k⟩ := h
  refine ⟨_, (pss_one (ps_ret (pe_cmpR op_eq (pe_op op_mod (pe_op op_fdiv (pv 0) (pv 1)) pe_int) pe_int (nomark _)))), ?_⟩
  refine ⟨_, rfl, _, rfl, _, _, rfl, rfl, hc, _, _, rfl, rfl, (by show (0 : Int) < 2; decide), rfl, ?_⟩
  have e : decide (V.int (a / b % 2) = V.int 1) = bit a b := by
   unfold bit
   rw [Bool.eq_iff_iff]
   simp
  rw [e]
  exact k
theorem ok_move (R : Raw K mg "move_on" s_move_on) (T : TxtM K mg C) (G_place_behind : GF P w K mg base "place_behind" ["place"] 1 sp_behind) : GF P w K mg base "move_on" ["machine"] 2 (spM C (fun _ => True) moveOn) := by
 refine GF.mk R sc_move_on (by wtm_at "1") (fun vs H Q E h => ?_) (fun f cdv A outer s H vs Q E hr h => ?_)
 ·obtain ⟨p, c, dx, m, rfl, _⟩ := h; rfl
 ·obtain ⟨p, c, dx, m, rfl, M, _, k⟩ := h
  refine ⟨_, (pss_one (ps_fld (pv 0) (pe_gcall G_place_behind (hr.mono (by decide)) rfl (pa_cons (pe_fld (pv 0) rfl) pa_nil)) rfl)), ?_⟩
  refine ⟨_, rfl, p, C, dx, _, _, rfl, M.ob, T.cl, T.n_at, lk_at _ _, _, rfl, _, rfl, p, C, dx, _, rfl, M.ob, T.cl, T.n_at, len_flds _ _, ?_⟩
  rw [pf_at]
  exact k _ (M.setP (by rfl)) Fr2.updP
theorem ok_raise (R : Raw K mg "raise_cell" s_raise_cell) (T : TxtM K mg C) : GF P w K mg base "raise_cell" ["machine", "place"] 1 (spM1 C pre1 raiseC) := by
 refine GF.mk R sc_raise_cell (by wtm_at "2") (fun vs H Q E h => ?_) (fun f cdv A outer s H vs Q E hr h => ?_)
 ·obtain ⟨p, c, dx, m, a, rfl, _⟩ := h; rfl
 ·obtain ⟨p, c, dx, m, a, rfl, M, ⟨h1, h2, h3⟩, k⟩ := h
  refine ⟨_, (pss_one (ps_asg (pe_op op_mod (pe_op op_add (pe_ix ix_list (pe_fld (pv 0) rfl) (pv 1) (fun _ _ => rfl)) pe_int) (pe_gint rfl T.WORDS)) (pg_sub (pe_fld (pv 0) rfl) (pv 1) set_list))), ?_⟩
  refine ⟨_, rfl, p, C, dx, _, _, rfl, M.ob, T.cl, T.n_cells, lk_cells _ _, _, rfl, c, _, _, _, rfl, rfl, SqL.of M.cl, atI_ints h2 (by omega), _, _, rfl, rfl, _, _, rfl, rfl, (by show (0 : Int) < 1024; decide), ?_⟩
  refine ⟨_, rfl, p, C, dx, _, _, rfl, M.ob, T.cl, T.n_cells, lk_cells _ _, _, rfl, c, _, _, _, rfl, rfl, M.cl, ixN_ints h2 (by rw [List.length_map]; omega), ?_⟩
  refine k _ (M.setC ?_ rfl rfl rfl) Fr2.updC
  show _ = (m.cells.set a.toNat _).map V.int
  rw [List.map_set]
  rfl
theorem ok_far (R : Raw K mg "far_place" s_far_place) (T : TxtM K mg C) (G_raise_cell : GF P w K mg base "raise_cell" ["machine", "place"] 1 (spM1 C pre1 raiseC)) :
  GF P w K mg base "far_place" ["machine", "place"] 2 (spV1 C pre1 (fun m a => .int (farV m a)) farM) := by
 refine GF.mk R sc_far_place (by wtm_at "2") (fun vs H Q E h => ?_) (fun f cdv A outer s H vs Q E hr h => ?_)
 ·obtain ⟨p, c, dx, m, a, rfl, _⟩ := h; rfl
 ·obtain ⟨p, c, dx, m, a, rfl, M, ⟨h1, h2, h3⟩, k⟩ := h
  refine ⟨_, (pss_cons (ps_cut (ps_if (pt_chain op_le op_le pe_int (pv 1) pe_int) (pss_one (ps_expr (pe_gcall G_raise_cell (hr.mono (by decide)) rfl (pa_cons (pv 0) (pa_cons (pv 1) pa_nil))))) pss_nil))
   (pss_one (ps_ret (pe_op op_mod (pe_ix ix_list (pe_fld (pv 0) rfl) (pv 1) (fun _ _ => rfl)) (pe_gint rfl T.PLACES))))), ?_⟩
  refine ⟨fun σ' H' => σ' = [some (.ref p), some (.int a)] ∧ MAt C H' p c dx (farM m a) ∧ Fr2 H H' p c, ?_, ?_⟩
  ·refine ⟨_, rfl, _, _, rfl, rfl, _, rfl, ?_⟩
   refine iteD (fun g1 => ?_) (fun g1 => ?_)
   ·refine ⟨_, _, rfl, rfl, _, rfl, ?_⟩
    refine iteD (fun g2 => ?_) (fun g2 => ?_)
    ·refine ⟨_, rfl, _, rfl, p, c, dx, m, a, rfl, M, ⟨h1, h2, h3⟩, fun H' M' F' => ⟨rfl, M'.same ?_, F'⟩⟩
     unfold farM; rw [if_pos ⟨g1, g2⟩]
    ·refine ⟨rfl, M.same ?_, Fr2.refl⟩
     unfold farM; rw [if_neg (fun z => g2 z.2)]
   ·refine ⟨_, rfl, iteF ?_⟩
    refine ⟨rfl, M.same ?_, Fr2.refl⟩
    unfold farM; rw [if_neg (fun z => g1 z.1)]
  ·rintro σ' H' ⟨rfl, M', F'⟩
   refine ⟨_, rfl, p, C, dx, _, _, rfl, M'.ob, T.cl, T.n_cells, lk_cells _ _, _, rfl, c, _, _, _, rfl, rfl, SqL.of M'.cl, atI_ints h2 (by rw [farM_len]; omega), _, _, rfl, rfl, (by show (0 : Int) < 64; decide), ?_⟩
   exact k H' M' F'
theorem ok_turn (R : Raw K mg "turn_mark" s_turn_mark) (T : TxtM K mg C) : GF P w K mg base "turn_mark" ["machine"] 1 (spM C (fun _ => True) turnK) := by
 refine GF.mk R sc_turn_mark (by wtm_at "1") (fun vs H Q E h => ?_) (fun f cdv A outer s H vs Q E hr h => ?_)
 ·obtain ⟨p, c, dx, m, rfl, _⟩ := h; rfl
 ·obtain ⟨p, c, dx, m, rfl, M, _, k⟩ := h
  refine ⟨_, (pss_one (ps_fld (pv 0) (pe_op op_sub pe_int (pe_fld (pv 0) rfl)) rfl)), ?_⟩
  refine ⟨_, rfl, p, C, dx, _, _, rfl, M.ob, T.cl, T.n_mark, lk_mark _ _, _, _, rfl, rfl, _, rfl, p, C, dx, _, rfl, M.ob, T.cl, T.n_mark, len_flds _ _, ?_⟩
  rw [pf_mark]
  exact k _ (M.setP (by rfl)) Fr2.updP
theorem ok_add (R : Raw K mg "add_to_total" s_add_to_total) (T : TxtM K mg C) (G_turn_mark : GF P w K mg base "turn_mark" ["machine"] 1 (spM C (fun _ => True) turnK)) :
  GF P w K mg base "add_to_total" ["machine", "amount"] 2 (spM1 C (fun _ _ => True) addT) := by
 refine GF.mk R sc_add_to_total (by wtm_at "2") (fun vs H Q E h => ?_) (fun f cdv A outer s H vs Q E hr h => ?_)
 ·obtain ⟨p, c, dx, m, a, rfl, _⟩ := h; rfl
 ·obtain ⟨p, c, dx, m, a, rfl, M, _, k⟩ := h
  refine ⟨_, (pss_cons (ps_fld (pv 0) (pe_op op_add (pe_fld (pv 0) rfl) (pv 1)) rfl)
   (pss_one (ps_if (pt_cmpR op_ge (pe_fld (pv 0) rfl) (pe_gint rfl T.WORDS) (nomark _)) (pss_cons (ps_fld (pv 0) (pe_op op_sub (pe_fld (pv 0) rfl) (pe_gint rfl T.WORDS)) rfl)
   (pss_one (ps_expr (pe_gcall G_turn_mark (hr.mono (by decide)) rfl (pa_cons (pv 0) pa_nil))))) pss_nil))), ?_⟩
  refine ⟨_, rfl, p, C, dx, _, _, rfl, M.ob, T.cl, T.n_total, lk_total _ _, _, rfl, _, _, rfl, rfl, _, rfl, p, C, dx, _, rfl, M.ob, T.cl, T.n_total, len_flds _ _, ?_⟩
  rw [pf_total]
  have M1 : MAt C (upd H p (.ins C dx (fldsM c { m with total := m.total + a }))) p c dx { m with total := m.total + a } := M.setP rfl
  refine ⟨_, rfl, p, C, dx, _, _, rfl, M1.ob, T.cl, T.n_total, lk_total _ _, _, _, rfl, rfl, _, rfl, ?_⟩
  refine iteD (fun g => ?_) (fun g => ?_)
  ·refine ⟨_, rfl, p, C, dx, _, _, rfl, M1.ob, T.cl, T.n_total, lk_total _ _, _, _, rfl, rfl, _, rfl, p, C, dx, _, rfl, M1.ob, T.cl, T.n_total, len_flds _ _, ?_⟩
   rw [pf_total]
   refine ⟨_, rfl, p, c, dx, _, rfl, M1.setP (by rfl), trivial, fun H' M' F' => k H' (M'.same ?_) (Fr2.updP.trans (Fr2.updP.trans F'))⟩
   unfold addT; rw [if_pos g]
  ·refine k _ (M1.same ?_) Fr2.updP
   unfold addT; rw [if_neg g]
theorem ok_rise (R : Raw K mg "do_rise" s_do_rise) (T : TxtM K mg C) (G_raise_cell : GF P w K mg base "raise_cell" ["machine", "place"] 1 (spM1 C pre1 raiseC)) (G_move_on : GF P w K mg base "move_on" ["machine"] 2 (spM C (fun _ => True) moveOn)) :
  GF P w K mg base "do_rise" ["machine", "place"] 3 (spM1 C pre1 doRise) := by
 refine GF.mk R sc_do_rise (by wtm_at "2") (fun vs H Q E h => ?_) (fun f cdv A outer s H vs Q E hr h => ?_)
 ·obtain ⟨p, c, dx, m, a, rfl, _⟩ := h; rfl
 ·obtain ⟨p, c, dx, m, a, rfl, M, ⟨h1, h2, h3⟩, k⟩ := h
  refine ⟨_, (pss_cons (ps_expr (pe_gcall G_raise_cell (hr.mono (by decide)) rfl (pa_cons (pv 0) (pa_cons (pv 1) pa_nil))))
   (pss_one (ps_if (pt_cmpR op_eq (pe_ix ix_list (pe_fld (pv 0) rfl) (pv 1) (fun _ _ => rfl)) pe_int (nomark _)) (pss_one (ps_expr (pe_gcall G_move_on (hr.mono (by decide)) rfl (pa_cons (pv 0) pa_nil)))) pss_nil))), ?_⟩
  refine ⟨_, rfl, _, rfl, p, c, dx, m, a, rfl, M, ⟨h1, h2, h3⟩, fun H1 M1 F1 => ?_⟩
  refine ⟨_, rfl, p, C, dx, _, _, rfl, M1.ob, T.cl, T.n_cells, lk_cells _ _, _, rfl, c, _, _, _, rfl, rfl, SqL.of M1.cl, atI_ints h2 (by rw [raiseC_len]; omega), rfl, _, rfl, ?_⟩
  refine iteD (fun g => ?_) (fun g => ?_)
  ·refine ⟨_, rfl, p, c, dx, _, rfl, M1, trivial, fun H' M' F' => k H' (M'.same ?_) (F1.trans F')⟩
   unfold doRise cellM; rw [if_pos (by injection g)]
  ·refine k _ (M1.same ?_) F1
   unfold doRise cellM; rw [if_neg (fun z => g (congrArg V.int z))]
theorem ok_shl (R : Raw K mg "shift_left" s_shift_left) (T : TxtM K mg C) : GF P w K mg base "shift_left" ["machine"] 1 (spM C (fun _ => True) shiftL) := by
 refine GF.mk R sc_shift_left (by wtm_at "1") (fun vs H Q E h => ?_) (fun f cdv A outer s H vs Q E hr h => ?_)
 ·obtain ⟨p, c, dx, m, rfl, _⟩ := h; rfl
 ·obtain ⟨p, c, dx, m, rfl, M, _, k⟩ := h
  refine ⟨_, (pss_cons (ps_set (i := 1) sc_shift_left.nd rfl (Or.inl rfl) (pe_op op_add (pe_op op_mul (pe_fld (pv 0) rfl) pe_int) (pe_fld (pv 0) rfl)))
   (pss_cons (ps_fld (pv 0) (pe_op op_mod (pv 1) (pe_gint rfl T.WORDS)) rfl)
   (pss_one (ps_fld (pv 0) (pe_op op_fdiv (pv 1) (pe_gint rfl T.WORDS)) rfl)))), ?_⟩
  refine ⟨_, rfl, p, C, dx, _, _, rfl, M.ob, T.cl, T.n_total, lk_total _ _, _, _, rfl, rfl, .inr ⟨by decide, by decide⟩, _, rfl, p, C, dx, _, _, rfl, M.ob, T.cl, T.n_mark, lk_mark _ _, _, _, rfl, rfl, ?_⟩
  refine ⟨_, rfl, _, _, rfl, rfl, (by show (0 : Int) < 1024; decide), _, rfl, p, C, dx, _, rfl, M.ob, T.cl, T.n_total, len_flds _ _, ?_⟩
  rw [pf_total]
  have M1 := M.setP (m' := { m with total := (m.total * 2 + m.mark) % 1024 }) rfl
  refine ⟨_, rfl, _, _, rfl, rfl, ⟨by decide, by decide⟩, _, rfl, p, C, dx, _, rfl, M1.ob, T.cl, T.n_mark, len_flds _ _, ?_⟩
  rw [pf_mark]
  exact k _ (M1.setP (by rfl)) (Fr2.updP.trans Fr2.updP)
theorem ok_shr (R : Raw K mg "shift_right" s_shift_right) (T : TxtM K mg C) : GF P w K mg base "shift_right" ["machine"] 1 (spM C (fun _ => True) shiftR) := by
 refine GF.mk R sc_shift_right (by wtm_at "1") (fun vs H Q E h => ?_) (fun f cdv A outer s H vs Q E hr h => ?_)
 ·obtain ⟨p, c, dx, m, rfl, _⟩ := h; rfl
 ·obtain ⟨p, c, dx, m, rfl, M, _, k⟩ := h
  refine ⟨_, (pss_cons (ps_set (i := 1) sc_shift_right.nd rfl (Or.inl rfl) (pe_op op_mod (pe_fld (pv 0) rfl) pe_int))
   (pss_cons (ps_fld (pv 0) (pe_op op_add (pe_op op_fdiv (pe_fld (pv 0) rfl) pe_int) (pe_op op_mul (pe_fld (pv 0) rfl) (pe_op op_fdiv (pe_gint rfl T.WORDS) pe_int))) rfl)
   (pss_one (ps_fld (pv 0) (pv 1) rfl)))), ?_⟩
  refine ⟨_, rfl, p, C, dx, _, _, rfl, M.ob, T.cl, T.n_total, lk_total _ _, _, _, rfl, rfl, (by show (0 : Int) < 2; decide), ?_⟩
  refine ⟨_, rfl, p, C, dx, _, _, rfl, M.ob, T.cl, T.n_total, lk_total _ _, _, _, rfl, rfl, ⟨by decide, by decide⟩, _, rfl, p, C, dx, _, _, rfl, M.ob, T.cl, T.n_mark, lk_mark _ _, _, _, rfl, rfl, ⟨by decide, by decide⟩, _, _, rfl, rfl, .inr ⟨by decide, by decide⟩, _, _, rfl, rfl, _, rfl, p, C, dx, _, rfl, M.ob, T.cl, T.n_total, len_flds _ _, ?_⟩
  rw [pf_total]
  have M1 := M.setP (m' := { m with total := m.total / 2 + m.mark * (1024 / 2) }) rfl
  refine ⟨_, rfl, _, rfl, p, C, dx, _, rfl, M1.ob, T.cl, T.n_mark, len_flds _ _, ?_⟩
  rw [pf_mark]
  exact k _ (M1.setP (by rfl)) (Fr2.updP.trans Fr2.updP)
end
end Pr
namespace Pr
open PySem L2 Mir Tx
theorem iteE {b : Bool} {c A B : Prop} (e : b = true ↔ c) (h1 : c → A) (h2 : ¬ c → B) : if b = true then A else B := by
 by_cases h : b = true
 ·rw [if_pos h]; exact h1 (e.mp h)
 ·rw [if_neg h]; exact h2 fun z => h (e.mpr z)
theorem dInt {i j : Int} : decide (V.int i = V.int j) = true ↔ i = j := by simp
section
variable {P : Program} {w : World} {K : PySem.W.Frag} {mg : Str → Option Value} {base : Heap} {C : Addr}
theorem ok_with (R : Raw K mg "do_with_cell" s_do_with_cell) (T : TxtM K mg C) (G_place_behind : GF P w K mg base "place_behind" ["place"] 1 sp_behind) (G_add_to_total : GF P w K mg base "add_to_total" ["machine", "amount"] 2 (spM1 C (fun _ _ => True) addT))
  (G_do_rise : GF P w K mg base "do_rise" ["machine", "place"] 3 (spM1 C pre1 doRise)) : GF P w K mg base "do_with_cell" ["machine", "kind", "place"] 4 (spM2 C pre2 withCell) := by
 refine GF.mk R sc_do_with_cell (by wtm_at "3") (fun vs H Q E h => ?_) (fun f cdv A outer s H vs Q E hr h => ?_)
 ·obtain ⟨p, c, dx, m, k, a, rfl, _⟩ := h; rfl
 ·obtain ⟨p, c, dx, m, kd, a, rfl, M, ⟨h1, h2, h3⟩, k⟩ := h
  refine ⟨_, (pss_one (ps_if (pt_cmpR op_eq (pv 1) (pe_gint rfl T.AND) (nomark _)) (pss_one (ps_fld (pv 0) (pe_op op_and (pe_fld (pv 0) rfl) (pe_ix ix_list (pe_fld (pv 0) rfl) (pv 2) (fun _ _ => rfl))) rfl)) (pss_one (ps_if (pt_cmpR op_eq (pv 1) (pe_gint rfl T.ADD) (nomark _)) (pss_one (ps_expr (pe_gcall G_add_to_total (hr.mono (by decide)) rfl (pa_cons (pv 0) (pa_cons (pe_ix ix_list (pe_fld (pv 0) rfl) (pv 2) (fun _ _ => rfl)) pa_nil))))) (pss_one (ps_if (pt_cmpR op_eq (pv 1) (pe_gint rfl T.RISE) (nomark _)) (pss_one (ps_expr (pe_gcall G_do_rise (hr.mono (by decide)) rfl (pa_cons (pv 0) (pa_cons (pv 2) pa_nil))))) (pss_one (ps_if (pt_cmpR op_eq (pv 1) (pe_gint rfl T.PUT) (nomark _)) (pss_cons (ps_asg (pe_fld (pv 0) rfl) (pg_sub (pe_fld (pv 0) rfl) (pv 2) set_list))
   (pss_one (ps_fld (pv 0) pe_int rfl))) (pss_one (ps_if (pt_cmpR op_eq (pv 1) (pe_gint rfl T.CALL) (nomark _)) (pss_cons (ps_asg (pe_fld (pv 0) rfl) (pg_sub (pe_fld (pv 0) rfl) (pv 2) set_list))
   (pss_one (ps_fld (pv 0) (pe_gcall G_place_behind (hr.mono (by decide)) rfl (pa_cons (pv 2) pa_nil)) rfl))) (pss_one (ps_if (pt_cmpR op_eq (pv 1) (pe_gint rfl T.GO) (nomark _)) (pss_one (ps_fld (pv 0) (pv 2) rfl)) pss_nil)))))))))))), ?_⟩
  refine ⟨_, rfl, rfl, _, rfl, iteE dInt (fun g0 => ?_) (fun g0 => ?_)⟩
  ·refine ⟨_, rfl, p, C, dx, _, _, rfl, M.ob, T.cl, T.n_total, lk_total _ _, _, rfl, p, C, dx, _, _, rfl, M.ob, T.cl, T.n_cells, lk_cells _ _, _, rfl, c, _, _, _, rfl, rfl, SqL.of M.cl, atI_ints h2 (by omega), _, _, rfl, rfl, _, rfl, p, C, dx, _, rfl, M.ob, T.cl, T.n_total, len_flds _ _, ?_⟩
   rw [pf_total]
   refine k _ ((M.setP (by rfl)).same ?_) Fr2.updP
   unfold withCell; rw [if_pos g0]; rfl
  refine ⟨_, rfl, rfl, _, rfl, iteE dInt (fun g1 => ?_) (fun g1 => ?_)⟩
  ·refine ⟨_, rfl, _, rfl, p, C, dx, _, _, rfl, M.ob, T.cl, T.n_cells, lk_cells _ _, _, rfl, c, _, _, _, rfl, rfl, SqL.of M.cl, atI_ints h2 (by omega), p, c, dx, m, _, rfl, M, trivial, fun H' M' F' => k H' (M'.same ?_) F'⟩
   unfold withCell; rw [if_neg g0, if_pos g1]; rfl
  refine ⟨_, rfl, rfl, _, rfl, iteE dInt (fun g2 => ?_) (fun g2 => ?_)⟩
  ·refine ⟨_, rfl, _, rfl, p, c, dx, m, a, rfl, M, ⟨h1, h2, h3⟩, fun H' M' F' => k H' (M'.same ?_) F'⟩
   unfold withCell; rw [if_neg g0, if_neg g1, if_pos g2]
  refine ⟨_, rfl, rfl, _, rfl, iteE dInt (fun g3 => ?_) (fun g3 => ?_)⟩
  ·refine ⟨_, rfl, p, C, dx, _, _, rfl, M.ob, T.cl, T.n_total, lk_total _ _, _, rfl, p, C, dx, _, _, rfl, M.ob, T.cl, T.n_cells, lk_cells _ _, _, rfl, c, _, _, _, rfl, rfl, M.cl, ixN_ints h2 (by rw [List.length_map]; omega), ?_⟩
   have M1 : MAt C (upd H c (.lst ((m.cells.map V.int).set a.toNat (.int m.total)))) p c dx { m with cells := m.cells.set a.toNat m.total } := M.setC (by rw [List.map_set]) rfl rfl rfl
   refine ⟨_, rfl, p, C, dx, _, rfl, M1.ob, T.cl, T.n_total, len_flds _ _, ?_⟩
   rw [pf_total]
   refine k _ ((M1.setP (by rfl)).same ?_) (Fr2.updC.trans Fr2.updP)
   unfold withCell; rw [if_neg g0, if_neg g1, if_neg g2, if_pos g3]
  refine ⟨_, rfl, rfl, _, rfl, iteE dInt (fun g4 => ?_) (fun g4 => ?_)⟩
  ·refine ⟨_, rfl, p, C, dx, _, _, rfl, M.ob, T.cl, T.n_at, lk_at _ _, _, rfl, p, C, dx, _, _, rfl, M.ob, T.cl, T.n_cells, lk_cells _ _, _, rfl, c, _, _, _, rfl, rfl, M.cl, ixN_ints h2 (by rw [List.length_map]; omega), ?_⟩
   have M1 : MAt C (upd H c (.lst ((m.cells.map V.int).set a.toNat (.int m.at_)))) p c dx { m with cells := m.cells.set a.toNat m.at_ } := M.setC (by rw [List.map_set]) rfl rfl rfl
   refine ⟨_, rfl, _, rfl, _, rfl, p, C, dx, _, rfl, M1.ob, T.cl, T.n_at, len_flds _ _, ?_⟩
   rw [pf_at]
   refine k _ ((M1.setP (by rfl)).same ?_) (Fr2.updC.trans Fr2.updP)
   unfold withCell; rw [if_neg g0, if_neg g1, if_neg g2, if_neg g3, if_pos g4]
  refine ⟨_, rfl, rfl, _, rfl, iteE dInt (fun g5 => ?_) (fun g5 => ?_)⟩
  ·refine ⟨_, rfl, _, rfl, p, C, dx, _, rfl, M.ob, T.cl, T.n_at, len_flds _ _, ?_⟩
   rw [pf_at]
   refine k _ ((M.setP (by rfl)).same ?_) Fr2.updP
   unfold withCell; rw [if_neg g0, if_neg g1, if_neg g2, if_neg g3, if_neg g4, if_pos g5]
  ·refine k _ (M.same ?_) Fr2.refl
   unfold withCell; rw [if_neg g0, if_neg g1, if_neg g2, if_neg g3, if_neg g4, if_neg g5]
theorem ok_change (R : Raw K mg "do_change" s_do_change) (T : TxtM K mg C) (G_has_bit : GF P w K mg base "has_bit" ["place", "bit"] 1 sp_bit) (G_turn_mark : GF P w K mg base "turn_mark" ["machine"] 1 (spM C (fun _ => True) turnK))
  (G_add_to_total : GF P w K mg base "add_to_total" ["machine", "amount"] 2 (spM1 C (fun _ _ => True) addT)) (G_shift_left : GF P w K mg base "shift_left" ["machine"] 1 (spM C (fun _ => True) shiftL))
  (G_shift_right : GF P w K mg base "shift_right" ["machine"] 1 (spM C (fun _ => True) shiftR)) : GF P w K mg base "do_change" ["machine", "place"] 3 (spM1 C (fun _ _ => True) changeM) := by
 refine GF.mk R sc_do_change (by wtm_at "2") (fun vs H Q E h => ?_) (fun f cdv A outer s H vs Q E hr h => ?_)
 ·obtain ⟨p, c, dx, m, a, rfl, _⟩ := h; rfl
 ·obtain ⟨p, c, dx, m, a, rfl, M, _, k⟩ := h
  refine ⟨_, (pss_cons (ps_cut (ps_if (pt_val (pe_gcall G_has_bit (hr.mono (by decide)) rfl (pa_cons (pv 1) (pa_cons pe_int pa_nil)))) (pss_one (ps_fld (pv 0) pe_int rfl)) pss_nil))
   (pss_cons (ps_cut (ps_if (pt_val (pe_gcall G_has_bit (hr.mono (by decide)) rfl (pa_cons (pv 1) (pa_cons pe_int pa_nil)))) (pss_one (ps_fld (pv 0) (pe_op op_sub (pe_op op_sub (pe_gint rfl T.WORDS) pe_int) (pe_fld (pv 0) rfl)) rfl)) pss_nil))
   (pss_cons (ps_cut (ps_if (pt_val (pe_gcall G_has_bit (hr.mono (by decide)) rfl (pa_cons (pv 1) (pa_cons pe_int pa_nil)))) (pss_one (ps_expr (pe_gcall G_turn_mark (hr.mono (by decide)) rfl (pa_cons (pv 0) pa_nil)))) pss_nil))
   (pss_cons (ps_cut (ps_if (pt_val (pe_gcall G_has_bit (hr.mono (by decide)) rfl (pa_cons (pv 1) (pa_cons pe_int pa_nil)))) (pss_one (ps_expr (pe_gcall G_add_to_total (hr.mono (by decide)) rfl (pa_cons (pv 0) (pa_cons pe_int pa_nil))))) pss_nil))
   (pss_cons (ps_cut (ps_if (PW.pt (pw_and (pt_val (pe_gcall G_has_bit (hr.mono (by decide)) rfl (pa_cons (pv 1) (pa_cons pe_int pa_nil)))) (pw_and1 (pt_not (pt_val (pe_gcall G_has_bit (hr.mono (by decide)) rfl (pa_cons (pv 1) (pa_cons pe_int pa_nil)))))))) (pss_one (ps_expr (pe_gcall G_shift_left (hr.mono (by decide)) rfl (pa_cons (pv 0) pa_nil)))) pss_nil))
   (pss_one (ps_if (PW.pt (pw_and (pt_val (pe_gcall G_has_bit (hr.mono (by decide)) rfl (pa_cons (pv 1) (pa_cons pe_int pa_nil)))) (pw_and1 (pt_not (pt_val (pe_gcall G_has_bit (hr.mono (by decide)) rfl (pa_cons (pv 1) (pa_cons pe_int pa_nil)))))))) (pss_one (ps_expr (pe_gcall G_shift_right (hr.mono (by decide)) rfl (pa_cons (pv 0) pa_nil)))) pss_nil))))))), ?_⟩
  refine ⟨fun σ' H' => σ' = [some (.ref p), some (.int a)] ∧ MAt C H' p c dx (ch1 m a) ∧ Fr2 H H' p c, ?_, ?_⟩
  ·refine ⟨_, rfl, a, 32, rfl, ⟨by decide, by decide⟩, _, rfl, iteB (fun g => ?_) (fun g => ?_)⟩
   ·refine ⟨_, rfl, p, C, dx, _, rfl, M.ob, T.cl, T.n_total, len_flds _ _, ?_⟩
    rw [pf_total]
    exact ⟨rfl, (M.setP (by rfl)).same (by unfold ch1; rw [if_pos g]), Fr2.updP⟩
   ·exact ⟨rfl, M.same (by unfold ch1; rw [g]; rfl), Fr2.refl⟩
  rintro _ H1 ⟨rfl, M1, F1⟩
  refine ⟨fun σ' H' => σ' = [some (.ref p), some (.int a)] ∧ MAt C H' p c dx (ch2 (ch1 m a) a) ∧ Fr2 H H' p c, ?_, ?_⟩
  ·refine ⟨_, rfl, a, 16, rfl, ⟨by decide, by decide⟩, _, rfl, iteB (fun g => ?_) (fun g => ?_)⟩
   ·refine ⟨_, _, rfl, rfl, _, rfl, p, C, dx, _, _, rfl, M1.ob, T.cl, T.n_total, lk_total _ _, _, _, rfl, rfl, _, rfl, p, C, dx, _, rfl, M1.ob, T.cl, T.n_total, len_flds _ _, ?_⟩
    rw [pf_total]
    exact ⟨rfl, (M1.setP (by rfl)).same (by simp [ch2, g]), F1.trans Fr2.updP⟩
   ·exact ⟨rfl, M1.same (by simp [ch2, g]), F1⟩
  rintro _ H2 ⟨rfl, M2, F2⟩
  refine ⟨fun σ' H' => σ' = [some (.ref p), some (.int a)] ∧ MAt C H' p c dx (ch3 (ch2 (ch1 m a) a) a) ∧ Fr2 H H' p c, ?_, ?_⟩
  ·refine ⟨_, rfl, a, 8, rfl, ⟨by decide, by decide⟩, _, rfl, iteB (fun g => ?_) (fun g => ?_)⟩
   ·exact ⟨_, rfl, p, c, dx, _, rfl, M2, trivial, fun H' M' F' => ⟨rfl, M'.same (by simp [ch3, g]), F2.trans F'⟩⟩
   ·exact ⟨rfl, M2.same (by simp [ch3, g]), F2⟩
  rintro _ H3 ⟨rfl, M3, F3⟩
  refine ⟨fun σ' H' => σ' = [some (.ref p), some (.int a)] ∧ MAt C H' p c dx (ch4 (ch3 (ch2 (ch1 m a) a) a) a) ∧ Fr2 H H' p c, ?_, ?_⟩
  ·refine ⟨_, rfl, a, 4, rfl, ⟨by decide, by decide⟩, _, rfl, iteB (fun g => ?_) (fun g => ?_)⟩
   ·exact ⟨_, rfl, p, c, dx, _, 1, rfl, M3, trivial, fun H' M' F' => ⟨rfl, M'.same (by simp [ch4, g]), F3.trans F'⟩⟩
   ·exact ⟨rfl, M3.same (by simp [ch4, g]), F3⟩
  rintro _ H4 ⟨rfl, M4, F4⟩
  refine ⟨fun σ' H' => σ' = [some (.ref p), some (.int a)] ∧ MAt C H' p c dx (ch5 (ch4 (ch3 (ch2 (ch1 m a) a) a) a) a) ∧ Fr2 H H' p c, ?_, ?_⟩
  ·refine ⟨_, rfl, a, 2, rfl, ⟨by decide, by decide⟩, _, rfl, iteB (fun g => ?_) (fun g => iteF ?_)⟩
   ·refine ⟨_, rfl, a, 1, rfl, ⟨by decide, by decide⟩, _, rfl, iteB (fun g' => ?_) (fun g' => ?_)⟩
    ·exact ⟨_, rfl, p, c, dx, _, rfl, M4, trivial, fun H' M' F' => ⟨rfl, M'.same (by simp at g'; simp [ch5, g, g']), F4.trans F'⟩⟩
    ·exact ⟨rfl, M4.same (by simp at g'; simp [ch5, g, g']), F4⟩
   ·exact ⟨rfl, M4.same (by simp [ch5, g]), F4⟩
  rintro _ H5 ⟨rfl, M5, F5⟩
  refine ⟨_, rfl, a, 1, rfl, ⟨by decide, by decide⟩, _, rfl, iteB (fun g => ?_) (fun g => iteF ?_)⟩
  ·refine ⟨_, rfl, a, 2, rfl, ⟨by decide, by decide⟩, _, rfl, iteB (fun g' => ?_) (fun g' => ?_)⟩
   ·exact ⟨_, rfl, p, c, dx, _, rfl, M5, trivial, fun H' M' F' => k H' (M'.same (by simp at g'; simp [changeM, ch6, g, g'])) (F5.trans F')⟩
   ·exact k _ (M5.same (by simp at g'; simp [changeM, ch6, g, g'])) F5
  ·exact k _ (M5.same (by simp [changeM, ch6, g])) F5
def spB1 (C : Addr) (g : Mach → Int → Bool) : Sp := fun vs H Q _ => ∃ p c dx m a, vs = [.ref p, .int a] ∧ MAt C H p c dx m ∧ Q (.bl (g m a)) H
theorem ok_so (R : Raw K mg "test_is_so" s_test_is_so) (T : TxtM K mg C) (G_has_bit : GF P w K mg base "has_bit" ["place", "bit"] 1 sp_bit) : GF P w K mg base "test_is_so" ["machine", "place"] 2 (spB1 C testSo) := by
 refine GF.mk R sc_test_is_so (by wtm_at "2") (fun vs H Q E h => ?_) (fun f cdv A outer s H vs Q E hr h => ?_)
 ·obtain ⟨p, c, dx, m, a, rfl, _⟩ := h; rfl
 ·obtain ⟨p, c, dx, m, a, rfl, M, k⟩ := h
  refine ⟨_, (pss_cons (ps_cut (ps_set (i := 2) sc_test_is_so.nd rfl (Or.inl rfl) (pe_or (pe_and (pe_gcall G_has_bit (hr.mono (by decide)) rfl (pa_cons (pv 1) (pa_cons pe_int pa_nil))) (pe_one (pe_cmpR op_ge (pe_fld (pv 0) rfl) (pe_op op_fdiv (pe_gint rfl T.WORDS) pe_int) (nomark _)))) (pe_or (pe_and (pe_gcall G_has_bit (hr.mono (by decide)) rfl (pa_cons (pv 1) (pa_cons pe_int pa_nil))) (pe_one (pe_cmpR op_eq (pe_fld (pv 0) rfl) pe_int (nomark _)))) (pe_one (pe_and (pe_gcall G_has_bit (hr.mono (by decide)) rfl (pa_cons (pv 1) (pa_cons pe_int pa_nil))) (pe_one (pe_cmpR op_eq (pe_fld (pv 0) rfl) pe_int (nomark _)))))))))
   (pss_cons (ps_if (pt_val (pe_gcall G_has_bit (hr.mono (by decide)) rfl (pa_cons (pv 1) (pa_cons pe_int pa_nil)))) (pss_one (ps_ret (pe_not (pv 2)))) pss_nil)
   (pss_one (ps_ret (pv 2))))), ?_⟩
  refine ⟨fun σ' H' => σ' = [some (.ref p), some (.int a), some (.bl (soM m a))] ∧ H' = H, ?_, ?_⟩
  ·have third : soM m a = (bit a 8 && decide (m.mark = 1)) → (tAndV (tCall sp_bit [] E0 (tCons (tVar 1) (tCons (tC (.int 8)) tNil))) (tOp rEq (tFld K (tVar 0) "mark") (tC (.int 1)))) (start ["machine", "place", "so"] [.ref p, .int a]) H (fun x H1 => gName 2 x (start ["machine", "place", "so"] [.ref p, .int a]) H1 fun σ' H' => σ' = [some (.ref p), some (.int a), some (.bl (soM m a))] ∧ H' = H) := fun e => by
    refine ⟨_, rfl, a, 8, rfl, ⟨by decide, by decide⟩, _, rfl, iteB (fun g => ?_) (fun g => ?_)⟩
    ·refine ⟨_, rfl, p, C, dx, _, _, rfl, M.ob, T.cl, T.n_mark, lk_mark _ _, rfl, ?_, rfl⟩
     show [some (V.ref p), some (V.int a), some (V.bl (decide (V.int m.mark = V.int 1)))] = _
     rw [e, g]; simp
    ·refine ⟨?_, rfl⟩
     show [some (V.ref p), some (V.int a), some (V.bl false)] = _
     rw [e, g]; simp
   have second : soM m a = ((bit a 16 && decide (m.total = 0)) || (bit a 8 && decide (m.mark = 1))) → (tOrV (tAndV (tCall sp_bit [] E0 (tCons (tVar 1) (tCons (tC (.int 16)) tNil))) (tOp rEq (tFld K (tVar 0) "total") (tC (.int 0)))) (tAndV (tCall sp_bit [] E0 (tCons (tVar 1) (tCons (tC (.int 8)) tNil))) (tOp rEq (tFld K (tVar 0) "mark") (tC (.int 1))))) (start ["machine", "place", "so"] [.ref p, .int a]) H (fun x H1 => gName 2 x (start ["machine", "place", "so"] [.ref p, .int a]) H1 fun σ' H' => σ' = [some (.ref p), some (.int a), some (.bl (soM m a))] ∧ H' = H) := fun e => by
    refine ⟨_, rfl, a, 16, rfl, ⟨by decide, by decide⟩, _, rfl, iteB (fun g => ?_) (fun g => ?_)⟩
    ·refine ⟨_, rfl, p, C, dx, _, _, rfl, M.ob, T.cl, T.n_total, lk_total _ _, rfl, _, rfl, iteE dInt (fun g' => ?_) (fun g' => ?_)⟩
     ·refine ⟨?_, rfl⟩
      show [some (V.ref p), some (V.int a), some (V.bl true)] = _
      rw [e, g]; simp [g']
     ·exact third (by rw [e, g]; simp [g'])
    ·exact ⟨_, rfl, iteF (third (by rw [e, g]; simp))⟩
   refine ⟨_, rfl, a, 32, rfl, ⟨by decide, by decide⟩, _, rfl, iteB (fun g => ?_) (fun g => ?_)⟩
   ·refine ⟨_, rfl, p, C, dx, _, _, rfl, M.ob, T.cl, T.n_total, lk_total _ _, _, _, rfl, rfl, ⟨by decide, by decide⟩, _, _, rfl, rfl, _, rfl, iteD (fun g' => ?_) (fun g' => ?_)⟩
    ·refine ⟨?_, rfl⟩
     show [some (V.ref p), some (V.int a), some (V.bl true)] = _
     simp at g'
     simp [soM, g, g']
    ·exact second (by unfold soM; rw [g, decide_eq_false g']; simp)
   ·exact ⟨_, rfl, iteF (second (by simp [soM, g]))⟩
  ·rintro _ H' ⟨rfl, rfl⟩
   refine ⟨_, rfl, a, 4, rfl, ⟨by decide, by decide⟩, _, rfl, iteB (fun g => ?_) (fun g => ?_)⟩
   ·refine ⟨_, rfl, _, rfl, ?_⟩
    have e : testSo m a = !(soM m a) := by simp [testSo, g]
    rw [← e]; exact k
   ·refine ⟨_, rfl, ?_⟩
    have e : testSo m a = soM m a := by simp [testSo, g]
    rw [← e]; exact k
theorem ok_test (R : Raw K mg "do_test" s_do_test) (T : TxtM K mg C) (G_has_bit : GF P w K mg base "has_bit" ["place", "bit"] 1 sp_bit) (G_test_is_so : GF P w K mg base "test_is_so" ["machine", "place"] 2 (spB1 C testSo)) (G_move_on : GF P w K mg base "move_on" ["machine"] 2 (spM C (fun _ => True) moveOn)) :
  GF P w K mg base "do_test" ["machine", "place"] 3 (spM1 C (fun _ _ => True) testM) := by
 refine GF.mk R sc_do_test (by wtm_at "2") (fun vs H Q E h => ?_) (fun f cdv A outer s H vs Q E hr h => ?_)
 ·obtain ⟨p, c, dx, m, a, rfl, _⟩ := h; rfl
 ·obtain ⟨p, c, dx, m, a, rfl, M, _, k⟩ := h
  refine ⟨_, (pss_cons (ps_cut (ps_if (pt_val (pe_gcall G_test_is_so (hr.mono (by decide)) rfl (pa_cons (pv 0) (pa_cons (pv 1) pa_nil)))) (pss_one (ps_expr (pe_gcall G_move_on (hr.mono (by decide)) rfl (pa_cons (pv 0) pa_nil)))) pss_nil))
   (pss_cons (ps_cut (ps_if (pt_val (pe_gcall G_has_bit (hr.mono (by decide)) rfl (pa_cons (pv 1) (pa_cons pe_int pa_nil)))) (pss_one (ps_fld (pv 0) pe_int rfl)) pss_nil))
   (pss_one (ps_if (pt_val (pe_gcall G_has_bit (hr.mono (by decide)) rfl (pa_cons (pv 1) (pa_cons pe_int pa_nil)))) (pss_one (ps_fld (pv 0) pe_int rfl)) pss_nil)))), ?_⟩
  refine ⟨fun σ' H' => σ' = [some (.ref p), some (.int a)] ∧ MAt C H' p c dx (te1 m a) ∧ Fr2 H H' p c, ?_, ?_⟩
  ·refine ⟨_, rfl, _, rfl, p, c, dx, m, a, rfl, M, _, rfl, iteB (fun g => ?_) (fun g => ?_)⟩
   ·exact ⟨_, rfl, p, c, dx, _, rfl, M, trivial, fun H' M' F' => ⟨rfl, M'.same (by simp [te1, g]), F'⟩⟩
   ·exact ⟨rfl, M.same (by simp [te1, g]), Fr2.refl⟩
  rintro _ H1 ⟨rfl, M1, F1⟩
  refine ⟨fun σ' H' => σ' = [some (.ref p), some (.int a)] ∧ MAt C H' p c dx (te2 (te1 m a) a) ∧ Fr2 H H' p c, ?_, ?_⟩
  ·refine ⟨_, rfl, a, 2, rfl, ⟨by decide, by decide⟩, _, rfl, iteB (fun g => ?_) (fun g => ?_)⟩
   ·refine ⟨_, rfl, p, C, dx, _, rfl, M1.ob, T.cl, T.n_total, len_flds _ _, ?_⟩
    rw [pf_total]
    exact ⟨rfl, (M1.setP (by rfl)).same (by simp [te2, g]), F1.trans Fr2.updP⟩
   ·exact ⟨rfl, M1.same (by simp [te2, g]), F1⟩
  rintro _ H2 ⟨rfl, M2, F2⟩
  refine ⟨_, rfl, a, 1, rfl, ⟨by decide, by decide⟩, _, rfl, iteB (fun g => ?_) (fun g => ?_)⟩
  ·refine ⟨_, rfl, p, C, dx, _, rfl, M2.ob, T.cl, T.n_mark, len_flds _ _, ?_⟩
   rw [pf_mark]
   exact k _ ((M2.setP (by rfl)).same (by simp [testM, te3, g])) (F2.trans Fr2.updP)
  ·exact k _ (M2.same (by simp [testM, te3, g])) F2
theorem ok_deed (R : Raw K mg "deed" s_deed) (T : TxtM K mg C) (G_parts : GF P w K mg base "parts" ["word"] 1 sp_parts) (G_move_on : GF P w K mg base "move_on" ["machine"] 2 (spM C (fun _ => True) moveOn))
  (G_do_change : GF P w K mg base "do_change" ["machine", "place"] 3 (spM1 C (fun _ _ => True) changeM)) (G_do_test : GF P w K mg base "do_test" ["machine", "place"] 3 (spM1 C (fun _ _ => True) testM))
  (G_do_with_cell : GF P w K mg base "do_with_cell" ["machine", "kind", "place"] 4 (spM2 C pre2 withCell)) (G_far_place : GF P w K mg base "far_place" ["machine", "place"] 2 (spV1 C pre1 (fun m a => .int (farV m a)) farM)) :
  GF P w K mg base "deed" ["machine"] 5 (sp_deed C) := by
 refine GF.mk R sc_deed (by wtm_at "1") (fun vs H Q E h => ?_) (fun f cdv A outer s H vs Q E hr h => ?_)
 ·obtain ⟨p, c, dx, m, rfl, _⟩ := h; rfl
 ·obtain ⟨p, c, dx, m, rfl, M, W, k⟩ := h
  refine ⟨_, (pss_cons (ps_set (i := 1) sc_deed.nd rfl (Or.inl rfl) (pe_gcall G_parts (hr.mono (by decide)) rfl (pa_cons (pe_ix ix_list (pe_fld (pv 0) rfl) (pe_fld (pv 0) rfl) (fun _ _ => rfl)) pa_nil)))
   (pss_cons (ps_set (i := 2) sc_deed.nd rfl (Or.inl rfl) (pe_ix ix_tup (pv 1) pe_int (fun _ _ => rfl)))
   (pss_cons (ps_set (i := 3) sc_deed.nd rfl (Or.inl rfl) (pe_ix ix_tup (pv 1) pe_int (fun _ _ => rfl)))
   (pss_cons (ps_set (i := 4) sc_deed.nd rfl (Or.inl rfl) (pe_ix ix_tup (pv 1) pe_int (fun _ _ => rfl)))
   (pss_cons (ps_expr (pe_gcall G_move_on (hr.mono (by decide)) rfl (pa_cons (pv 0) pa_nil)))
   (pss_cons (ps_if (pt_cmpR op_eq (pv 2) (pe_gint rfl T.ASK) (nomark _)) (pss_one (ps_ret (pv 4))) pss_nil)
   (pss_cons (ps_if (PW.pt (pw_and (pt_cmpR op_eq (pv 2) (pe_gint rfl T.BITS) (nomark _)) (pw_and1 (pt_cmpR op_eq (pv 3) pe_int (nomark _))))) (pss_one (ps_expr (pe_gcall G_do_change (hr.mono (by decide)) rfl (pa_cons (pv 0) (pa_cons (pv 4) pa_nil))))) (pss_one (ps_if (pt_cmpR op_eq (pv 2) (pe_gint rfl T.BITS) (nomark _)) (pss_one (ps_expr (pe_gcall G_do_test (hr.mono (by decide)) rfl (pa_cons (pv 0) (pa_cons (pv 4) pa_nil))))) (pss_one (ps_if (pt_cmpR op_eq (pv 3) pe_int (nomark _)) (pss_one (ps_expr (pe_gcall G_do_with_cell (hr.mono (by decide)) rfl (pa_cons (pv 0) (pa_cons (pv 2) (pa_cons (pv 4) pa_nil)))))) (pss_one (ps_expr (pe_gcall G_do_with_cell (hr.mono (by decide)) rfl (pa_cons (pv 0) (pa_cons (pv 2) (pa_cons (pe_gcall G_far_place (hr.mono (by decide)) rfl (pa_cons (pv 0) (pa_cons (pv 4) pa_nil))) pa_nil)))))))))))
   (pss_one (ps_ret pe_non))))))))), ?_⟩
  have hl := W.len
  have ha0 := W.at0
  have ha1 := W.at1
  refine ⟨_, rfl, p, C, dx, _, _, rfl, M.ob, T.cl, T.n_cells, lk_cells _ _, _, rfl, p, C, dx, _, _, rfl, M.ob, T.cl, T.n_at, lk_at _ _, c, _, _, _, rfl, rfl, SqL.of M.cl, atI_ints ha0 (by omega), _, rfl, fun t ht => ?_⟩
  have ew : m.cells.getD m.at_.toNat 0 = cellM m m.at_ := rfl
  rw [ew]
  generalize hw : cellM m m.at_ = wd
  refine ⟨_, rfl, t, _, _, _, rfl, rfl, SqT.of upd_same, rfl, ?_⟩
  refine ⟨_, rfl, t, _, _, _, rfl, rfl, SqT.of upd_same, rfl, ?_⟩
  refine ⟨_, rfl, t, _, _, _, rfl, rfl, SqT.of upd_same, rfl, ?_⟩
  refine ⟨_, rfl, p, c, dx, _, rfl, M.new ht, trivial, fun H2 M2 F2 => ?_⟩
  have F : Fr2 H H2 p c := (Fr2.new ht).trans F2
  have q0 : 0 ≤ wd % 64 := by omega
  have q1 : wd % 64 < 64 := by omega
  have l2 : (moveOn m).cells.length = 64 := hl
  have kk : ∀ H' r m', deedW (moveOn m) wd = (r, m') → MAt C H' p c dx m' → Fr2 H H' p c → Q (vO r) H' := fun H' r m' e M' F' => by
   have e' : deedM m = (r, m') := by unfold deedM; rw [hw]; exact e
   have := k H' (by rw [e']; exact M') F'
   rw [e'] at this
   exact this
  refine ⟨_, rfl, rfl, _, rfl, iteE dInt (fun g6 => ?_) (fun g6 => ?_)⟩
  ·refine ⟨_, rfl, ?_⟩
   exact kk H2 (some (wd % 64)) _ (by simp [deedW, g6]) M2 F
  refine ⟨_, rfl, rfl, _, rfl, iteE dInt (fun g7 => ?_) (fun g7 => iteF ?_)⟩
  ·refine ⟨_, rfl, rfl, _, rfl, iteE dInt (fun gf => ?_) (fun gf => ?_)⟩
   ·exact ⟨_, rfl, _, rfl, p, c, dx, _, _, rfl, M2, trivial, fun H' M' F' => kk H' none _ (by simp [deedW, g7, gf]) M' (F.trans F')⟩
   ·refine ⟨_, rfl, rfl, _, rfl, iteE dInt (fun _ => ?_) (fun z => (z g7).elim)⟩
    exact ⟨_, rfl, _, rfl, p, c, dx, _, _, rfl, M2, trivial, fun H' M' F' => kk H' none _ (by simp [deedW, g7, gf]) M' (F.trans F')⟩
  ·refine ⟨_, rfl, rfl, _, rfl, iteE dInt (fun z => (g7 z).elim) (fun _ => ?_)⟩
   refine ⟨_, rfl, rfl, _, rfl, iteE dInt (fun gf => ?_) (fun gf => ?_)⟩
   ·exact ⟨_, rfl, _, rfl, _, rfl, p, c, dx, _, _, _, rfl, M2, ⟨l2, q0, q1⟩, fun H' M' F' => kk H' none _ (by simp [deedW, g6, g7, gf]) M' (F.trans F')⟩
   ·refine ⟨_, rfl, _, rfl, _, rfl, _, rfl, p, c, dx, _, _, rfl, M2, ⟨l2, q0, q1⟩, fun H3 M3 F3 => ?_⟩
    refine ⟨p, c, dx, _, _, _, rfl, M3, ⟨by rw [farM_len]; exact l2, by unfold farV; omega, by unfold farV; omega⟩, fun H' M' F' => kk H' none _ (by simp [deedW, g6, g7, gf]) M' (F.trans (F3.trans F'))⟩
theorem ok_init {q : Str} (R : RawC K mg "Machine" q C s_Machine_init) (T : TxtM K mg C) : GC P w K mg base "Machine" C ["self", "cells", "total", "mark", "at"] 1 (sp_init C K) := by
 refine GC.mk R sc_Machine_init (fun _ _ _ _ _ _ us hl => match us, hl with | [_, _, _, _, _], _ => rfl) (fun vs H Q E h => ?_) (fun f cdv A outer s H vs Q E hr h => ?_)
 ·obtain ⟨p, dx, l, ns, t, k, a, rfl, _⟩ := h; rfl
 ·obtain ⟨p, dx, l, ns, t, kk, a, rfl, hp, hS, hl, k⟩ := h
  refine ⟨_, (pss_cons (ps_fld (pv 0) (pe_callTy call_list_of (by rfl) T.list_ bo_list (pa_cons (pv 1) pa_nil)) rfl)
   (pss_cons (ps_fld (pv 0) (pv 2) rfl)
   (pss_cons (ps_fld (pv 0) (pv 3) rfl)
   (pss_one (ps_fld (pv 0) (pv 4) rfl))))), ?_⟩
  refine ⟨_, rfl, l, _, rfl, .inl hS, fun c hc => ?_⟩
  have npc : p ≠ c := ne_of_none hp hc
  refine ⟨_, rfl, p, C, dx, [], rfl, (by rw [upd_ne npc]; exact hp), T.cl, T.n_cells, (by show 0 < 1000; decide), ?_⟩
  refine ⟨_, rfl, _, rfl, p, C, dx, _, rfl, upd_same, T.cl, T.n_total, (by show 1 < 1000; decide), ?_⟩
  refine ⟨_, rfl, _, rfl, p, C, dx, _, rfl, upd_same, T.cl, T.n_mark, (Nat.lt_of_le_of_lt (length_putF _ _ _) (by show 2 < 1000; decide)), ?_⟩
  refine ⟨_, rfl, _, rfl, p, C, dx, _, rfl, upd_same, T.cl, T.n_at, (Nat.lt_of_le_of_lt (length_putF _ _ _) (Nat.lt_of_le_of_lt (Nat.succ_le_succ (length_putF _ _ _)) (by show 3 < 1000; decide))), ?_⟩
  refine k c _ hc ⟨?_, ?_⟩ fun b o e hb => ?_
  ·rw [upd_same]
   exact congrArg (fun x => some (HO.ins C dx x)) (pf_init c ⟨ns, t, kk, a⟩)
  ·rw [upd_ne npc.symm, upd_ne npc.symm, upd_ne npc.symm, upd_ne npc.symm, upd_same]
  ·rw [upd_ne hb, upd_ne hb, upd_ne hb, upd_ne hb, upd_ne (ne_of_none e hc)]
   exact e
end
end Pr
namespace Lw
open PySem L2 Mir Pr Tx
structure TxtL (K : PySem.W.Frag) (mg : Str → Option Value) : Prop where
 len_ : mg "len" = none
 isinstance_ : mg "isinstance" = none
 int_ : mg "int" = none
 bool_ : mg "bool" = none
 list_ : mg "list" = none
 range_ : mg "range" = none
 sum_ : mg "sum" = none
 kii : PySem.W.kitOne K (.type "int") (.type "int") = some true
 kib : PySem.W.kitOne K (.type "int") (.type "bool") = some false
 kll : PySem.W.kitOne K (.type "list") (.type "list") = some true
 any_ : mg "any" = none
 enumerate_ : mg "enumerate" = none
 tuple_ : mg "tuple" = none
 str_ : mg "str" = none
 min_ : mg "min" = none
def sp_cell (K : PySem.W.Frag) : Sp := fun vs H Q _ => ∃ (a : Addr) (k : Nat) (ns : List Int), vs = [.ref a, .int (k : Int)] ∧ SqL K H a (ns.map V.int) ∧ Q (.int (ns.getD k 0)) H
def sp_mix : Sp := fun vs H Q _ => ∃ x p n : Int, vs = [.int x, .int p, .int n] ∧ 0 < p ∧ 0 < n ∧ Q (.int (x * 48271 % p % n)) H
def sp_whole : Sp := fun vs H Q _ => ∃ i : Int, vs = [.int i] ∧ Q (.bl true) H
def fillL (x n : Int) : List Int := (List.range 64).map fun (i : Nat) => (x + 977 * (i : Int)) * 48271 % 10007 % n
theorem fillL_len (x n : Int) : (fillL x n).length = 64 := by simp [fillL]
theorem fillL_in {x n : Int} (hn : 0 < n) : ∀ v ∈ fillL x n, 0 ≤ v ∧ v < n := by
 intro v hv
 obtain ⟨i, _, rfl⟩ := List.mem_map.mp hv
 exact ⟨Int.emod_nonneg _ (by omega), Int.emod_lt_of_pos _ hn⟩
section
variable {P : Program} {w : World} {K : PySem.W.Frag} {mg : Str → Option Value} {base : Heap} {C : Addr}
theorem ok_cell (R : Raw K mg "_law_cell" s_law_cell) (T : TxtL K mg) : GF P w K mg base "_law_cell" ["_law_script", "_law_k"] 1 (sp_cell K) := by
 refine GF.mk R sc_law_cell (by wtm_at "2") (fun vs H Q E h => ?_) (fun f cdv A outer s H vs Q E hr h => ?_)
 ·obtain ⟨a, k, ns, rfl, _⟩ := h; rfl
 ·obtain ⟨a, k, ns, rfl, hS, q⟩ := h
  refine ⟨_, (pss_cons (ps_if (pt_cmpR op_lt (pv 1) (pe_callB call_len_seq (by rfl) T.len_ bo_len (pa_cons (pv 0) pa_nil)) (nomark _)) (pss_one (ps_ret (pe_ix ix_list (pv 0) (pv 1) (fun _ _ => rfl)))) pss_nil)
   (pss_one (ps_ret pe_int))), ?_⟩
  refine ⟨_, rfl, _, rfl, a, _, rfl, .inl hS, _, _, rfl, rfl, _, rfl, iteD (fun g => ?_) (fun g => ?_)⟩
  ·rw [List.length_map] at g
   exact ⟨_, rfl, _, rfl, a, _, _, _, rfl, rfl, hS, atI_ints (Int.natCast_nonneg k) g, (by rw [Int.toNat_natCast]; exact q)⟩
  ·rw [List.length_map] at g
   have e : ns.getD k 0 = 0 := by
    rw [List.getD_eq_getElem?_getD, List.getElem?_eq_none (by omega)]
    rfl
   rw [e] at q
   exact q
theorem ok_mix (R : Raw K mg "_law_mix" s_law_mix) : GF P w K mg base "_law_mix" ["_law_cell_here", "_law_prime", "_law_many"] 1 sp_mix := by
 refine GF.mk R sc_law_mix (by wtm_at "3") (fun vs H Q E h => ?_) (fun f cdv A outer s H vs Q E hr h => ?_)
 ·obtain ⟨x, p, n, rfl, _⟩ := h; rfl
 ·obtain ⟨x, p, n, rfl, hp, hn, q⟩ := h
  refine ⟨_, (pss_one (ps_ret (pe_op op_mod (pe_op op_mod (pe_op op_mul (pv 0) pe_int) (pv 1)) (pv 2)))), ?_⟩
  exact ⟨_, rfl, _, _, rfl, rfl, .inr ⟨by decide, by decide⟩, _, rfl, _, _, rfl, rfl, hp, _, rfl, _, _, rfl, rfl, hn, q⟩
end
end Lw
namespace Lw
open PySem L2 Mir Pr Tx
theorem _root_.Pr.MAt.other {C : Addr} {H : Hp} {p c dx l : Addr} {o : HO} {m : Mach} (h : MAt C H p c dx m) (n1 : p ≠ l) (n2 : c ≠ l) : MAt C (upd H l o) p c dx m := ⟨by rw [upd_ne n1]; exact h.ob, by rw [upd_ne n2]; exact h.cl⟩
theorem _root_.Pr.MAt.keep {C : Addr} {H H' : Hp} {p c dx : Addr} {m : Mach} (h : MAt C H p c dx m) (s : Same H H') : MAt C H' p c dx m := ⟨s _ _ h.ob, s _ _ h.cl⟩
theorem _root_.L2.Same.upd {H H1 : Hp} {l : Addr} {o : HO} (s : Same H H1) (n : H l = none) : Same H (upd H1 l o) := fun b u e => by rw [upd_ne (ne_of_none e n)]; exact s b u e
theorem Same.new {H : Hp} {l : Addr} {o : HO} (n : H l = none) : Same H (upd H l o) := (Same.refl H).upd n
theorem mem_set {l : List Int} {i : Nat} {v w : Int} {P : Int → Prop} (h : ∀ x ∈ l, P x) (hv : P v) : w ∈ l.set i v → P w := fun hw => by
 rcases List.mem_or_eq_of_mem_set hw with h1 | h1
 ·exact h w h1
 ·rw [h1]; exact hv
theorem getD_in {l : List Int} {i : Nat} {P : Int → Prop} (h : ∀ x ∈ l, P x) (hi : i < l.length) : P (l.getD i 0) := by
 rw [List.getD_eq_getElem?_getD, List.getElem?_eq_getElem hi]
 exact h _ (List.getElem_mem hi)
end Lw
namespace Lw
open PySem L2 Mir Pr Tx
section
variable {K : PySem.W.Frag} {mg : Str → Option Value} {H : Hp} {Q : VK} {E : XK} {C p c dx a : Addr} {m : Mach} {ns : List Int}
theorem c_cell {i : Int} (hS : SqL K H a (ns.map V.int)) (h0 : 0 ≤ i) (q : Q (.int (ns.getD i.toNat 0)) H) : sp_cell K ([.ref a, .int i] ++ []) H Q E := ⟨a, i.toNat, ns, by rw [Int.toNat_of_nonneg h0]; rfl, hS, q⟩
theorem c_mix {x y n : Int} (hp : 0 < y) (hn : 0 < n) (q : Q (.int (x * 48271 % y % n)) H) : sp_mix ([.int x, .int y, .int n] ++ []) H Q E := ⟨x, y, n, rfl, hp, hn, q⟩
theorem c_whole {i : Int} (q : Q (.bl true) H) : sp_whole ([.int i] ++ []) H Q E := ⟨i, rfl, q⟩
theorem f_cells {P : V → Prop} (M : MAt C H p c dx m) (T : TxtM K mg C) (q : P (.ref c)) : ∃ a C dx fs v, V.ref p = .ref a ∧ H a = some (.ins C dx fs) ∧ Cls K C ∧ NoAttr K C "cells" ∧ fs.lookup ("cells" : Str) = some v ∧ P v := ⟨p, C, dx, _, _, rfl, M.ob, T.cl, T.n_cells, lk_cells _ _, q⟩
end
end Lw
local macro_rules | `(tactic| wtm_at "m") => `(tactic| first | wtm_at "s" | (with_reducible first | refine Lw.f_total (by assumption) (by assumption) ?_ | refine Lw.f_mark (by assumption) (by assumption) ?_ | refine Lw.f_at (by assumption) (by assumption) ?_ | refine Lw.f_cells (by assumption) (by assumption) ?_) | ((with_reducible refine' Lw.c_cell ?h ?e ?_); (case h => assumption); (case e => decide)) | ((with_reducible refine' Lw.c_mix ?h ?e ?_); (case h => decide); (case e => decide)) | (with_reducible refine Lw.c_whole ?_))
local macro_rules | `(tactic| wtm_at "mm") => `(tactic| repeat wtm_at "m")
namespace Dm
open PySem L2 Mir Pr Tx Lw
structure Rg (m : Mach) : Prop where
 len : m.cells.length = 64
 cel : ∀ v ∈ m.cells, 0 ≤ v ∧ v < 1024
 t0 : 0 ≤ m.total
 t1 : m.total < 1024
 k0 : 0 ≤ m.mark
 k1 : m.mark ≤ 1
 a0 : 0 ≤ m.at_
 a1 : m.at_ < 64
theorem Rg.cell {m : Mach} (h : Rg m) {q : Int} (h0 : 0 ≤ q) (h1 : q < 64) : 0 ≤ cellM m q ∧ cellM m q < 1024 := getD_in h.cel (by have := h.len; omega)
theorem Rg.set {m : Mach} (h : Rg m) {i : Nat} {v : Int} (h0 : 0 ≤ v) (h1 : v < 1024) : Rg { m with cells := m.cells.set i v } :=
 ⟨by rw [List.length_set]; exact h.len, fun x hx => mem_set h.cel ⟨h0, h1⟩ hx, h.t0, h.t1, h.k0, h.k1, h.a0, h.a1⟩
theorem Rg.move {m : Mach} (h : Rg m) : Rg (moveOn m) := ⟨h.len, h.cel, h.t0, h.t1, h.k0, h.k1, moveOn_at0 m, moveOn_at1 m⟩
theorem Rg.raise {m : Mach} (h : Rg m) {q : Int} : Rg (raiseC m q) := h.set (by omega) (by omega)
theorem Rg.far {m : Mach} (h : Rg m) {q : Int} : Rg (farM m q) := by unfold farM; split <;> first | exact h.raise | exact h
theorem Rg.add {m : Mach} (h : Rg m) {a : Int} (h0 : 0 ≤ a) (h1 : a < 1024) : Rg (addT m a) := by
 have := h.t0; have := h.t1; have := h.k0; have := h.k1
 unfold addT turnK
 split
 ·exact ⟨h.len, h.cel, by dsimp only; omega, by dsimp only; omega, by dsimp only; omega, by dsimp only; omega, h.a0, h.a1⟩
 ·exact ⟨h.len, h.cel, by dsimp only; omega, by dsimp only; omega, h.k0, h.k1, h.a0, h.a1⟩
theorem Rg.rise {m : Mach} (h : Rg m) {q : Int} : Rg (doRise m q) := by unfold doRise; split <;> first | exact h.raise.move | exact h.raise
theorem Rg.with_ {m : Mach} (h : Rg m) {k q : Int} (h0 : 0 ≤ q) (h1 : q < 64) : Rg (withCell m k q) := by
 have hc := h.cell h0 h1
 have := h.t0; have := h.t1; have := h.a0; have := h.a1
 unfold withCell
 split
 ·have e2 := PyProof.Rows.bitAnd_pp h.t0 hc.1
  have e3 : (m.total.toNat &&& (cellM m q).toNat) ≤ m.total.toNat := Nat.and_le_left
  exact ⟨h.len, h.cel, by dsimp only; rw [e2]; omega, by dsimp only; rw [e2]; omega, h.k0, h.k1, h.a0, h.a1⟩
 split
 ·exact h.add hc.1 hc.2
 split
 ·exact h.rise
 split
 ·have z := h.set (i := q.toNat) (v := m.total) (by omega) (by omega)
  exact ⟨z.len, z.cel, by dsimp only; omega, by dsimp only; omega, h.k0, h.k1, h.a0, h.a1⟩
 split
 ·have z := h.set (i := q.toNat) (v := m.at_) (by omega) (by omega)
  exact ⟨z.len, z.cel, h.t0, h.t1, h.k0, h.k1, by dsimp only; omega, by dsimp only; omega⟩
 split
 ·exact ⟨h.len, h.cel, h.t0, h.t1, h.k0, h.k1, h0, h1⟩
 ·exact h
theorem Rg.c1 {m : Mach} (h : Rg m) {q : Int} : Rg (ch1 m q) := by unfold ch1; split <;> first | exact ⟨h.len, h.cel, by dsimp only; omega, by dsimp only; omega, h.k0, h.k1, h.a0, h.a1⟩ | exact h
theorem Rg.c2 {m : Mach} (h : Rg m) {q : Int} : Rg (ch2 m q) := by have := h.t0; have := h.t1; unfold ch2; split <;> first | exact ⟨h.len, h.cel, by dsimp only; omega, by dsimp only; omega, h.k0, h.k1, h.a0, h.a1⟩ | exact h
theorem Rg.c3 {m : Mach} (h : Rg m) {q : Int} : Rg (ch3 m q) := by have := h.k0; have := h.k1; unfold ch3 turnK; split <;> first | exact ⟨h.len, h.cel, h.t0, h.t1, by dsimp only; omega, by dsimp only; omega, h.a0, h.a1⟩ | exact h
theorem Rg.c4 {m : Mach} (h : Rg m) {q : Int} : Rg (ch4 m q) := by unfold ch4; split <;> first | exact h.add (by decide) (by decide) | exact h
theorem Rg.c5 {m : Mach} (h : Rg m) {q : Int} : Rg (ch5 m q) := by
 have := h.t0; have := h.t1; have := h.k0; have := h.k1
 unfold ch5 shiftL
 split
 ·exact ⟨h.len, h.cel, by dsimp only; omega, by dsimp only; omega, by dsimp only; omega, by dsimp only; omega, h.a0, h.a1⟩
 ·exact h
theorem Rg.c6 {m : Mach} (h : Rg m) {q : Int} : Rg (ch6 m q) := by
 have := h.t0; have := h.t1; have := h.k0; have := h.k1
 unfold ch6 shiftR
 split
 ·exact ⟨h.len, h.cel, by dsimp only; omega, by dsimp only; omega, by dsimp only; omega, by dsimp only; omega, h.a0, h.a1⟩
 ·exact h
theorem Rg.change {m : Mach} (h : Rg m) {q : Int} : Rg (changeM m q) := h.c1.c2.c3.c4.c5.c6
theorem Rg.test {m : Mach} (h : Rg m) {q : Int} : Rg (testM m q) := by
 have h1 : Rg (te1 m q) := by unfold te1; split <;> first | exact h.move | exact h
 have h2 : Rg (te2 (te1 m q) q) := by unfold te2; split <;> first | exact ⟨h1.len, h1.cel, by dsimp only; omega, by dsimp only; omega, h1.k0, h1.k1, h1.a0, h1.a1⟩ | exact h1
 unfold testM te3
 split <;> first | exact ⟨h2.len, h2.cel, h2.t0, h2.t1, by dsimp only; omega, by dsimp only; omega, h2.a0, h2.a1⟩ | exact h2
theorem Rg.deed {m : Mach} (h : Rg m) : Rg (deedM m).2 := by
 unfold deedM deedW
 have hm := h.move
 split
 ·exact hm
 split
 ·exact hm.change
 split
 ·exact hm.test
 split
 ·exact hm.with_ (by omega) (by omega)
 ·exact hm.far.with_ (by unfold farV; omega) (by unfold farV; omega)
end Dm
namespace Us
open PySem Mir
inductive St5 where
 | stopped | ready | hears | says | sleeps
deriving DecidableEq
def St5.s : St5 → Str
 | .stopped => "stopped"
 | .ready => "ready"
 | .hears => "hears"
 | .says => "says"
 | .sleeps => "sleeps"
theorem St5.inj {a b : St5} : a.s = b.s ↔ a = b := by
 constructor
 ·intro h
  cases a <;> cases b <;> first | rfl | (exact absurd h (by decide +kernel))
 ·intro h; rw [h]
structure Usr where
 m : Mach
 inb : List Int
 outb : List Int
 pap : List Int
 blk : List (List Int)
 sw : Int
 st : St5
 nap : Int
 lost : Int
 done : Int
inductive Ev where
 | start (p : Int)
 | key (l : Int)
 | tick
 | step
def setT (u : Usr) (t : Int) : Usr := { u with m := { u.m with total := t } }
def pastU (u : Usr) : Usr := { u with m := moveOn u.m }
def waitU (u : Usr) (s : St5) : Usr := { u with m := { u.m with at_ := (u.m.at_ + 63) % 64 }, st := s }
def fetchN (b : Int) (w : List Int) : Nat → List Int → List Int
 | 0, c => c
 | n + 1, c => (fetchN b w n c).set ((b + n) % 64).toNat (w.getD n 0)
def storeN (b : Int) (c : List Int) : Nat → List Int → List Int
 | 0, w => w
 | n + 1, w => (storeN b c n w).set n (c.getD ((b + n) % 64).toNat 0)
def carryU (u : Usr) (p : Int) : Usr :=
 let b := cellM u.m u.m.at_ % 64
 let u1 := pastU u
 if 3 < u.m.total then setT u1 1023
 else if p = 5 then { u1 with m := { u1.m with cells := fetchN b (u.blk.getD u.m.total.toNat []) 16 u.m.cells, total := 0 } }
 else { u1 with m := { u1.m with total := 0 }, blk := u.blk.set u.m.total.toNat (storeN b u.m.cells 16 (u.blk.getD u.m.total.toNat [])) }
def hearU (u : Usr) : Usr := match u.inb with
 | [] => waitU u .hears
 | x :: r => { u with m := { u.m with total := x }, inb := r }
def sayU (u : Usr) : Usr := if 16 ≤ u.outb.length then waitU u .says else { u with outb := u.outb ++ [u.m.total % 256] }
def sleepU (u : Usr) : Usr := if 0 < u.m.total then { u with m := { u.m with total := 0 }, nap := u.m.total, st := .sleeps } else u
def askU (u : Usr) (p : Int) : Usr :=
 if p = 0 then (if u.inb = [] then u else pastU u)
 else if p = 1 then hearU u
 else if p = 2 then (if u.outb.length < 16 then pastU u else u)
 else if p = 3 then sayU u
 else if p = 4 then sleepU u
 else if p = 5 ∨ p = 6 then carryU u p
 else if p = 7 then { u with st := .stopped }
 else if p = 8 then setT u u.sw
 else u
def printU (u : Usr) : Usr := match u.outb with
 | [] => u
 | x :: r => { u with pap := u.pap ++ [x], outb := r, st := if u.st = .says then .ready else u.st }
def napU (u : Usr) : Usr := if u.st = .sleeps then { u with nap := u.nap - 1, st := if u.nap - 1 = 0 then .ready else .sleeps } else u
def tickU (u : Usr) : Usr := napU (printU u)
def keyU (u : Usr) (l : Int) : Usr :=
 let u1 : Usr := if u.inb.length < 16 then { u with inb := u.inb ++ [l] } else { u with lost := u.lost + 1 }
 if u.st = .hears then { u1 with st := .ready } else u1
def startU (u : Usr) (p : Int) : Usr := if u.st = .stopped then { u with st := .ready, m := { u.m with at_ := p } } else u
def deedU (u : Usr) : Usr :=
 let u1 : Usr := { u with done := u.done + 1, m := (deedM u.m).2 }
 match (deedM u.m).1 with
 | none => u1
 | some p => askU u1 p
def stepU (u : Usr) : Usr := if u.st = .ready then deedU u else u
def happenU (u : Usr) : Ev → Usr
 | .start p => startU u p
 | .key l => keyU u l
 | .tick => tickU u
 | .step => stepU u
def newU (cells : List Int) (sw : Int) : Usr := ⟨⟨cells, 0, 0, 0⟩, [], [], [], List.replicate 4 (List.replicate 16 0), sw, .stopped, 0, 0, 0⟩
end Us
namespace Du
open PySem L2 Mir Pr Tx Lw Dm Us
def FrL (H H' : Hp) (F : List Addr) : Prop := ∀ b o, H b = some o → b ∉ F → H' b = some o
section
variable {H H' H1 H2 : Hp} {F G : List Addr} {d c p : Addr} {o : HO}
theorem FrL.refl : FrL H H F := fun _ _ h _ => h
theorem FrL.trans (a : FrL H H1 F) (b : FrL H1 H2 F) : FrL H H2 F := fun x o h n => b x o (a x o h n) n
theorem FrL.of2 (f : Fr2 H H' d c) (h1 : d ∈ F) (h2 : c ∈ F) : FrL H H' F := fun b o h n => f b o h (fun e => n (by rw [e]; exact h1)) (fun e => n (by rw [e]; exact h2))
theorem FrL.new (n : H p = none) : FrL H (upd H p o) F := fun b u h _ => by rw [upd_ne (ne_of_none h n)]; exact h
theorem FrL.upd (h : p ∈ F) : FrL H (upd H p o) F := fun b u e n => by rw [upd_ne (fun z => n (by rw [z]; exact h))]; exact e
theorem FrL.mono (a : FrL H H1 F) (h : ∀ x ∈ F, x ∈ G) : FrL H H1 G := fun b o e n => a b o e fun z => n (h b z)
end
def Blk (H : Hp) (bs : List Addr) (ws : List (List Int)) : Prop := bs.length = ws.length ∧ ∀ (i : Nat) b w, bs[i]? = some b → ws[i]? = some w → H b = some (.lst (w.map V.int))
structure RgU (u : Usr) : Prop where
 rm : Rg u.m
 inl : u.inb.length ≤ 16
 inr : ∀ v ∈ u.inb, 0 ≤ v ∧ v < 256
 outl : u.outb.length ≤ 16
 papl : u.pap.length < 1000000
 bl : u.blk.length = 4
 bw : ∀ w ∈ u.blk, w.length = 16
 br : ∀ w ∈ u.blk, ∀ v ∈ w, 0 ≤ v ∧ v < 1024
 s0 : 0 ≤ u.sw
 s1 : u.sw < 1024
theorem fetchN_len (b : Int) (w c : List Int) : ∀ n, (fetchN b w n c).length = c.length
 | 0 => rfl
 | n + 1 => by rw [fetchN, List.length_set, fetchN_len b w c n]
theorem storeN_len (b : Int) (c w : List Int) : ∀ n, (storeN b c n w).length = w.length
 | 0 => rfl
 | n + 1 => by rw [storeN, List.length_set, storeN_len b c w n]
theorem set_self {α : Type} {l : List α} {i : Nat} {a : α} (h : l[i]? = some a) : l.set i a = l := by
 obtain ⟨hi, e⟩ := List.getElem?_eq_some_iff.mp h
 rw [← e]
 exact List.set_getElem_self hi
def evV : Ev → List V
 | .start p => [.str "start", .int p]
 | .key l => [.str "key", .int l]
 | .tick => [.str "tick"]
 | .step => [.str "step"]
def EvOk : Ev → Prop
 | .start p => 0 ≤ p ∧ p < 64
 | .key l => 0 ≤ l ∧ l < 256
 | _ => True
section
variable {K : PySem.W.Frag}
theorem ixTS {H : Hp} {Q : VK} {p : Addr} {xs : List V} {i : Nat} {v : V} (h : SqT K H p xs) (e : xs[i]? = some v) (q : Q v H) : rIxT K (.ref p) (.int (i : Int)) H Q := ⟨p, xs, i, v, rfl, rfl, h, atI_nat e, q⟩
end
theorem RgU.deed {u : Usr} (h : RgU u) : RgU { u with done := u.done + 1, m := (deedM u.m).2 } := ⟨h.rm.deed, h.inl, h.inr, h.outl, h.papl, h.bl, h.bw, h.br, h.s0, h.s1⟩
theorem getD_rng {l : List Int} {i : Nat} (h : ∀ v ∈ l, 0 ≤ v ∧ v < 1024) : 0 ≤ l.getD i 0 ∧ l.getD i 0 < 1024 := by
 rcases Nat.lt_or_ge i l.length with z | z
 ·exact getD_in h z
 ·rw [List.getD_eq_getElem?_getD, List.getElem?_eq_none z]
  decide
theorem fetchN_in {b : Int} {w c : List Int} (hw : ∀ v ∈ w, 0 ≤ v ∧ v < 1024) (hc : ∀ v ∈ c, 0 ≤ v ∧ v < 1024) : ∀ n, ∀ v ∈ fetchN b w n c, 0 ≤ v ∧ v < 1024
 | 0 => hc
 | n + 1 => fun _ hv => mem_set (fetchN_in hw hc n) (getD_rng hw) hv
theorem storeN_in {b : Int} {w c : List Int} (hw : ∀ v ∈ w, 0 ≤ v ∧ v < 1024) (hc : ∀ v ∈ c, 0 ≤ v ∧ v < 1024) : ∀ n, ∀ v ∈ storeN b c n w, 0 ≤ v ∧ v < 1024
 | 0 => hw
 | n + 1 => fun _ hv => mem_set (storeN_in hw hc n) (getD_rng hc) hv
theorem _root_.Dm.Rg.total {m : Mach} (h : Rg m) {t : Int} (h0 : 0 ≤ t) (h1 : t < 1024) : Rg { m with total := t } := ⟨h.len, h.cel, h0, h1, h.k0, h.k1, h.a0, h.a1⟩
theorem _root_.Dm.Rg.at {m : Mach} (h : Rg m) {t : Int} (h0 : 0 ≤ t) (h1 : t < 64) : Rg { m with at_ := t } := ⟨h.len, h.cel, h.t0, h.t1, h.k0, h.k1, h0, h1⟩
theorem RgU.mach {u : Usr} (h : RgU u) {m : Mach} (hm : Rg m) : RgU { u with m := m } := ⟨hm, h.inl, h.inr, h.outl, h.papl, h.bl, h.bw, h.br, h.s0, h.s1⟩
theorem RgU.state {u : Usr} (h : RgU u) {s : St5} : RgU { u with st := s } := ⟨h.rm, h.inl, h.inr, h.outl, h.papl, h.bl, h.bw, h.br, h.s0, h.s1⟩
theorem RgU.wait {u : Usr} (h : RgU u) {s : St5} : RgU (waitU u s) := (h.mach (h.rm.at (by omega) (by omega))).state
theorem RgU.past {u : Usr} (h : RgU u) : RgU (pastU u) := h.mach h.rm.move
theorem RgU.carry {u : Usr} (h : RgU u) {p : Int} : RgU (carryU u p) := by
 unfold carryU
 dsimp only
 have hp := h.past
 have hw : ∀ v ∈ u.blk.getD u.m.total.toNat [], 0 ≤ v ∧ v < 1024 := by
  rw [List.getD_eq_getElem?_getD]
  cases e : u.blk[u.m.total.toNat]? with
  | none => intro v hv; simp at hv
  | some w => exact h.br w (List.mem_of_getElem? e)
 split
 ·exact hp.mach (hp.rm.total (by decide) (by decide))
 split
 ·refine hp.mach ⟨?_, fetchN_in hw h.rm.cel _, (by decide : (0 : Int) ≤ 0), (by decide : (0 : Int) < 1024), hp.rm.k0, hp.rm.k1, hp.rm.a0, hp.rm.a1⟩
  dsimp only; rw [fetchN_len]; exact h.rm.len
 ·refine ⟨hp.rm.total (by decide) (by decide), h.inl, h.inr, h.outl, h.papl, ?_, fun w hw2 => ?_, fun w hw2 => ?_, h.s0, h.s1⟩
  ·dsimp only; rw [List.length_set]; exact h.bl
  ·rcases List.mem_or_eq_of_mem_set hw2 with z | z
   ·exact h.bw w z
   ·rename_i g1 g2
    rw [z, storeN_len, List.getD_eq_getElem?_getD, List.getElem?_eq_getElem (by have := h.bl; have := h.rm.t0; omega)]
    exact h.bw _ (List.getElem_mem _)
  ·rcases List.mem_or_eq_of_mem_set hw2 with z | z
   ·exact h.br w z
   ·rw [z]; exact storeN_in hw h.rm.cel _
theorem RgU.ask {u : Usr} (h : RgU u) {p : Int} : RgU (askU u p) := by
 have t0 := h.rm.t0
 have t1 := h.rm.t1
 have ol := h.outl
 unfold askU
 split
 ·split <;> first | exact h | exact h.past
 split
 ·unfold hearU
  split
  ·exact h.wait
  ·rename_i x r e
   have hx := h.inr x (by rw [e]; exact List.mem_cons_self)
   exact ⟨h.rm.total (by omega) (by omega), by have := h.inl; rw [e] at this; simp at this; dsimp only; omega, fun v hv => h.inr v (by rw [e]; exact List.mem_cons_of_mem _ hv), h.outl, h.papl, h.bl, h.bw, h.br, h.s0, h.s1⟩
 split
 ·split <;> first | exact h | exact h.past
 split
 ·unfold sayU
  split
  ·exact h.wait
  ·exact ⟨h.rm, h.inl, h.inr, by dsimp only; rw [List.length_append]; simp; omega, h.papl, h.bl, h.bw, h.br, h.s0, h.s1⟩
 split
 ·unfold sleepU
  split
  ·exact ⟨h.rm.total (by decide) (by decide), h.inl, h.inr, h.outl, h.papl, h.bl, h.bw, h.br, h.s0, h.s1⟩
  ·exact h
 split
 ·exact h.carry
 split
 ·exact h.state
 split
 ·exact h.mach (h.rm.total h.s0 h.s1)
 ·exact h
theorem RgU.happen {u : Usr} (h : RgU u) {ev : Ev} (he : EvOk ev) (hp : u.pap.length + 1 < 1000000) : RgU (happenU u ev) := by
 cases ev with
 | start p =>
  show RgU (startU u p)
  unfold startU
  split
  ·exact ⟨h.rm.at he.1 he.2, h.inl, h.inr, h.outl, h.papl, h.bl, h.bw, h.br, h.s0, h.s1⟩
  ·exact h
 | key l =>
  show RgU (keyU u l)
  have h1 : RgU (if u.inb.length < 16 then { u with inb := u.inb ++ [l] } else { u with lost := u.lost + 1 }) := by
   split
   ·refine ⟨h.rm, by dsimp only; rw [List.length_append]; simp; omega, fun v hv => ?_, h.outl, h.papl, h.bl, h.bw, h.br, h.s0, h.s1⟩
    rcases List.mem_append.mp hv with z | z
    ·exact h.inr v z
    ·rw [List.mem_singleton.mp z]; exact he
   ·exact ⟨h.rm, h.inl, h.inr, h.outl, h.papl, h.bl, h.bw, h.br, h.s0, h.s1⟩
  unfold keyU
  dsimp only
  split
  ·exact h1.state
  ·exact h1
 | tick =>
  show RgU (napU (printU u))
  have h1 : RgU (printU u) := by
   unfold printU
   split
   ·exact h
   ·rename_i x r e
    exact ⟨h.rm, h.inl, h.inr, by have := h.outl; rw [e] at this; simp at this; dsimp only; omega, by dsimp only; rw [List.length_append]; simp; omega, h.bl, h.bw, h.br, h.s0, h.s1⟩
  unfold napU
  split
  ·exact ⟨h1.rm, h1.inl, h1.inr, h1.outl, h1.papl, h1.bl, h1.bw, h1.br, h1.s0, h1.s1⟩
  ·exact h1
 | step =>
  show RgU (stepU u)
  unfold stepU
  split
  ·unfold deedU
   dsimp only
   split
   ·exact h.deed
   ·exact h.deed.ask
  ·exact h
theorem pap_happen (u : Usr) (ev : Ev) : (happenU u ev).pap.length ≤ u.pap.length + 1 := by
 have ha : ∀ (u : Usr) (p : Int), (askU u p).pap = u.pap := by
  intro u p
  unfold askU
  split
  ·split <;> rfl
  split
  ·unfold hearU; split <;> rfl
  split
  ·split <;> rfl
  split
  ·unfold sayU; split <;> rfl
  split
  ·unfold sleepU; split <;> rfl
  split
  ·unfold carryU; dsimp only; split
   ·rfl
   split <;> rfl
  split
  ·rfl
  split <;> rfl
 cases ev with
 | start p => show (startU u p).pap.length ≤ _; unfold startU; split <;> exact Nat.le_succ _
 | key l =>
  show (keyU u l).pap.length ≤ _
  unfold keyU
  dsimp only
  split <;> split <;> exact Nat.le_succ _
 | tick =>
  show (napU (printU u)).pap.length ≤ _
  have e : (napU (printU u)).pap = (printU u).pap := by unfold napU; split <;> rfl
  rw [e]
  unfold printU
  split
  ·exact Nat.le_succ _
  ·dsimp only; rw [List.length_append]; simp
 | step =>
  show (stepU u).pap.length ≤ _
  unfold stepU
  split
  ·unfold deedU
   dsimp only
   split
   ·exact Nat.le_succ _
   ·rw [ha]; exact Nat.le_succ _
  ·exact Nat.le_succ _
theorem RgU.new {ns : List Int} {sw : Int} (hl : ns.length = 64) (hr : ∀ v ∈ ns, 0 ≤ v ∧ v < 1024) (h0 : 0 ≤ sw) (h1 : sw < 1024) : RgU (newU ns sw) := by
 refine ⟨⟨hl, hr, (by decide : (0 : Int) ≤ 0), (by decide : (0 : Int) < 1024), (by decide : (0 : Int) ≤ 0), (by decide : (0 : Int) ≤ 1), (by decide : (0 : Int) ≤ 0), (by decide : (0 : Int) < 64)⟩, Nat.zero_le _, ?_, Nat.zero_le _, (by decide : 0 < 1000000), rfl, ?_, ?_, h0, h1⟩
 ·intro v hv
  have hv' : v ∈ ([] : List Int) := hv
  simp at hv'
 ·intro w hw
  rw [List.eq_of_mem_replicate hw]
  rfl
 ·intro w hw v hv
  rw [List.eq_of_mem_replicate hw] at hv
  rw [List.eq_of_mem_replicate hv]
  decide
def EvsAt (H : Hp) (l : Addr) (rs : List Addr) (evs : List Ev) : Prop := H l = some (.lst (rs.map V.ref)) ∧ rs.length = evs.length ∧ ∀ (i : Nat) r e, rs[i]? = some r → evs[i]? = some e → H r = some (.tup (evV e))
theorem EvsAt.far {H H' : Hp} {l : Addr} {rs F : List Addr} {evs : List Ev} (h : EvsAt H l rs evs) (f : FrL H H' F) (nl : l ∉ F) (nt : ∀ x ∈ F, ∀ xs, H x ≠ some (.tup xs)) : EvsAt H' l rs evs :=
 ⟨f _ _ h.1 nl, h.2.1, fun i r e g1 g2 => f _ _ (h.2.2 i r e g1 g2) fun z => nt r z _ (h.2.2 i r e g1 g2)⟩
theorem EvsAt.keep {H H' : Hp} {l : Addr} {rs : List Addr} {evs : List Ev} (h : EvsAt H l rs evs) (s : Same H H') : EvsAt H' l rs evs := ⟨s _ _ h.1, h.2.1, fun i r e g1 g2 => s _ _ (h.2.2 i r e g1 g2)⟩
end Du
namespace Du
open PySem L2 Mir Pr Tx Lw Us PySem.Spec
structure PicAt (K : PySem.W.Frag) (H : Hp) (t tc ti to_ tp tb : Addr) (tbs : List Addr) (u : Usr) : Prop where
 all : H t = some (.tup [.ref tc, .int u.m.total, .int u.m.mark, .int u.m.at_, .ref ti, .ref to_, .ref tp, .ref tb, .int u.sw, .str u.st.s, .int u.nap, .int u.lost, .int u.done])
 cel : H tc = some (.tup (u.m.cells.map V.int))
 inb : H ti = some (.tup (u.inb.map V.int))
 out : H to_ = some (.tup (u.outb.map V.int))
 pap : H tp = some (.tup (u.pap.map V.int))
 blk : H tb = some (.tup (tbs.map V.ref))
 bln : tbs.length = u.blk.length
 bls : ∀ (i : Nat) b w, tbs[i]? = some b → u.blk[i]? = some w → H b = some (.tup (w.map V.int))
theorem PicAt.keep {K : PySem.W.Frag} {H H' : Hp} {t tc ti to_ tp tb : Addr} {tbs : List Addr} {u : Usr} (p : PicAt K H t tc ti to_ tp tb tbs u) (s : Same H H') : PicAt K H' t tc ti to_ tp tb tbs u :=
 ⟨s _ _ p.all, s _ _ p.cel, s _ _ p.inb, s _ _ p.out, s _ _ p.pap, s _ _ p.blk, p.bln, fun i b w h1 h2 => s _ _ (p.bls i b w h1 h2)⟩
def intsD (ns : List Int) : PyData := .tuple (ns.map PyData.int)
def picD (u : Usr) : PyData := .tuple [intsD u.m.cells, .int u.m.total, .int u.m.mark, .int u.m.at_, intsD u.inb, intsD u.outb, intsD u.pap, .tuple (u.blk.map intsD), .int u.sw, .str u.st.s, .int u.nap, .int u.lost, .int u.done]
theorem drds_ints {K : PySem.W.Frag} {H : Hp} : ∀ ns : List Int, DRds K H (ns.map V.int) (ns.map PyData.int)
 | [] => .nil
 | n :: ns => .cons (.int n) (drds_ints ns)
theorem drd_ints {K : PySem.W.Frag} {H : Hp} {a : Addr} {ns : List Int} (h : H a = some (.tup (ns.map V.int))) : DRd K H (.ref a) (intsD ns) := .tup (SqT.of h) (drds_ints ns)
theorem drds_blk {K : PySem.W.Frag} {H : Hp} : ∀ (bs : List Addr) (ws : List (List Int)), bs.length = ws.length → (∀ (i : Nat) b w, bs[i]? = some b → ws[i]? = some w → H b = some (.tup (w.map V.int))) → DRds K H (bs.map V.ref) (ws.map intsD)
 | [], [], _, _ => .nil
 | b :: bs, w :: ws, hl, h => .cons (drd_ints (h 0 b w rfl rfl)) (drds_blk bs ws (by simpa using hl) fun i b w h1 h2 => h (i + 1) b w h1 h2)
theorem PicAt.drd {K : PySem.W.Frag} {H : Hp} {t tc ti to_ tp tb : Addr} {tbs : List Addr} {u : Usr} (p : PicAt K H t tc ti to_ tp tb tbs u) : DRd K H (.ref t) (picD u) :=
 .tup (SqT.of p.all) (.cons (drd_ints p.cel) (.cons (.int _) (.cons (.int _) (.cons (.int _) (.cons (drd_ints p.inb) (.cons (drd_ints p.out) (.cons (drd_ints p.pap) (.cons (.tup (SqT.of p.blk) (drds_blk tbs u.blk p.bln p.bls)) (.cons (.int _) (.cons (.str _) (.cons (.int _) (.cons (.int _) (.cons (.int _) .nil)))))))))))))
theorem lay_ints : ∀ ns : List Int, PyData.canLayAll0 (ns.map PyData.int) = true
 | [] => rfl
 | _ :: ns => lay_ints ns
theorem dep_ints : ∀ ns : List Int, PyData.depthAll (ns.map PyData.int) = 0
 | [] => rfl
 | n :: ns => by
  show max 0 (PyData.depthAll (ns.map PyData.int)) = 0
  rw [dep_ints ns]
  rfl
theorem lay_blk : ∀ ws : List (List Int), PyData.canLayAll0 (ws.map intsD) = true
 | [] => rfl
 | w :: ws => by
  show (PyData.canLayAll0 (w.map PyData.int) && PyData.canLayAll0 (ws.map intsD)) = true
  rw [lay_ints, lay_blk ws]
  rfl
theorem dep_blk : ∀ ws : List (List Int), PyData.depthAll (ws.map intsD) ≤ 1
 | [] => Nat.zero_le _
 | w :: ws => by
  show max (PyData.depthAll (w.map PyData.int) + 1) (PyData.depthAll (ws.map intsD)) ≤ 1
  rw [dep_ints]
  exact Nat.max_le.mpr ⟨Nat.le_refl _, dep_blk ws⟩
theorem mix_ints : ∀ ns : List Int, PySem.SeqAt.noMixAll (ns.map PyData.int) (ns.map PyData.int) = true
 | [] => rfl
 | _ :: ns => mix_ints ns
theorem mix_blk : ∀ ws : List (List Int), PySem.SeqAt.noMixAll (ws.map intsD) (ws.map intsD) = true
 | [] => rfl
 | w :: ws => by
  show (PySem.SeqAt.noMixAll (w.map PyData.int) (w.map PyData.int) && PySem.SeqAt.noMixAll (ws.map intsD) (ws.map intsD)) = true
  rw [mix_ints, mix_blk ws]
  rfl
theorem pic_shaped (u : Usr) : PySem.SeqAt.shaped (picD u) = true := by
 have hs : PyData.canLay0 (.str u.st.s) = true := by cases u.st <;> decide +kernel
 unfold PySem.SeqAt.shaped
 rw [Bool.and_eq_true]
 constructor
 ·show (PyData.canLayAll0 (u.m.cells.map PyData.int) && (true && (true && (true && (PyData.canLayAll0 (u.inb.map PyData.int) && (PyData.canLayAll0 (u.outb.map PyData.int) && (PyData.canLayAll0 (u.pap.map PyData.int) && (PyData.canLayAll0 (u.blk.map intsD) && (true && (PyData.canLay0 (.str u.st.s) && (true && (true && (true && true))))))))))))) = true
  rw [lay_ints, lay_ints, lay_ints, lay_ints, lay_blk, hs]
  rfl
 ·rw [decide_eq_true_eq]
  have hb := dep_blk u.blk
  show max (PyData.depthAll (u.m.cells.map PyData.int) + 1) (max 0 (max 0 (max 0 (max (PyData.depthAll (u.inb.map PyData.int) + 1) (max (PyData.depthAll (u.outb.map PyData.int) + 1) (max (PyData.depthAll (u.pap.map PyData.int) + 1) (max (PyData.depthAll (u.blk.map intsD) + 1) (max 0 (max 0 (max 0 (max 0 (max 0 0)))))))))))) + 1 ≤ 64
  rw [dep_ints, dep_ints, dep_ints, dep_ints]
  omega
theorem pic_mix (u : Usr) : PySem.SeqAt.noMix (picD u) (picD u) = true := by
 show (PySem.SeqAt.noMixAll (u.m.cells.map PyData.int) (u.m.cells.map PyData.int) && (true && (true && (true && (PySem.SeqAt.noMixAll (u.inb.map PyData.int) (u.inb.map PyData.int) && (PySem.SeqAt.noMixAll (u.outb.map PyData.int) (u.outb.map PyData.int) && (PySem.SeqAt.noMixAll (u.pap.map PyData.int) (u.pap.map PyData.int) && (PySem.SeqAt.noMixAll (u.blk.map intsD) (u.blk.map intsD) && (true && (true && (true && (true && (true && true))))))))))))) = true
 rw [mix_ints, mix_ints, mix_ints, mix_ints, mix_blk]
 rfl
def evD : Ev → PyData
 | .start p => .tuple [.str "start", .int p]
 | .key l => .tuple [.str "key", .int l]
 | .tick => .tuple [.str "tick"]
 | .step => .tuple [.str "step"]
theorem drd_ev {K : PySem.W.Frag} {H : Hp} {r : Addr} {e : Ev} (h : H r = some (.tup (evV e))) : DRd K H (.ref r) (evD e) := by
 cases e with
 | start p => exact .tup (SqT.of h) (.cons (.str _) (.cons (.int _) .nil))
 | key l => exact .tup (SqT.of h) (.cons (.str _) (.cons (.int _) .nil))
 | tick => exact .tup (SqT.of h) (.cons (.str _) .nil)
 | step => exact .tup (SqT.of h) (.cons (.str _) .nil)
theorem drds_evs {K : PySem.W.Frag} {H : Hp} : ∀ (rs : List Addr) (evs : List Ev), rs.length = evs.length → (∀ (i : Nat) r e, rs[i]? = some r → evs[i]? = some e → H r = some (.tup (evV e))) → DRds K H (rs.map V.ref) (evs.map evD)
 | [], [], _, _ => .nil
 | r :: rs, e :: evs, hl, h => .cons (drd_ev (h 0 r e rfl rfl)) (drds_evs rs evs (by simpa using hl) fun i b w h1 h2 => h (i + 1) b w h1 h2)
theorem ev_lay (e : Ev) : PyData.canLay0 (evD e) = true := by
 have h1 : PyData.canLay0 (.str "start") = true := by decide +kernel
 have h2 : PyData.canLay0 (.str "key") = true := by decide +kernel
 cases e with
 | start p => show (PyData.canLay0 (.str "start") && (true && true)) = true; rw [h1]; rfl
 | key l => show (PyData.canLay0 (.str "key") && (true && true)) = true; rw [h2]; rfl
 | tick => decide +kernel
 | step => decide +kernel
theorem ev_dep (e : Ev) : PyData.depth (evD e) ≤ 1 := by cases e <;> exact Nat.le_refl _
theorem ev_mix (e : Ev) : PySem.SeqAt.noMix (evD e) (evD e) = true := by cases e <;> rfl
theorem lay_evs : ∀ evs : List Ev, PyData.canLayAll0 (evs.map evD) = true
 | [] => rfl
 | e :: evs => by
  show (PyData.canLay0 (evD e) && PyData.canLayAll0 (evs.map evD)) = true
  rw [ev_lay, lay_evs evs]
  rfl
theorem dep_evs : ∀ evs : List Ev, PyData.depthAll (evs.map evD) ≤ 1
 | [] => Nat.zero_le _
 | e :: evs => by
  show max (PyData.depth (evD e)) (PyData.depthAll (evs.map evD)) ≤ 1
  exact Nat.max_le.mpr ⟨ev_dep e, dep_evs evs⟩
theorem mix_evs : ∀ evs : List Ev, PySem.SeqAt.noMixAll (evs.map evD) (evs.map evD) = true
 | [] => rfl
 | e :: evs => by
  show (PySem.SeqAt.noMix (evD e) (evD e) && PySem.SeqAt.noMixAll (evs.map evD) (evs.map evD)) = true
  rw [ev_mix, mix_evs evs]
  rfl
structure InsP (K : PySem.W.Frag) (C : Addr) : Prop where
 i1 : PySem.W.findIn K (.ref C) "__class__" = some (some (.builtin "object.__class__"))
 i2 : PySem.W.specialIn K (.builtin "object.__class__") "__get__" = some (some (.builtin "getset_descriptor.__get__"))
 i3 : PySem.W.takesIn K (.builtin "object.__class__") = some true
 i4 : PySem.W.mroIn K C (.type "object") = some true
 i5 : PySem.W.kitOne K (.ref C) (.ref C) = some true
end Du
namespace Pp
open PySem L2 Mir Pr Tx Lw Dm Us Du
structure PAd where
 p : Addr
 mp : Addr
 c : Addr
 ib : Addr
 ob : Addr
 pp : Addr
 bk : Addr
 dx : Addr
 dm : Addr
 bs : List Addr
def foot (A : PAd) : List Addr := A.p :: A.mp :: A.c :: A.ib :: A.ob :: A.pp :: A.bk :: A.bs
def fldsP (A : PAd) (u : Usr) : List (Str × V) := [("machine", .ref A.mp), ("inbox", .ref A.ib), ("outbox", .ref A.ob), ("paper", .ref A.pp), ("blocks", .ref A.bk), ("switches", .int u.sw), ("state", .str u.st.s), ("nap", .int u.nap), ("lost", .int u.lost), ("done", .int u.done)]
theorem len_fldsP (A : PAd) (u : Usr) : (fldsP A u).length < 1000 := by show 10 < 1000; decide
theorem lk_machine (A : PAd) (u : Usr) : (fldsP A u).lookup ("machine" : Str) = some (.ref A.mp) := by
 unfold fldsP; exact look_hit
theorem lk_inbox (A : PAd) (u : Usr) : (fldsP A u).lookup ("inbox" : Str) = some (.ref A.ib) := by
 unfold fldsP; wtm_at "l"
theorem lk_outbox (A : PAd) (u : Usr) : (fldsP A u).lookup ("outbox" : Str) = some (.ref A.ob) := by
 unfold fldsP; wtm_at "l"
theorem lk_paper (A : PAd) (u : Usr) : (fldsP A u).lookup ("paper" : Str) = some (.ref A.pp) := by
 unfold fldsP; wtm_at "l"
theorem lk_blocks (A : PAd) (u : Usr) : (fldsP A u).lookup ("blocks" : Str) = some (.ref A.bk) := by
 unfold fldsP; wtm_at "l"
theorem lk_switches (A : PAd) (u : Usr) : (fldsP A u).lookup ("switches" : Str) = some (.int u.sw) := by
 unfold fldsP; wtm_at "l"
theorem lk_state (A : PAd) (u : Usr) : (fldsP A u).lookup ("state" : Str) = some (.str u.st.s) := by
 unfold fldsP; wtm_at "l"
theorem lk_nap (A : PAd) (u : Usr) : (fldsP A u).lookup ("nap" : Str) = some (.int u.nap) := by
 unfold fldsP; wtm_at "l"
theorem lk_lost (A : PAd) (u : Usr) : (fldsP A u).lookup ("lost" : Str) = some (.int u.lost) := by
 unfold fldsP; wtm_at "l"
theorem lk_done (A : PAd) (u : Usr) : (fldsP A u).lookup ("done" : Str) = some (.int u.done) := by
 unfold fldsP; wtm_at "l"
theorem pf_switches (A : PAd) (u : Usr) (y : Int) : putF "switches" (.int y) (fldsP A u) = fldsP A { u with sw := y } := by
 unfold fldsP; wtm_at "p"
theorem pf_state (A : PAd) (u : Usr) (y : St5) : putF "state" (.str y.s) (fldsP A u) = fldsP A { u with st := y } := by
 unfold fldsP; wtm_at "p"
theorem pf_nap (A : PAd) (u : Usr) (y : Int) : putF "nap" (.int y) (fldsP A u) = fldsP A { u with nap := y } := by
 unfold fldsP; wtm_at "p"
theorem pf_lost (A : PAd) (u : Usr) (y : Int) : putF "lost" (.int y) (fldsP A u) = fldsP A { u with lost := y } := by
 unfold fldsP; wtm_at "p"
theorem pf_done (A : PAd) (u : Usr) (y : Int) : putF "done" (.int y) (fldsP A u) = fldsP A { u with done := y } := by
 unfold fldsP; wtm_at "p"
theorem pf_machine (A : PAd) (u : Usr) (y : Addr) : putF "machine" (.ref y) (fldsP A u) = fldsP { A with mp := y } u := by
 unfold fldsP; rw [putF_hit]
theorem pf_inbox (A : PAd) (u : Usr) (y : Addr) : putF "inbox" (.ref y) (fldsP A u) = fldsP { A with ib := y } u := by
 unfold fldsP; wtm_at "p"
theorem pf_outbox (A : PAd) (u : Usr) (y : Addr) : putF "outbox" (.ref y) (fldsP A u) = fldsP { A with ob := y } u := by
 unfold fldsP; wtm_at "p"
theorem pf_paper (A : PAd) (u : Usr) (y : Addr) : putF "paper" (.ref y) (fldsP A u) = fldsP { A with pp := y } u := by
 unfold fldsP; wtm_at "p"
theorem pf_blocks (A : PAd) (u : Usr) (y : Addr) : putF "blocks" (.ref y) (fldsP A u) = fldsP { A with bk := y } u := by
 unfold fldsP; wtm_at "p"
structure PAt (CP CM : Addr) (H : Hp) (A : PAd) (u : Usr) : Prop where
 o : H A.p = some (.ins CP A.dx (fldsP A u))
 m : MAt CM H A.mp A.c A.dm u.m
 l_in : H A.ib = some (.lst (u.inb.map V.int))
 l_out : H A.ob = some (.lst (u.outb.map V.int))
 l_pap : H A.pp = some (.lst (u.pap.map V.int))
 l_blk : H A.bk = some (.lst (A.bs.map V.ref))
 blk : Blk H A.bs u.blk
 nd : (foot A).Nodup
structure TxtP (K : PySem.W.Frag) (mg : Str → Option Value) (CP CM : Addr) : Prop extends TxtM K mg CM where
 clP : Cls K CP
 n_machine : NoAttr K CP "machine"
 n_inbox : NoAttr K CP "inbox"
 n_outbox : NoAttr K CP "outbox"
 n_paper : NoAttr K CP "paper"
 n_blocks : NoAttr K CP "blocks"
 n_switches : NoAttr K CP "switches"
 n_state : NoAttr K CP "state"
 n_nap : NoAttr K CP "nap"
 n_lost : NoAttr K CP "lost"
 n_done : NoAttr K CP "done"
 STOPPED : StrG mg "STOPPED" "stopped"
 READY : StrG mg "READY" "ready"
 HEARS : StrG mg "HEARS" "hears"
 SAYS : StrG mg "SAYS" "says"
 SLEEPS : StrG mg "SLEEPS" "sleeps"
 LETTERS : IntG mg "LETTERS" 256
 MOST_LETTERS : IntG mg "MOST_LETTERS" 16
 BLOCKS : IntG mg "BLOCKS" 4
 BLOCK_WORDS : IntG mg "BLOCK_WORDS" 16
 HEARD : IntG mg "HEARD" 0
 HEAR : IntG mg "HEAR" 1
 ROOM : IntG mg "ROOM" 2
 SAY : IntG mg "SAY" 3
 SLEEP : IntG mg "SLEEP" 4
 FETCH : IntG mg "FETCH" 5
 STORE : IntG mg "STORE" 6
 STOP : IntG mg "STOP" 7
 LOOK : IntG mg "LOOK" 8
 len_ : mg "len" = none
 range_ : mg "range" = none
 tuple_ : mg "tuple" = none
section
variable {CP CM : Addr} {H H' : Hp} {A : PAd} {u u' : Usr} {K : PySem.W.Frag} {mg : Str → Option Value} {m' : Mach} {q : Addr} {ho : HO} {Q : VK} {PH : Hp → Prop} {P : V → Prop}
theorem nds (h : (foot A).Nodup) : (¬ A.p = A.mp ∧ ¬ A.p = A.c ∧ ¬ A.p = A.ib ∧ ¬ A.p = A.ob ∧ ¬ A.p = A.pp ∧ ¬ A.p = A.bk ∧ A.p ∉ A.bs) ∧ (¬ A.mp = A.c ∧ ¬ A.mp = A.ib ∧ ¬ A.mp = A.ob ∧ ¬ A.mp = A.pp ∧ ¬ A.mp = A.bk ∧ A.mp ∉ A.bs) ∧ (¬ A.c = A.ib ∧ ¬ A.c = A.ob ∧ ¬ A.c = A.pp ∧ ¬ A.c = A.bk ∧ A.c ∉ A.bs) ∧ (¬ A.ib = A.ob ∧ ¬ A.ib = A.pp ∧ ¬ A.ib = A.bk ∧ A.ib ∉ A.bs) ∧ (¬ A.ob = A.pp ∧ ¬ A.ob = A.bk ∧ A.ob ∉ A.bs) ∧ (¬ A.pp = A.bk ∧ A.pp ∉ A.bs) ∧ (A.bk ∉ A.bs) ∧ A.bs.Nodup := by
 have n := h
 unfold foot at n
 simp only [List.nodup_cons, List.mem_cons, not_or] at n
 exact n
theorem PAt.p_mp (h : PAt CP CM H A u) : A.p ≠ A.mp := (nds h.nd).1.1
theorem PAt.mp_p (h : PAt CP CM H A u) : A.mp ≠ A.p := Ne.symm (nds h.nd).1.1
theorem PAt.p_c (h : PAt CP CM H A u) : A.p ≠ A.c := (nds h.nd).1.2.1
theorem PAt.c_p (h : PAt CP CM H A u) : A.c ≠ A.p := Ne.symm (nds h.nd).1.2.1
theorem PAt.p_ib (h : PAt CP CM H A u) : A.p ≠ A.ib := (nds h.nd).1.2.2.1
theorem PAt.ib_p (h : PAt CP CM H A u) : A.ib ≠ A.p := Ne.symm (nds h.nd).1.2.2.1
theorem PAt.p_ob (h : PAt CP CM H A u) : A.p ≠ A.ob := (nds h.nd).1.2.2.2.1
theorem PAt.ob_p (h : PAt CP CM H A u) : A.ob ≠ A.p := Ne.symm (nds h.nd).1.2.2.2.1
theorem PAt.p_pp (h : PAt CP CM H A u) : A.p ≠ A.pp := (nds h.nd).1.2.2.2.2.1
theorem PAt.pp_p (h : PAt CP CM H A u) : A.pp ≠ A.p := Ne.symm (nds h.nd).1.2.2.2.2.1
theorem PAt.bk_p (h : PAt CP CM H A u) : A.bk ≠ A.p := Ne.symm (nds h.nd).1.2.2.2.2.2.1
theorem PAt.p_bs (h : PAt CP CM H A u) : A.p ∉ A.bs := (nds h.nd).1.2.2.2.2.2.2
theorem PAt.mp_ib (h : PAt CP CM H A u) : A.mp ≠ A.ib := (nds h.nd).2.1.2.1
theorem PAt.ib_mp (h : PAt CP CM H A u) : A.ib ≠ A.mp := Ne.symm (nds h.nd).2.1.2.1
theorem PAt.mp_ob (h : PAt CP CM H A u) : A.mp ≠ A.ob := (nds h.nd).2.1.2.2.1
theorem PAt.ob_mp (h : PAt CP CM H A u) : A.ob ≠ A.mp := Ne.symm (nds h.nd).2.1.2.2.1
theorem PAt.mp_pp (h : PAt CP CM H A u) : A.mp ≠ A.pp := (nds h.nd).2.1.2.2.2.1
theorem PAt.pp_mp (h : PAt CP CM H A u) : A.pp ≠ A.mp := Ne.symm (nds h.nd).2.1.2.2.2.1
theorem PAt.bk_mp (h : PAt CP CM H A u) : A.bk ≠ A.mp := Ne.symm (nds h.nd).2.1.2.2.2.2.1
theorem PAt.mp_bs (h : PAt CP CM H A u) : A.mp ∉ A.bs := (nds h.nd).2.1.2.2.2.2.2
theorem PAt.c_ib (h : PAt CP CM H A u) : A.c ≠ A.ib := (nds h.nd).2.2.1.1
theorem PAt.ib_c (h : PAt CP CM H A u) : A.ib ≠ A.c := Ne.symm (nds h.nd).2.2.1.1
theorem PAt.c_ob (h : PAt CP CM H A u) : A.c ≠ A.ob := (nds h.nd).2.2.1.2.1
theorem PAt.ob_c (h : PAt CP CM H A u) : A.ob ≠ A.c := Ne.symm (nds h.nd).2.2.1.2.1
theorem PAt.c_pp (h : PAt CP CM H A u) : A.c ≠ A.pp := (nds h.nd).2.2.1.2.2.1
theorem PAt.pp_c (h : PAt CP CM H A u) : A.pp ≠ A.c := Ne.symm (nds h.nd).2.2.1.2.2.1
theorem PAt.bk_c (h : PAt CP CM H A u) : A.bk ≠ A.c := Ne.symm (nds h.nd).2.2.1.2.2.2.1
theorem PAt.c_bs (h : PAt CP CM H A u) : A.c ∉ A.bs := (nds h.nd).2.2.1.2.2.2.2
theorem PAt.ib_ob (h : PAt CP CM H A u) : A.ib ≠ A.ob := (nds h.nd).2.2.2.1.1
theorem PAt.ob_ib (h : PAt CP CM H A u) : A.ob ≠ A.ib := Ne.symm (nds h.nd).2.2.2.1.1
theorem PAt.ib_pp (h : PAt CP CM H A u) : A.ib ≠ A.pp := (nds h.nd).2.2.2.1.2.1
theorem PAt.pp_ib (h : PAt CP CM H A u) : A.pp ≠ A.ib := Ne.symm (nds h.nd).2.2.2.1.2.1
theorem PAt.bk_ib (h : PAt CP CM H A u) : A.bk ≠ A.ib := Ne.symm (nds h.nd).2.2.2.1.2.2.1
theorem PAt.ib_bs (h : PAt CP CM H A u) : A.ib ∉ A.bs := (nds h.nd).2.2.2.1.2.2.2
theorem PAt.ob_pp (h : PAt CP CM H A u) : A.ob ≠ A.pp := (nds h.nd).2.2.2.2.1.1
theorem PAt.pp_ob (h : PAt CP CM H A u) : A.pp ≠ A.ob := Ne.symm (nds h.nd).2.2.2.2.1.1
theorem PAt.bk_ob (h : PAt CP CM H A u) : A.bk ≠ A.ob := Ne.symm (nds h.nd).2.2.2.2.1.2.1
theorem PAt.ob_bs (h : PAt CP CM H A u) : A.ob ∉ A.bs := (nds h.nd).2.2.2.2.1.2.2
theorem PAt.bk_pp (h : PAt CP CM H A u) : A.bk ≠ A.pp := Ne.symm (nds h.nd).2.2.2.2.2.1.1
theorem PAt.pp_bs (h : PAt CP CM H A u) : A.pp ∉ A.bs := (nds h.nd).2.2.2.2.2.1.2
theorem PAt.bk_bs (h : PAt CP CM H A u) : A.bk ∉ A.bs := (nds h.nd).2.2.2.2.2.2.1
theorem PAt.bs_nd (h : PAt CP CM H A u) : A.bs.Nodup := (nds h.nd).2.2.2.2.2.2.2
theorem f_p : A.p ∈ foot A := List.mem_cons_self
theorem f_mp : A.mp ∈ foot A := (List.mem_cons_of_mem _ List.mem_cons_self)
theorem f_c : A.c ∈ foot A := (List.mem_cons_of_mem _ (List.mem_cons_of_mem _ List.mem_cons_self))
theorem f_ib : A.ib ∈ foot A := (List.mem_cons_of_mem _ (List.mem_cons_of_mem _ (List.mem_cons_of_mem _ List.mem_cons_self)))
theorem f_ob : A.ob ∈ foot A := (List.mem_cons_of_mem _ (List.mem_cons_of_mem _ (List.mem_cons_of_mem _ (List.mem_cons_of_mem _ List.mem_cons_self))))
theorem f_pp : A.pp ∈ foot A := (List.mem_cons_of_mem _ (List.mem_cons_of_mem _ (List.mem_cons_of_mem _ (List.mem_cons_of_mem _ (List.mem_cons_of_mem _ List.mem_cons_self)))))
theorem f_bk : A.bk ∈ foot A := (List.mem_cons_of_mem _ (List.mem_cons_of_mem _ (List.mem_cons_of_mem _ (List.mem_cons_of_mem _ (List.mem_cons_of_mem _ (List.mem_cons_of_mem _ List.mem_cons_self))))))
theorem f_bs {b : Addr} (h : b ∈ A.bs) : b ∈ foot A := (List.mem_cons_of_mem _ (List.mem_cons_of_mem _ (List.mem_cons_of_mem _ (List.mem_cons_of_mem _ (List.mem_cons_of_mem _ (List.mem_cons_of_mem _ (List.mem_cons_of_mem _ h)))))))
theorem PAt.same (h : PAt CP CM H A u) (e : u = u') : PAt CP CM H A u' := by rw [← e]; exact h
theorem PAt.nb (h : PAt CP CM H A u) {x : Addr} (hx : x ∉ A.bs) {i : Nat} {b : Addr} (e : A.bs[i]? = some b) : b ≠ x := fun z => hx (by rw [← z]; exact List.mem_of_getElem? e)
theorem PAt.move (h : PAt CP CM H A u) (s : ∀ x ∈ foot A, ∀ o, H x = some o → H' x = some o) : PAt CP CM H' A u :=
 ⟨s _ f_p _ h.o, ⟨s _ f_mp _ h.m.ob, s _ f_c _ h.m.cl⟩, s _ f_ib _ h.l_in, s _ f_ob _ h.l_out, s _ f_pp _ h.l_pap, s _ f_bk _ h.l_blk, ⟨h.blk.1, fun i b w h1 h2 => s _ (f_bs (List.mem_of_getElem? h1)) _ (h.blk.2 i b w h1 h2)⟩, h.nd⟩
theorem PAt.keep (h : PAt CP CM H A u) (s : Same H H') : PAt CP CM H' A u := h.move fun x _ o e => s x o e
theorem PAt.new (h : PAt CP CM H A u) (n : H q = none) : PAt CP CM (upd H q ho) A u := h.move fun x _ o e => by rw [upd_ne (ne_of_none e n)]; exact e
theorem PAt.far {G : List Addr} (h : PAt CP CM H A u) (F : FrL H H' G) (n : ∀ x ∈ foot A, x ∉ G) : PAt CP CM H' A u := h.move fun x hx o e => F x o e (n x hx)
theorem PAt.there (h : PAt CP CM H A u) {x : Addr} (hx : x ∈ foot A) : ∃ o, H x = some o := by
 unfold foot at hx
 simp only [List.mem_cons] at hx
 rcases hx with e | e | e | e | e | e | e | e
 ·rw [e]; exact ⟨_, h.o⟩
 ·rw [e]; exact ⟨_, h.m.ob⟩
 ·rw [e]; exact ⟨_, h.m.cl⟩
 ·rw [e]; exact ⟨_, h.l_in⟩
 ·rw [e]; exact ⟨_, h.l_out⟩
 ·rw [e]; exact ⟨_, h.l_pap⟩
 ·rw [e]; exact ⟨_, h.l_blk⟩
 ·obtain ⟨i, hi, z⟩ := List.getElem_of_mem e
  have hi2 : i < u.blk.length := by rw [← h.blk.1]; exact hi
  exact ⟨_, h.blk.2 i x u.blk[i] (by rw [List.getElem?_eq_getElem hi, z]) (List.getElem?_eq_getElem hi2)⟩
theorem PAt.fresh (h : PAt CP CM H A u) (n : H q = none) : q ∉ foot A := fun z => by
 obtain ⟨o, e⟩ := h.there z
 rw [e] at n
 cases n
theorem PAt.kind (h : PAt CP CM H A u) {x : Addr} (hx : x ∈ foot A) : ∀ xs, H x ≠ some (.tup xs) := by
 intro xs
 unfold foot at hx
 simp only [List.mem_cons] at hx
 rcases hx with e | e | e | e | e | e | e | e
 ·rw [e, h.o]; intro z; cases z
 ·rw [e, h.m.ob]; intro z; cases z
 ·rw [e, h.m.cl]; intro z; cases z
 ·rw [e, h.l_in]; intro z; cases z
 ·rw [e, h.l_out]; intro z; cases z
 ·rw [e, h.l_pap]; intro z; cases z
 ·rw [e, h.l_blk]; intro z; cases z
 ·obtain ⟨i, hi, z⟩ := List.getElem_of_mem e
  have hi2 : i < u.blk.length := by rw [← h.blk.1]; exact hi
  rw [h.blk.2 i x u.blk[i] (by rw [List.getElem?_eq_getElem hi, z]) (List.getElem?_eq_getElem hi2)]
  intro z; cases z
theorem PAt.setP (h : PAt CP CM H A u) (u' : Usr) (e1 : u'.m = u.m) (e2 : u'.inb = u.inb) (e3 : u'.outb = u.outb) (e4 : u'.pap = u.pap) (e5 : u'.blk = u.blk) : PAt CP CM (upd H A.p (.ins CP A.dx (fldsP A u'))) A u' :=
 ⟨upd_same, ⟨by rw [upd_ne h.mp_p, e1]; exact h.m.ob, by rw [upd_ne h.c_p, e1]; exact h.m.cl⟩, by rw [upd_ne h.ib_p, e2]; exact h.l_in, by rw [upd_ne h.ob_p, e3]; exact h.l_out, by rw [upd_ne h.pp_p, e4]; exact h.l_pap, by rw [upd_ne h.bk_p]; exact h.l_blk,
  ⟨by rw [e5]; exact h.blk.1, fun i b w h1 h2 => by rw [upd_ne (h.nb h.p_bs h1)]; exact h.blk.2 i b w h1 (by rw [← e5]; exact h2)⟩, h.nd⟩
theorem PAt.setM (h : PAt CP CM H A u) (M : MAt CM H' A.mp A.c A.dm m') (F : Fr2 H H' A.mp A.c) : PAt CP CM H' A { u with m := m' } :=
 ⟨F _ _ h.o h.p_mp h.p_c, M, F _ _ h.l_in h.ib_mp h.ib_c, F _ _ h.l_out h.ob_mp h.ob_c, F _ _ h.l_pap h.pp_mp h.pp_c, F _ _ h.l_blk h.bk_mp h.bk_c, ⟨h.blk.1, fun i b w h1 h2 => F _ _ (h.blk.2 i b w h1 h2) (h.nb h.mp_bs h1) (h.nb h.c_bs h1)⟩, h.nd⟩
theorem frM (F : Fr2 H H' A.mp A.c) : FrL H H' (foot A) := FrL.of2 F f_mp f_c
theorem PAt.setIn (h : PAt CP CM H A u) (ys : List Int) : PAt CP CM (upd H A.ib (.lst (ys.map V.int))) A { u with inb := ys } :=
 ⟨by rw [upd_ne h.p_ib]; exact h.o, ⟨by rw [upd_ne h.mp_ib]; exact h.m.ob, by rw [upd_ne h.c_ib]; exact h.m.cl⟩, upd_same, by rw [upd_ne h.ob_ib]; exact h.l_out, by rw [upd_ne h.pp_ib]; exact h.l_pap, by rw [upd_ne h.bk_ib]; exact h.l_blk, ⟨h.blk.1, fun i b w h1 h2 => by rw [upd_ne (h.nb h.ib_bs h1)]; exact h.blk.2 i b w h1 h2⟩, h.nd⟩
theorem PAt.setOut (h : PAt CP CM H A u) (ys : List Int) : PAt CP CM (upd H A.ob (.lst (ys.map V.int))) A { u with outb := ys } :=
 ⟨by rw [upd_ne h.p_ob]; exact h.o, ⟨by rw [upd_ne h.mp_ob]; exact h.m.ob, by rw [upd_ne h.c_ob]; exact h.m.cl⟩, by rw [upd_ne h.ib_ob]; exact h.l_in, upd_same, by rw [upd_ne h.pp_ob]; exact h.l_pap, by rw [upd_ne h.bk_ob]; exact h.l_blk, ⟨h.blk.1, fun i b w h1 h2 => by rw [upd_ne (h.nb h.ob_bs h1)]; exact h.blk.2 i b w h1 h2⟩, h.nd⟩
theorem PAt.setPap (h : PAt CP CM H A u) (ys : List Int) : PAt CP CM (upd H A.pp (.lst (ys.map V.int))) A { u with pap := ys } :=
 ⟨by rw [upd_ne h.p_pp]; exact h.o, ⟨by rw [upd_ne h.mp_pp]; exact h.m.ob, by rw [upd_ne h.c_pp]; exact h.m.cl⟩, by rw [upd_ne h.ib_pp]; exact h.l_in, by rw [upd_ne h.ob_pp]; exact h.l_out, upd_same, by rw [upd_ne h.bk_pp]; exact h.l_blk, ⟨h.blk.1, fun i b w h1 h2 => by rw [upd_ne (h.nb h.pp_bs h1)]; exact h.blk.2 i b w h1 h2⟩, h.nd⟩
theorem PAt.setB {i : Nat} {b : Addr} {w w' : List Int} (h : PAt CP CM H A u) (h1 : A.bs[i]? = some b) (h2 : u.blk[i]? = some w) : PAt CP CM (upd H b (.lst (w'.map V.int))) A { u with blk := u.blk.set i w' } := by
 have hb := List.mem_of_getElem? h1
 have nb : ∀ {x : Addr}, x ∉ A.bs → x ≠ b := fun hx e => hx (by rw [e]; exact hb)
 refine ⟨by rw [upd_ne (nb h.p_bs)]; exact h.o, ⟨by rw [upd_ne (nb h.mp_bs)]; exact h.m.ob, by rw [upd_ne (nb h.c_bs)]; exact h.m.cl⟩, by rw [upd_ne (nb h.ib_bs)]; exact h.l_in, by rw [upd_ne (nb h.ob_bs)]; exact h.l_out, by rw [upd_ne (nb h.pp_bs)]; exact h.l_pap, by rw [upd_ne (nb h.bk_bs)]; exact h.l_blk, ⟨by rw [List.length_set]; exact h.blk.1, fun j b2 w2 g1 g2 => ?_⟩, h.nd⟩
 by_cases g : j = i
 ·subst g
  rw [h1] at g1
  cases g1
  have hj : j < u.blk.length := by
   rcases Nat.lt_or_ge j u.blk.length with z | z
   ·exact z
   ·rw [List.getElem?_eq_none z] at h2; cases h2
  rw [List.getElem?_set_self hj] at g2
  cases g2
  exact upd_same
 ·rw [List.getElem?_set_ne (Ne.symm g)] at g2
  have ne : b2 ≠ b := by
   intro e
   subst e
   exact g ((List.getElem?_inj (by
    rcases Nat.lt_or_ge j A.bs.length with z | z
    ·exact z
    ·rw [List.getElem?_eq_none z] at g1; cases g1) h.bs_nd).mp (g1.trans h1.symm))
  rw [upd_ne ne]
  exact h.blk.2 j b2 w2 g1 g2
theorem r_machine (T : TxtP K mg CP CM) (h : PAt CP CM H A u) (q : P (.ref A.mp)) : ∃ a C dx fs v, V.ref A.p = .ref a ∧ H a = some (.ins C dx fs) ∧ Cls K C ∧ NoAttr K C "machine" ∧ fs.lookup ("machine" : Str) = some v ∧ P v := ⟨A.p, CP, A.dx, _, _, rfl, h.o, T.clP, T.n_machine, lk_machine _ _, q⟩
theorem r_inbox (T : TxtP K mg CP CM) (h : PAt CP CM H A u) (q : P (.ref A.ib)) : ∃ a C dx fs v, V.ref A.p = .ref a ∧ H a = some (.ins C dx fs) ∧ Cls K C ∧ NoAttr K C "inbox" ∧ fs.lookup ("inbox" : Str) = some v ∧ P v := ⟨A.p, CP, A.dx, _, _, rfl, h.o, T.clP, T.n_inbox, lk_inbox _ _, q⟩
theorem r_outbox (T : TxtP K mg CP CM) (h : PAt CP CM H A u) (q : P (.ref A.ob)) : ∃ a C dx fs v, V.ref A.p = .ref a ∧ H a = some (.ins C dx fs) ∧ Cls K C ∧ NoAttr K C "outbox" ∧ fs.lookup ("outbox" : Str) = some v ∧ P v := ⟨A.p, CP, A.dx, _, _, rfl, h.o, T.clP, T.n_outbox, lk_outbox _ _, q⟩
theorem r_paper (T : TxtP K mg CP CM) (h : PAt CP CM H A u) (q : P (.ref A.pp)) : ∃ a C dx fs v, V.ref A.p = .ref a ∧ H a = some (.ins C dx fs) ∧ Cls K C ∧ NoAttr K C "paper" ∧ fs.lookup ("paper" : Str) = some v ∧ P v := ⟨A.p, CP, A.dx, _, _, rfl, h.o, T.clP, T.n_paper, lk_paper _ _, q⟩
theorem r_blocks (T : TxtP K mg CP CM) (h : PAt CP CM H A u) (q : P (.ref A.bk)) : ∃ a C dx fs v, V.ref A.p = .ref a ∧ H a = some (.ins C dx fs) ∧ Cls K C ∧ NoAttr K C "blocks" ∧ fs.lookup ("blocks" : Str) = some v ∧ P v := ⟨A.p, CP, A.dx, _, _, rfl, h.o, T.clP, T.n_blocks, lk_blocks _ _, q⟩
theorem r_switches (T : TxtP K mg CP CM) (h : PAt CP CM H A u) (q : P (.int u.sw)) : ∃ a C dx fs v, V.ref A.p = .ref a ∧ H a = some (.ins C dx fs) ∧ Cls K C ∧ NoAttr K C "switches" ∧ fs.lookup ("switches" : Str) = some v ∧ P v := ⟨A.p, CP, A.dx, _, _, rfl, h.o, T.clP, T.n_switches, lk_switches _ _, q⟩
theorem r_state (T : TxtP K mg CP CM) (h : PAt CP CM H A u) (q : P (.str u.st.s)) : ∃ a C dx fs v, V.ref A.p = .ref a ∧ H a = some (.ins C dx fs) ∧ Cls K C ∧ NoAttr K C "state" ∧ fs.lookup ("state" : Str) = some v ∧ P v := ⟨A.p, CP, A.dx, _, _, rfl, h.o, T.clP, T.n_state, lk_state _ _, q⟩
theorem r_nap (T : TxtP K mg CP CM) (h : PAt CP CM H A u) (q : P (.int u.nap)) : ∃ a C dx fs v, V.ref A.p = .ref a ∧ H a = some (.ins C dx fs) ∧ Cls K C ∧ NoAttr K C "nap" ∧ fs.lookup ("nap" : Str) = some v ∧ P v := ⟨A.p, CP, A.dx, _, _, rfl, h.o, T.clP, T.n_nap, lk_nap _ _, q⟩
theorem r_lost (T : TxtP K mg CP CM) (h : PAt CP CM H A u) (q : P (.int u.lost)) : ∃ a C dx fs v, V.ref A.p = .ref a ∧ H a = some (.ins C dx fs) ∧ Cls K C ∧ NoAttr K C "lost" ∧ fs.lookup ("lost" : Str) = some v ∧ P v := ⟨A.p, CP, A.dx, _, _, rfl, h.o, T.clP, T.n_lost, lk_lost _ _, q⟩
theorem r_done (T : TxtP K mg CP CM) (h : PAt CP CM H A u) (q : P (.int u.done)) : ∃ a C dx fs v, V.ref A.p = .ref a ∧ H a = some (.ins C dx fs) ∧ Cls K C ∧ NoAttr K C "done" ∧ fs.lookup ("done" : Str) = some v ∧ P v := ⟨A.p, CP, A.dx, _, _, rfl, h.o, T.clP, T.n_done, lk_done _ _, q⟩
theorem r_cells (T : TxtP K mg CP CM) (h : PAt CP CM H A u) (q : P (.ref A.c)) : ∃ a C dx fs v, V.ref A.mp = .ref a ∧ H a = some (.ins C dx fs) ∧ Cls K C ∧ NoAttr K C "cells" ∧ fs.lookup ("cells" : Str) = some v ∧ P v := ⟨A.mp, CM, A.dm, _, _, rfl, h.m.ob, T.cl, T.n_cells, Pr.lk_cells _ _, q⟩
theorem r_total (T : TxtP K mg CP CM) (h : PAt CP CM H A u) (q : P (.int u.m.total)) : ∃ a C dx fs v, V.ref A.mp = .ref a ∧ H a = some (.ins C dx fs) ∧ Cls K C ∧ NoAttr K C "total" ∧ fs.lookup ("total" : Str) = some v ∧ P v := ⟨A.mp, CM, A.dm, _, _, rfl, h.m.ob, T.cl, T.n_total, Pr.lk_total _ _, q⟩
theorem r_mark (T : TxtP K mg CP CM) (h : PAt CP CM H A u) (q : P (.int u.m.mark)) : ∃ a C dx fs v, V.ref A.mp = .ref a ∧ H a = some (.ins C dx fs) ∧ Cls K C ∧ NoAttr K C "mark" ∧ fs.lookup ("mark" : Str) = some v ∧ P v := ⟨A.mp, CM, A.dm, _, _, rfl, h.m.ob, T.cl, T.n_mark, Pr.lk_mark _ _, q⟩
theorem r_at (T : TxtP K mg CP CM) (h : PAt CP CM H A u) (q : P (.int u.m.at_)) : ∃ a C dx fs v, V.ref A.mp = .ref a ∧ H a = some (.ins C dx fs) ∧ Cls K C ∧ NoAttr K C "at" ∧ fs.lookup ("at" : Str) = some v ∧ P v := ⟨A.mp, CM, A.dm, _, _, rfl, h.m.ob, T.cl, T.n_at, Pr.lk_at _ _, q⟩
theorem w_switches {y : Int} (T : TxtP K mg CP CM) (h : PAt CP CM H A u) (k : ∀ H', PAt CP CM H' A { u with sw := y } → FrL H H' (foot A) → PH H') : ∃ a C dx fs, V.ref A.p = .ref a ∧ H a = some (.ins C dx fs) ∧ Cls K C ∧ NoAttr K C "switches" ∧ fs.length < 1000 ∧ PH (upd H a (.ins C dx (putF "switches" (.int y) fs))) :=
 ⟨A.p, CP, A.dx, _, rfl, h.o, T.clP, T.n_switches, len_fldsP _ _, by rw [pf_switches]; exact k _ (h.setP _ rfl rfl rfl rfl rfl) (FrL.upd f_p)⟩
theorem w_state {y : St5} (T : TxtP K mg CP CM) (h : PAt CP CM H A u) (k : ∀ H', PAt CP CM H' A { u with st := y } → FrL H H' (foot A) → PH H') : ∃ a C dx fs, V.ref A.p = .ref a ∧ H a = some (.ins C dx fs) ∧ Cls K C ∧ NoAttr K C "state" ∧ fs.length < 1000 ∧ PH (upd H a (.ins C dx (putF "state" (.str y.s) fs))) :=
 ⟨A.p, CP, A.dx, _, rfl, h.o, T.clP, T.n_state, len_fldsP _ _, by rw [pf_state]; exact k _ (h.setP _ rfl rfl rfl rfl rfl) (FrL.upd f_p)⟩
theorem w_nap {y : Int} (T : TxtP K mg CP CM) (h : PAt CP CM H A u) (k : ∀ H', PAt CP CM H' A { u with nap := y } → FrL H H' (foot A) → PH H') : ∃ a C dx fs, V.ref A.p = .ref a ∧ H a = some (.ins C dx fs) ∧ Cls K C ∧ NoAttr K C "nap" ∧ fs.length < 1000 ∧ PH (upd H a (.ins C dx (putF "nap" (.int y) fs))) :=
 ⟨A.p, CP, A.dx, _, rfl, h.o, T.clP, T.n_nap, len_fldsP _ _, by rw [pf_nap]; exact k _ (h.setP _ rfl rfl rfl rfl rfl) (FrL.upd f_p)⟩
theorem w_lost {y : Int} (T : TxtP K mg CP CM) (h : PAt CP CM H A u) (k : ∀ H', PAt CP CM H' A { u with lost := y } → FrL H H' (foot A) → PH H') : ∃ a C dx fs, V.ref A.p = .ref a ∧ H a = some (.ins C dx fs) ∧ Cls K C ∧ NoAttr K C "lost" ∧ fs.length < 1000 ∧ PH (upd H a (.ins C dx (putF "lost" (.int y) fs))) :=
 ⟨A.p, CP, A.dx, _, rfl, h.o, T.clP, T.n_lost, len_fldsP _ _, by rw [pf_lost]; exact k _ (h.setP _ rfl rfl rfl rfl rfl) (FrL.upd f_p)⟩
theorem w_done {y : Int} (T : TxtP K mg CP CM) (h : PAt CP CM H A u) (k : ∀ H', PAt CP CM H' A { u with done := y } → FrL H H' (foot A) → PH H') : ∃ a C dx fs, V.ref A.p = .ref a ∧ H a = some (.ins C dx fs) ∧ Cls K C ∧ NoAttr K C "done" ∧ fs.length < 1000 ∧ PH (upd H a (.ins C dx (putF "done" (.int y) fs))) :=
 ⟨A.p, CP, A.dx, _, rfl, h.o, T.clP, T.n_done, len_fldsP _ _, by rw [pf_done]; exact k _ (h.setP _ rfl rfl rfl rfl rfl) (FrL.upd f_p)⟩
theorem w_total {y : Int} (T : TxtP K mg CP CM) (h : PAt CP CM H A u) (k : ∀ H', PAt CP CM H' A { u with m := { u.m with total := y } } → FrL H H' (foot A) → PH H') : ∃ a C dx fs, V.ref A.mp = .ref a ∧ H a = some (.ins C dx fs) ∧ Cls K C ∧ NoAttr K C "total" ∧ fs.length < 1000 ∧ PH (upd H a (.ins C dx (putF "total" (.int y) fs))) :=
 ⟨A.mp, CM, A.dm, _, rfl, h.m.ob, T.cl, T.n_total, Pr.len_flds _ _, by rw [Pr.pf_total]; exact k _ (h.setM (h.m.setP rfl) Fr2.updP) (FrL.upd f_mp)⟩
theorem w_at {y : Int} (T : TxtP K mg CP CM) (h : PAt CP CM H A u) (k : ∀ H', PAt CP CM H' A { u with m := { u.m with at_ := y } } → FrL H H' (foot A) → PH H') : ∃ a C dx fs, V.ref A.mp = .ref a ∧ H a = some (.ins C dx fs) ∧ Cls K C ∧ NoAttr K C "at" ∧ fs.length < 1000 ∧ PH (upd H a (.ins C dx (putF "at" (.int y) fs))) :=
 ⟨A.mp, CM, A.dm, _, rfl, h.m.ob, T.cl, T.n_at, Pr.len_flds _ _, by rw [Pr.pf_at]; exact k _ (h.setM (h.m.setP rfl) Fr2.updP) (FrL.upd f_mp)⟩
theorem app_in {x : Int} (h : PAt CP CM H A u) (hz : u.inb.length < 1000001) (k : ∀ H', PAt CP CM H' A { u with inb := u.inb ++ [x] } → FrL H H' (foot A) → Q .non H') : rAppend (.ref A.ib) [.int x] H Q := by
 refine Sx.app h.l_in (by rw [List.length_map]; omega) ?_
 have := h.setIn (u.inb ++ [x])
 rw [List.map_append] at this
 exact k _ this (FrL.upd f_ib)
theorem pop_in {x : Int} {r : List Int} (h : PAt CP CM H A u) (e : u.inb = x :: r) (k : ∀ H', PAt CP CM H' A { u with inb := r } → FrL H H' (foot A) → Q (.int x) H') : rPopAt (.ref A.ib) [.int 0] H Q :=
 Sx.pop0 (x := .int x) (r := r.map V.int) (by rw [h.l_in, e]; rfl) (k _ (h.setIn r) (FrL.upd f_ib))
theorem app_out {x : Int} (h : PAt CP CM H A u) (hz : u.outb.length < 1000001) (k : ∀ H', PAt CP CM H' A { u with outb := u.outb ++ [x] } → FrL H H' (foot A) → Q .non H') : rAppend (.ref A.ob) [.int x] H Q := by
 refine Sx.app h.l_out (by rw [List.length_map]; omega) ?_
 have := h.setOut (u.outb ++ [x])
 rw [List.map_append] at this
 exact k _ this (FrL.upd f_ob)
theorem pop_out {x : Int} {r : List Int} (h : PAt CP CM H A u) (e : u.outb = x :: r) (k : ∀ H', PAt CP CM H' A { u with outb := r } → FrL H H' (foot A) → Q (.int x) H') : rPopAt (.ref A.ob) [.int 0] H Q :=
 Sx.pop0 (x := .int x) (r := r.map V.int) (by rw [h.l_out, e]; rfl) (k _ (h.setOut r) (FrL.upd f_ob))
theorem app_pap {x : Int} (h : PAt CP CM H A u) (hz : u.pap.length < 1000001) (k : ∀ H', PAt CP CM H' A { u with pap := u.pap ++ [x] } → FrL H H' (foot A) → Q .non H') : rAppend (.ref A.pp) [.int x] H Q := by
 refine Sx.app h.l_pap (by rw [List.length_map]; omega) ?_
 have := h.setPap (u.pap ++ [x])
 rw [List.map_append] at this
 exact k _ this (FrL.upd f_pp)
end
end Pp
local macro_rules | `(tactic| wtm_at "u") => `(tactic| first | wtm_at "m" | (with_reducible first | refine Pp.r_machine (by assumption) (by assumption) ?_ | refine Pp.r_inbox (by assumption) (by assumption) ?_ | refine Pp.r_outbox (by assumption) (by assumption) ?_ | refine Pp.r_paper (by assumption) (by assumption) ?_ | refine Pp.r_blocks (by assumption) (by assumption) ?_ | refine Pp.r_switches (by assumption) (by assumption) ?_ | refine Pp.r_state (by assumption) (by assumption) ?_ | refine Pp.r_nap (by assumption) (by assumption) ?_ | refine Pp.r_lost (by assumption) (by assumption) ?_ | refine Pp.r_done (by assumption) (by assumption) ?_ | refine Pp.r_cells (by assumption) (by assumption) ?_ | refine Pp.r_total (by assumption) (by assumption) ?_ | refine Pp.r_mark (by assumption) (by assumption) ?_ | refine Pp.r_at (by assumption) (by assumption) ?_))
local macro_rules | `(tactic| wtm_at "uu") => `(tactic| repeat wtm_at "u")
local macro_rules | `(tactic| wtm_at "v") => `(tactic| first | (with_reducible first | refine Sx.tupN ?_ | refine Sx.lstN ?_ | refine Sx.intB ?_ | refine Sx.min2 ?_) | wtm_at "u" | (with_reducible refine iteNS rfl ?_) | (with_reducible refine iteDS rfl ?_))
local macro_rules | `(tactic| wtm_at "vv") => `(tactic| repeat wtm_at "v")
namespace Pp
open PySem L2 Mir Pr Tx Lw Dm Us Du
def spP (CP CM : Addr) (pre : Usr → Prop) (f : Usr → Usr) : Sp := fun vs H Q _ => ∃ A u, vs = [.ref A.p] ∧ PAt CP CM H A u ∧ pre u ∧ ∀ H', PAt CP CM H' A (f u) → FrL H H' (foot A) → Q .non H'
def spP1 (CP CM : Addr) (pre : Usr → Int → Prop) (f : Usr → Int → Usr) : Sp := fun vs H Q _ => ∃ A u a, vs = [.ref A.p, .int a] ∧ PAt CP CM H A u ∧ pre u a ∧ ∀ H', PAt CP CM H' A (f u a) → FrL H H' (foot A) → Q .non H'
def spP2 (CP CM : Addr) (pre : Usr → Int → Int → Prop) (f : Usr → Int → Usr) : Sp := fun vs H Q _ => ∃ A u a b, vs = [.ref A.p, .int a, .int b] ∧ PAt CP CM H A u ∧ pre u a b ∧ ∀ H', PAt CP CM H' A (f u a) → FrL H H' (foot A) → Q .non H'
def preB (u : Usr) (b : Int) : Prop := RgU u ∧ b = (u.m.at_ + 63) % 64
def sp_skip (C : Addr) : Sp := fun vs H Q _ => ∃ p c dx m b, vs = [.ref p, .bl b] ∧ MAt C H p c dx m ∧ ∀ H', MAt C H' p c dx (if b = true then moveOn m else m) → Fr2 H H' p c → Q .non H'
def sp_waitP (CP CM : Addr) : Sp := fun vs H Q _ => ∃ A u, ∃ s : St5, ∃ b, vs = [.ref A.p, .str s.s, .int b] ∧ PAt CP CM H A u ∧ b = (u.m.at_ + 63) % 64 ∧ ∀ H', PAt CP CM H' A (waitU u s) → FrL H H' (foot A) → Q .non H'
def sp_fetch (C : Addr) : Sp := fun vs H Q _ => ∃ p c dx m b w pl, vs = [.ref p, .ref b, .int pl] ∧ MAt C H p c dx m ∧ H b = some (.lst (w.map V.int)) ∧ b ≠ p ∧ b ≠ c ∧ w.length = 16 ∧ m.cells.length = 64 ∧
 ∀ H', MAt C H' p c dx { m with cells := fetchN pl w 16 m.cells } → Fr2 H H' p c → Q .non H'
def sp_store (C : Addr) : Sp := fun vs H Q _ => ∃ p c dx m b w pl, vs = [.ref p, .ref b, .int pl] ∧ MAt C H p c dx m ∧ H b = some (.lst (w.map V.int)) ∧ b ≠ p ∧ b ≠ c ∧ w.length = 16 ∧ m.cells.length = 64 ∧
 ∀ H', H' = upd H b (.lst ((storeN pl m.cells 16 w).map V.int)) → Q .non H'
theorem deed_ask2 {m : Mach} {p : Int} (h : (deedM m).1 = some p) : (deedM m).2 = moveOn m := by
 unfold deedM deedW at h ⊢
 split at h
 ·rename_i g; rw [if_pos g]
 split at h
 ·cases h
 split at h
 ·cases h
 split at h <;> cases h
section
variable {P : Program} {w : World} {K : PySem.W.Frag} {mg : Str → Option Value} {base : Heap} {CP CM : Addr}
theorem ok_start (R : Raw K mg "take_start" s_take_start) (T : TxtP K mg CP CM) : GF P w K mg base "take_start" ["person", "place"] 1 (spP1 CP CM (fun _ _ => True) startU) := by
 refine GF.mk R sc_take_start (by wtm_at "2") (fun vs H Q E h => ?_) (fun f cdv A outer s H vs Q E hr h => ?_)
 ·obtain ⟨B, u, a, rfl, _⟩ := h; rfl
 ·obtain ⟨B, u, a, rfl, D, _, k⟩ := h
  refine ⟨_, (@pss_one _ _ _ (@ps_if _ _ _ _ _ _ _ _ (@pt_cmpR _ _ _ _ _ _ _ _ op_eq (@pe_fldK _ (K) _ _ _ _ rfl (pv 0) rfl) (@pe_gstr _ _ _ _ rfl T.STOPPED (by decide)) (nomark _)) (@pss_cons _ _ _ _ _ (@ps_set _ _ (2) _ _ _ _ sc_take_start.nd rfl (Or.inl rfl) (@pe_fldK _ (K) _ _ _ _ rfl (pv 0) rfl) rfl (by first | exact .inl rfl | exact .inr rfl | assumption)) (@pss_cons _ _ _ _ _ (@ps_fldK _ (K) _ _ _ _ _ _ _ rfl (pv 2) (pv 1) rfl) (@pss_one _ _ _ (@ps_fldK _ (K) _ _ _ _ _ _ _ rfl (pv 0) (@pe_gstr _ _ _ _ rfl T.READY (by decide)) rfl)))) pss_nil)), ?_⟩
  wtm_at "uu"
  refine iteD (fun g => ?_) (fun g => ?_)
  ·have g' : u.st = .stopped := St5.inj.mp g
   wtm_at "uu"
   refine w_at T D fun H1 D1 F1 => ?_
   wtm_at "uu"
   refine w_state (y := .ready) T D1 fun H2 D2 F2 => k _ (D2.same ?_) (F1.trans F2)
   unfold startU
   rw [if_pos g']
  ·have g' : ¬ u.st = .stopped := fun z => g (St5.inj.mpr z)
   refine k _ (D.same ?_) FrL.refl
   unfold startU
   rw [if_neg g']
theorem ok_key (R : Raw K mg "take_key" s_take_key) (T : TxtP K mg CP CM) : GF P w K mg base "take_key" ["person", "letter"] 1 (spP1 CP CM (fun u _ => RgU u) keyU) := by
 refine GF.mk R sc_take_key (by wtm_at "2") (fun vs H Q E h => ?_) (fun f cdv A outer s H vs Q E hr h => ?_)
 ·obtain ⟨B, u, a, rfl, _⟩ := h; rfl
 ·obtain ⟨B, u, l, rfl, D, hR, k⟩ := h
  have hil := hR.inl
  refine ⟨_, (@pss_cons _ _ _ _ _ (@ps_cut _ _ _ (@ps_if _ _ _ _ _ _ _ _ (@pt_cmpR _ _ _ _ _ _ _ _ op_lt (@pe_callBN _ _ _ _ _ _ _ _ _ (call_len_seqK (K := K) rfl) (by rfl) T.len_ bo_len (@pa_c _ _ _ _ _ (@pe_fldK _ (K) _ _ _ _ rfl (pv 0) rfl) pa_nil rfl) (by decide) (by decide) rfl) (@pe_gint _ _ _ _ rfl T.MOST_LETTERS (by decide)) (nomark _)) (@pss_one _ _ _ (@ps_expr _ _ _ _ (pe_bm PySem.F.plainAttrs_list PySem.F.slot_list_append PySem.F.type_list_append mt_append (@pe_fldK _ (K) _ _ _ _ rfl (pv 0) rfl) (@pa_c _ _ _ _ _ (pv 1) pa_nil rfl)) rfl)) (@pss_one _ _ _ (@ps_fldK _ (K) _ _ _ _ _ _ _ rfl (pv 0) (@pe_op _ _ _ _ _ _ _ _ op_add (@pe_fldK _ (K) _ _ _ _ rfl (pv 0) rfl) pe_int) rfl)))) (@pss_one _ _ _ (@ps_if _ _ _ _ _ _ _ _ (@pt_cmpR _ _ _ _ _ _ _ _ op_eq (@pe_fldK _ (K) _ _ _ _ rfl (pv 0) rfl) (@pe_gstr _ _ _ _ rfl T.HEARS (by decide)) (nomark _)) (@pss_one _ _ _ (@ps_fldK _ (K) _ _ _ _ _ _ _ rfl (pv 0) (@pe_gstr _ _ _ _ rfl T.READY (by decide)) rfl)) pss_nil))), ?_⟩
  wtm_at "uu"
  refine Sx.cut (fun σ' H' => σ' = [some (.ref B.p), some (.int l)] ∧ PAt CP CM H' B (if u.inb.length < 16 then { u with inb := u.inb ++ [l] } else { u with lost := u.lost + 1 }) ∧ FrL H H' (foot B)) ?_ ?_
  ·wtm_at "uu"
   refine ⟨B.ib, _, rfl, .inl (SqL.of D.l_in), ?_⟩
   rw [List.length_map]
   wtm_at "uu"
   refine iteD (fun g => ?_) (fun g => ?_)
   ·wtm_at "uu"
    refine ⟨Sx.tyL D.l_in, ?_⟩
    wtm_at "uu"
    refine app_in D (by omega) fun H3 D3 F3 => ⟨rfl, D3.same ?_, F3⟩
    rw [if_pos (by omega)]
   ·wtm_at "uu"
    refine w_lost T D fun H3 D3 F3 => ⟨rfl, D3.same ?_, F3⟩
    rw [if_neg (by omega)]
  rintro _ H1 ⟨rfl, D1, F1⟩
  have est : (if u.inb.length < 16 then { u with inb := u.inb ++ [l] } else { u with lost := u.lost + 1 } : Usr).st = u.st := by split <;> rfl
  unfold keyU at k
  dsimp only at k
  generalize (if u.inb.length < 16 then { u with inb := u.inb ++ [l] } else { u with lost := u.lost + 1 } : Usr) = u1 at D1 k est
  wtm_at "uu"
  refine iteD (fun g => ?_) (fun g => ?_)
  ·have g' : u1.st = .hears := St5.inj.mp g
   wtm_at "uu"
   refine w_state (y := .ready) T D1 fun H2 D2 F2 => k _ (D2.same ?_) (F1.trans F2)
   rw [if_pos (by rw [← est]; exact g')]
  ·have g' : ¬ u1.st = .hears := fun z => g (St5.inj.mpr z)
   refine k _ (D1.same ?_) F1
   rw [if_neg (by rw [← est]; exact g')]
theorem ok_tick (R : Raw K mg "take_tick" s_take_tick) (T : TxtP K mg CP CM) : GF P w K mg base "take_tick" ["person"] 1 (spP CP CM RgU tickU) := by
 refine GF.mk R sc_take_tick (by wtm_at "1") (fun vs H Q E h => ?_) (fun f cdv A outer s H vs Q E hr h => ?_)
 ·obtain ⟨B, u, rfl, _⟩ := h; rfl
 ·obtain ⟨B, u, rfl, D, hR, k⟩ := h
  have hpl := hR.papl
  refine ⟨_, (@pss_cons _ _ _ _ _ (@ps_cut _ _ _ (@ps_if _ _ _ _ _ _ _ _ (@pt_cmpR _ _ _ _ _ _ _ _ op_gt (@pe_callBN _ _ _ _ _ _ _ _ _ (call_len_seqK (K := K) rfl) (by rfl) T.len_ bo_len (@pa_c _ _ _ _ _ (@pe_fldK _ (K) _ _ _ _ rfl (pv 0) rfl) pa_nil rfl) (by decide) (by decide) rfl) pe_int (nomark _)) (@pss_cons _ _ _ _ _ (@ps_expr _ _ _ _ (pe_bm PySem.F.plainAttrs_list PySem.F.slot_list_append PySem.F.type_list_append mt_append (@pe_fldK _ (K) _ _ _ _ rfl (pv 0) rfl) (@pa_c _ _ _ _ _ (pe_bm PySem.F.plainAttrs_list PySem.F.slot_list_pop PySem.F.type_list_pop mt_popAt (@pe_fldK _ (K) _ _ _ _ rfl (pv 0) rfl) (@pa_c _ _ _ _ _ pe_int pa_nil rfl)) pa_nil rfl)) rfl) (@pss_one _ _ _ (@ps_if _ _ _ _ _ _ _ _ (@pt_cmpR _ _ _ _ _ _ _ _ op_eq (@pe_fldK _ (K) _ _ _ _ rfl (pv 0) rfl) (@pe_gstr _ _ _ _ rfl T.SAYS (by decide)) (nomark _)) (@pss_one _ _ _ (@ps_fldK _ (K) _ _ _ _ _ _ _ rfl (pv 0) (@pe_gstr _ _ _ _ rfl T.READY (by decide)) rfl)) pss_nil))) pss_nil)) (@pss_one _ _ _ (@ps_if _ _ _ _ _ _ _ _ (@pt_cmpR _ _ _ _ _ _ _ _ op_eq (@pe_fldK _ (K) _ _ _ _ rfl (pv 0) rfl) (@pe_gstr _ _ _ _ rfl T.SLEEPS (by decide)) (nomark _)) (@pss_cons _ _ _ _ _ (@ps_fldK _ (K) _ _ _ _ _ _ _ rfl (pv 0) (@pe_op _ _ _ _ _ _ _ _ op_sub (@pe_fldK _ (K) _ _ _ _ rfl (pv 0) rfl) pe_int) rfl) (@pss_one _ _ _ (@ps_if _ _ _ _ _ _ _ _ (@pt_cmpR _ _ _ _ _ _ _ _ op_eq (@pe_fldK _ (K) _ _ _ _ rfl (pv 0) rfl) pe_int (nomark _)) (@pss_one _ _ _ (@ps_fldK _ (K) _ _ _ _ _ _ _ rfl (pv 0) (@pe_gstr _ _ _ _ rfl T.READY (by decide)) rfl)) pss_nil))) pss_nil))), ?_⟩
  wtm_at "uu"
  refine Sx.cut (fun σ' H' => σ' = [some (.ref B.p)] ∧ PAt CP CM H' B (printU u) ∧ FrL H H' (foot B)) ?_ ?_
  ·wtm_at "uu"
   refine ⟨B.ob, _, rfl, .inl (SqL.of D.l_out), ?_⟩
   rw [List.length_map]
   wtm_at "uu"
   cases hout : u.outb with
   | nil =>
    refine iteD (fun g => by simp at g) fun _ => ⟨rfl, D.same ?_, FrL.refl⟩
    unfold printU
    rw [hout]
   | cons x r =>
    refine iteD (fun _ => ?_) (fun g => (g (by rw [List.length_cons]; omega)).elim)
    wtm_at "uu"
    refine ⟨Sx.tyL D.l_pap, ?_⟩
    wtm_at "uu"
    refine ⟨Sx.tyL D.l_out, ?_⟩
    wtm_at "uu"
    refine pop_out D hout fun H1 D1 F1 => ?_
    wtm_at "uu"
    refine app_pap D1 (show u.pap.length < 1000001 by omega) fun H2 D2 F2 => ?_
    have F02 := F1.trans F2
    wtm_at "uu"
    refine iteD (fun g => ?_) (fun g => ?_)
    ·have g' : u.st = .says := St5.inj.mp g
     wtm_at "uu"
     refine w_state (y := .ready) T D2 fun H6 D6 F6 => ⟨rfl, D6.same ?_, F02.trans F6⟩
     unfold printU
     rw [hout]
     dsimp only
     rw [if_pos g']
    ·have g' : ¬ u.st = .says := fun z => g (St5.inj.mpr z)
     refine ⟨rfl, D2.same ?_, F02⟩
     unfold printU
     rw [hout]
     dsimp only
     rw [if_neg g']
  rintro _ H1 ⟨rfl, D1, F1⟩
  unfold tickU at k
  generalize printU u = u1 at D1 k
  wtm_at "uu"
  refine iteD (fun g => ?_) (fun g => ?_)
  ·have g' : u1.st = .sleeps := St5.inj.mp g
   wtm_at "uu"
   refine w_nap T D1 fun H2 D2 F2 => ?_
   wtm_at "uu"
   refine iteD (fun g2 => ?_) (fun g2 => ?_)
   ·wtm_at "uu"
    refine w_state (y := .ready) T D2 fun H3 D3 F3 => k _ (D3.same ?_) (F1.trans (F2.trans F3))
    unfold napU
    rw [if_pos g', if_pos g2]
   ·refine k _ (D2.same ?_) (F1.trans F2)
    unfold napU
    rw [if_pos g', if_neg g2, ← g']
  ·have g' : ¬ u1.st = .sleeps := fun z => g (St5.inj.mpr z)
   refine k _ (D1.same ?_) F1
   unfold napU
   rw [if_neg g']
theorem ok_skip (R : Raw K mg "skip_if" s_skip_if) (G_move_on : GF P w K mg base "move_on" ["machine"] 2 (spM CM (fun _ => True) moveOn)) : GF P w K mg base "skip_if" ["machine", "so"] 3 (sp_skip CM) := by
 refine GF.mk R sc_skip_if (by wtm_at "2") (fun vs H Q E h => ?_) (fun f cdv A outer s H vs Q E hr h => ?_)
 ·obtain ⟨p, c, dx, m, b, rfl, _⟩ := h; rfl
 ·obtain ⟨p, c, dx, m, b, rfl, M, k⟩ := h
  refine ⟨_, (@pss_one _ _ _ (@ps_if _ _ _ _ _ _ _ _ (@pt_val _ _ _ (pv 1) (fun _ => rfl)) (@pss_one _ _ _ (@ps_expr _ _ _ _ (@pe_gcallN _ _ _ _ _ _ _ _ _ _ G_move_on (hr.mono (by decide)) rfl (@pa_c _ _ _ _ _ (pv 0) pa_nil rfl) (by decide) rfl) rfl)) pss_nil)), ?_⟩
  wtm_at "uu"
  refine iteB (fun g => ?_) (fun g => ?_)
  ·wtm_at "uu"
   refine ⟨p, c, dx, m, rfl, M, trivial, fun H' M' F' => k H' (M'.same ?_) F'⟩
   rw [if_pos g]
  ·refine k H (M.same ?_) Fr2.refl
   rw [g]
   rfl
theorem ok_wait (R : Raw K mg "wait_at" s_wait_at) (T : TxtP K mg CP CM) : GF P w K mg base "wait_at" ["person", "state", "place"] 1 (sp_waitP CP CM) := by
 refine GF.mk R sc_wait_at (by wtm_at "3") (fun vs H Q E h => ?_) (fun f cdv A outer s H vs Q E hr h => ?_)
 ·obtain ⟨B, u, s, b, rfl, _⟩ := h; rfl
 ·obtain ⟨B, u, s, b, rfl, D, e, k⟩ := h
  refine ⟨_, (@pss_cons _ _ _ _ _ (@ps_set _ _ (3) _ _ _ _ sc_wait_at.nd rfl (Or.inl rfl) (@pe_fldK _ (K) _ _ _ _ rfl (pv 0) rfl) rfl (by first | exact .inl rfl | exact .inr rfl | assumption)) (@pss_cons _ _ _ _ _ (@ps_fldK _ (K) _ _ _ _ _ _ _ rfl (pv 3) (pv 2) rfl) (@pss_one _ _ _ (@ps_fldK _ (K) _ _ _ _ _ _ _ rfl (pv 0) (pv 1) rfl)))), ?_⟩
  wtm_at "uu"
  refine w_at T D fun H1 D1 F1 => ?_
  wtm_at "uu"
  refine w_state (y := s) T D1 fun H2 D2 F2 => k _ (D2.same ?_) (F1.trans F2)
  unfold waitU
  rw [e]
theorem ok_hear (R : Raw K mg "do_hear" s_do_hear) (T : TxtP K mg CP CM) (G_wait_at : GF P w K mg base "wait_at" ["person", "state", "place"] 1 (sp_waitP CP CM)) : GF P w K mg base "do_hear" ["person", "place"] 2 (spP1 CP CM preB (fun u _ => hearU u)) := by
 refine GF.mk R sc_do_hear (by wtm_at "2") (fun vs H Q E h => ?_) (fun f cdv A outer s H vs Q E hr h => ?_)
 ·obtain ⟨B, u, b, rfl, _⟩ := h; rfl
 ·obtain ⟨B, u, b, rfl, D, ⟨hR, e⟩, k⟩ := h
  refine ⟨_, (@pss_cons _ _ _ _ _ (@ps_set _ _ (2) _ _ _ _ sc_do_hear.nd rfl (Or.inl rfl) (@pe_fldK _ (K) _ _ _ _ rfl (pv 0) rfl) rfl (by first | exact .inl rfl | exact .inr rfl | assumption)) (@pss_one _ _ _ (@ps_if _ _ _ _ _ _ _ _ (@pt_cmpR _ _ _ _ _ _ _ _ op_gt (@pe_callBN _ _ _ _ _ _ _ _ _ (call_len_seqK (K := K) rfl) (by rfl) T.len_ bo_len (@pa_c _ _ _ _ _ (@pe_fldK _ (K) _ _ _ _ rfl (pv 0) rfl) pa_nil rfl) (by decide) (by decide) rfl) pe_int (nomark _)) (@pss_one _ _ _ (@ps_fldK _ (K) _ _ _ _ _ _ _ rfl (pv 2) (pe_bm PySem.F.plainAttrs_list PySem.F.slot_list_pop PySem.F.type_list_pop mt_popAt (@pe_fldK _ (K) _ _ _ _ rfl (pv 0) rfl) (@pa_c _ _ _ _ _ pe_int pa_nil rfl)) rfl)) (@pss_one _ _ _ (@ps_expr _ _ _ _ (@pe_gcallN _ _ _ _ _ _ _ _ _ _ G_wait_at (hr.mono (by decide)) rfl (@pa_c _ _ _ _ _ (pv 0) (@pa_c _ _ _ _ _ (@pe_gstr _ _ _ _ rfl T.HEARS (by decide)) (@pa_c _ _ _ _ _ (pv 1) pa_nil rfl) rfl) rfl) (by decide) rfl) rfl))))), ?_⟩
  wtm_at "uu"
  refine ⟨B.ib, _, rfl, .inl (SqL.of D.l_in), ?_⟩
  rw [List.length_map]
  wtm_at "uu"
  cases hin : u.inb with
  | nil =>
   refine iteD (fun g => by simp at g) fun _ => ?_
   wtm_at "uu"
   refine ⟨B, u, .hears, b, rfl, D, e, fun H1 D1 F1 => k _ (D1.same ?_) F1⟩
   show _ = hearU u
   unfold hearU
   rw [hin]
  | cons x r =>
   refine iteD (fun _ => ?_) (fun g => (g (by rw [List.length_cons]; omega)).elim)
   wtm_at "uu"
   refine ⟨Sx.tyL D.l_in, ?_⟩
   wtm_at "uu"
   refine pop_in D hin fun H1 D1 F1 => ?_
   wtm_at "uu"
   refine w_total T D1 fun H2 D2 F2 => k _ (D2.same ?_) (F1.trans F2)
   show _ = hearU u
   unfold hearU
   rw [hin]
theorem ok_say (R : Raw K mg "do_say" s_do_say) (T : TxtP K mg CP CM) (G_wait_at : GF P w K mg base "wait_at" ["person", "state", "place"] 1 (sp_waitP CP CM)) : GF P w K mg base "do_say" ["person", "place"] 2 (spP1 CP CM preB (fun u _ => sayU u)) := by
 refine GF.mk R sc_do_say (by wtm_at "2") (fun vs H Q E h => ?_) (fun f cdv A outer s H vs Q E hr h => ?_)
 ·obtain ⟨B, u, b, rfl, _⟩ := h; rfl
 ·obtain ⟨B, u, b, rfl, D, ⟨hR, e⟩, k⟩ := h
  refine ⟨_, (@pss_one _ _ _ (@ps_if _ _ _ _ _ _ _ _ (@pt_cmpR _ _ _ _ _ _ _ _ op_lt (@pe_callBN _ _ _ _ _ _ _ _ _ (call_len_seqK (K := K) rfl) (by rfl) T.len_ bo_len (@pa_c _ _ _ _ _ (@pe_fldK _ (K) _ _ _ _ rfl (pv 0) rfl) pa_nil rfl) (by decide) (by decide) rfl) (@pe_gint _ _ _ _ rfl T.MOST_LETTERS (by decide)) (nomark _)) (@pss_one _ _ _ (@ps_expr _ _ _ _ (pe_bm PySem.F.plainAttrs_list PySem.F.slot_list_append PySem.F.type_list_append mt_append (@pe_fldK _ (K) _ _ _ _ rfl (pv 0) rfl) (@pa_c _ _ _ _ _ (@pe_op _ _ _ _ _ _ _ _ op_mod (@pe_fldK _ (K) _ _ _ _ rfl (@pe_fldK _ (K) _ _ _ _ rfl (pv 0) rfl) rfl) (@pe_gint _ _ _ _ rfl T.LETTERS (by decide))) pa_nil rfl)) rfl)) (@pss_one _ _ _ (@ps_expr _ _ _ _ (@pe_gcallN _ _ _ _ _ _ _ _ _ _ G_wait_at (hr.mono (by decide)) rfl (@pa_c _ _ _ _ _ (pv 0) (@pa_c _ _ _ _ _ (@pe_gstr _ _ _ _ rfl T.SAYS (by decide)) (@pa_c _ _ _ _ _ (pv 1) pa_nil rfl) rfl) rfl) (by decide) rfl) rfl)))), ?_⟩
  wtm_at "uu"
  refine ⟨B.ob, _, rfl, .inl (SqL.of D.l_out), ?_⟩
  rw [List.length_map]
  wtm_at "uu"
  refine iteD (fun g => ?_) (fun g => ?_)
  ·wtm_at "uu"
   refine ⟨Sx.tyL D.l_out, ?_⟩
   wtm_at "uu"
   refine app_out D (by omega) fun H1 D1 F1 => k _ (D1.same ?_) F1
   show _ = sayU u
   unfold sayU
   rw [if_neg (by omega)]
  ·wtm_at "uu"
   refine ⟨B, u, .says, b, rfl, D, e, fun H1 D1 F1 => k _ (D1.same ?_) F1⟩
   show _ = sayU u
   unfold sayU
   rw [if_pos (by omega)]
theorem ok_sleep (R : Raw K mg "do_sleep" s_do_sleep) (T : TxtP K mg CP CM) : GF P w K mg base "do_sleep" ["person"] 1 (spP CP CM RgU sleepU) := by
 refine GF.mk R sc_do_sleep (by wtm_at "1") (fun vs H Q E h => ?_) (fun f cdv A outer s H vs Q E hr h => ?_)
 ·obtain ⟨B, u, rfl, _⟩ := h; rfl
 ·obtain ⟨B, u, rfl, D, hR, k⟩ := h
  have t0 := hR.rm.t0
  refine ⟨_, (@pss_cons _ _ _ _ _ (@ps_set _ _ (1) _ _ _ _ sc_do_sleep.nd rfl (Or.inl rfl) (@pe_fldK _ (K) _ _ _ _ rfl (pv 0) rfl) rfl (by first | exact .inl rfl | exact .inr rfl | assumption)) (@pss_one _ _ _ (@ps_if _ _ _ _ _ _ _ _ (@pt_cmpR _ _ _ _ _ _ _ _ op_ne (@pe_fldK _ (K) _ _ _ _ rfl (pv 1) rfl) pe_int (nomark _)) (@pss_cons _ _ _ _ _ (@ps_fldK _ (K) _ _ _ _ _ _ _ rfl (pv 0) (@pe_fldK _ (K) _ _ _ _ rfl (pv 1) rfl) rfl) (@pss_cons _ _ _ _ _ (@ps_fldK _ (K) _ _ _ _ _ _ _ rfl (pv 1) pe_int rfl) (@pss_one _ _ _ (@ps_fldK _ (K) _ _ _ _ _ _ _ rfl (pv 0) (@pe_gstr _ _ _ _ rfl T.SLEEPS (by decide)) rfl)))) pss_nil))), ?_⟩
  wtm_at "uu"
  refine iteN (fun g => ?_) (fun g => ?_)
  ·wtm_at "uu"
   refine w_nap T D fun H1 D1 F1 => ?_
   wtm_at "uu"
   refine w_total T D1 fun H2 D2 F2 => ?_
   wtm_at "uu"
   refine w_state (y := .sleeps) T D2 fun H3 D3 F3 => k _ (D3.same ?_) (F1.trans (F2.trans F3))
   unfold sleepU
   rw [if_pos (by omega)]
  ·refine k _ (D.same ?_) FrL.refl
   unfold sleepU
   rw [if_neg (by omega)]
theorem ok_fetch (R : Raw K mg "fetch_block" s_fetch_block) (T : TxtP K mg CP CM) : GF P w K mg base "fetch_block" ["machine", "block", "place"] 1 (sp_fetch CM) := by
 refine GF.mk R sc_fetch_block (by wtm_at "3") (fun vs H Q E h => ?_) (fun f cdv A outer s H vs Q E hr h => ?_)
 ·obtain ⟨p, c, dx, m, b, wt, pl, rfl, _⟩ := h; rfl
 ·obtain ⟨p, c, dx, m, b, wt, pl, rfl, M, hb, n1, n2, hw, hl, k⟩ := h
  have TM := T.toTxtM
  refine ⟨_, (@pss_one _ _ _ (@ps_for _ _ _ _ _ _ _ _ PassesOwn.never rfl (@pi_range1 _ _ _ _ _ _ rfl T.range_ (@pa_c _ _ _ _ _ (@pe_gint _ _ _ _ rfl T.BLOCK_WORDS (by decide)) pa_nil rfl) rfl) (@pg_name _ _ (3) _ sc_fetch_block.nd rfl (Or.inl rfl) (by first | exact .inl rfl | exact .inr rfl | assumption)) (@pss_one _ _ _ (ps_asg (@pe_ix _ _ _ _ _ _ _ (ix_listK (K := K) rfl) (pv 1) (pv 3) (fun _ _ => rfl)) (pg_sub (@pe_fldK _ (K) _ _ _ _ rfl (pv 0) rfl) (@pe_op _ _ _ _ _ _ _ _ op_mod (@pe_op _ _ _ _ _ _ _ _ op_add (pv 2) (pv 3)) (@pe_gint _ _ _ _ rfl T.PLACES (by decide))) set_list))) (fun _ => rfl))), ?_⟩
  wtm_at "uu"
  refine ⟨16, rfl, by decide, by decide, for_range (n := 16) (fun i σ' H' => ∃ v, σ' = [some (.ref p), some (.ref b), some (.int pl), v] ∧ MAt CM H' p c dx { m with cells := fetchN pl wt i m.cells } ∧ Fr2 H H' p c) ⟨_, rfl, M, Fr2.refl⟩ ?_ ?_⟩
  ·rintro i _ H2 hi ⟨v, rfl, M2, F2⟩
   have hb2 := F2 _ _ hb n1 n2
   wtm_at "uu"
   refine Sx.ixN hb2 (by omega) (by omega) ?_
   wtm_at "uu"
   have e1 : ((0 : Int) + (i : Int)).toNat = i := by omega
   have e2 : (pl + (0 + (i : Int))) % 64 = (pl + (i : Int)) % 64 := by rw [Int.zero_add]
   rw [e1, e2]
   refine Sx.setN M2.cl (by omega) (by show _ < ((fetchN pl wt i m.cells).length : Int); rw [fetchN_len]; omega) ?_
   exact ⟨_, rfl, M2.setC rfl rfl rfl rfl, F2.trans Fr2.updC⟩
  ·rintro _ H2 ⟨v, rfl, M2, F2⟩
   wtm_at "uu"
   exact k _ M2 F2
theorem ok_store (R : Raw K mg "store_block" s_store_block) (T : TxtP K mg CP CM) : GF P w K mg base "store_block" ["machine", "block", "place"] 1 (sp_store CM) := by
 refine GF.mk R sc_store_block (by wtm_at "3") (fun vs H Q E h => ?_) (fun f cdv A outer s H vs Q E hr h => ?_)
 ·obtain ⟨p, c, dx, m, b, wt, pl, rfl, _⟩ := h; rfl
 ·obtain ⟨p, c, dx, m, b, wt, pl, rfl, M, hb, n1, n2, hw, hl, k⟩ := h
  have TM := T.toTxtM
  refine ⟨_, (@pss_one _ _ _ (@ps_for _ _ _ _ _ _ _ _ PassesOwn.never rfl (@pi_range1 _ _ _ _ _ _ rfl T.range_ (@pa_c _ _ _ _ _ (@pe_gint _ _ _ _ rfl T.BLOCK_WORDS (by decide)) pa_nil rfl) rfl) (@pg_name _ _ (3) _ sc_store_block.nd rfl (Or.inl rfl) (by first | exact .inl rfl | exact .inr rfl | assumption)) (@pss_one _ _ _ (ps_asg (@pe_ix _ _ _ _ _ _ _ (ix_listK (K := K) rfl) (@pe_fldK _ (K) _ _ _ _ rfl (pv 0) rfl) (@pe_op _ _ _ _ _ _ _ _ op_mod (@pe_op _ _ _ _ _ _ _ _ op_add (pv 2) (pv 3)) (@pe_gint _ _ _ _ rfl T.PLACES (by decide))) (fun _ _ => rfl)) (pg_sub (pv 1) (pv 3) set_list))) (fun _ => rfl))), ?_⟩
  wtm_at "uu"
  refine ⟨16, rfl, by decide, by decide, for_range (n := 16) (fun i σ' H' => ∃ v, σ' = [some (.ref p), some (.ref b), some (.int pl), v] ∧ H' = upd H b (.lst ((storeN pl m.cells i wt).map V.int))) ⟨_, rfl, ?_⟩ ?_ ?_⟩
  ·exact (upd_self hb).symm
  ·rintro i _ H2 hi ⟨v, rfl, rfl⟩
   have M2 : MAt CM (upd H b (.lst ((storeN pl m.cells i wt).map V.int))) p c dx m := ⟨by rw [upd_ne n1.symm]; exact M.ob, by rw [upd_ne n2.symm]; exact M.cl⟩
   wtm_at "uu"
   refine Sx.ixN M2.cl (by omega) (by omega) ?_
   wtm_at "uu"
   have e1 : ((0 : Int) + (i : Int)).toNat = i := by omega
   have e2 : (pl + (0 + (i : Int))) % 64 = (pl + (i : Int)) % 64 := by rw [Int.zero_add]
   rw [e2]
   refine Sx.setN upd_same (by omega) (by rw [storeN_len]; omega) ?_
   rw [e1, upd_upd]
   exact ⟨_, rfl, rfl⟩
  ·rintro _ H2 ⟨v, rfl, e⟩
   wtm_at "uu"
   exact k _ e
theorem ok_block (R : Raw K mg "do_with_block" s_do_with_block) (T : TxtP K mg CP CM) (G_move_on : GF P w K mg base "move_on" ["machine"] 2 (spM CM (fun _ => True) moveOn)) (G_fetch_block : GF P w K mg base "fetch_block" ["machine", "block", "place"] 1 (sp_fetch CM)) (G_store_block : GF P w K mg base "store_block" ["machine", "block", "place"] 1 (sp_store CM)) :
  GF P w K mg base "do_with_block" ["person", "asked"] 3 (spP1 CP CM (fun u a => RgU u ∧ (a = 5 ∨ a = 6)) carryU) := by
 refine GF.mk R sc_do_with_block (by wtm_at "2") (fun vs H Q E h => ?_) (fun f cdv A outer s H vs Q E hr h => ?_)
 ·obtain ⟨B, u, a, rfl, _⟩ := h; rfl
 ·obtain ⟨B, u, pl, rfl, D, ⟨hR, hp⟩, k⟩ := h
  have hm := hR.rm
  have hlen := hm.len
  have a0 := hm.a0
  have a1 := hm.a1
  have t0 := hm.t0
  have hbl := hR.bl
  refine ⟨_, (@pss_cons _ _ _ _ _ (@ps_set _ _ (2) _ _ _ _ sc_do_with_block.nd rfl (Or.inl rfl) (@pe_fldK _ (K) _ _ _ _ rfl (pv 0) rfl) rfl (by first | exact .inl rfl | exact .inr rfl | assumption)) (@pss_cons _ _ _ _ _ (@ps_set _ _ (3) _ _ _ _ sc_do_with_block.nd rfl (Or.inl rfl) (@pe_op _ _ _ _ _ _ _ _ op_mod (@pe_ix _ _ _ _ _ _ _ (ix_listK (K := K) rfl) (@pe_fldK _ (K) _ _ _ _ rfl (pv 2) rfl) (@pe_fldK _ (K) _ _ _ _ rfl (pv 2) rfl) (fun _ _ => rfl)) (@pe_gint _ _ _ _ rfl T.PLACES (by decide))) rfl (by first | exact .inl rfl | exact .inr rfl | assumption)) (@pss_cons _ _ _ _ _ (@ps_expr _ _ _ _ (@pe_gcallN _ _ _ _ _ _ _ _ _ _ G_move_on (hr.mono (by decide)) rfl (@pa_c _ _ _ _ _ (pv 2) pa_nil rfl) (by decide) rfl) rfl) (@pss_cons _ _ _ _ _ (@ps_if _ _ _ _ _ _ _ _ (@pt_cmpR _ _ _ _ _ _ _ _ op_ge (@pe_fldK _ (K) _ _ _ _ rfl (pv 2) rfl) (@pe_gint _ _ _ _ rfl T.BLOCKS (by decide)) (nomark _)) (@pss_cons _ _ _ _ _ (@ps_fldK _ (K) _ _ _ _ _ _ _ rfl (pv 2) (@pe_op _ _ _ _ _ _ _ _ op_sub (@pe_gint _ _ _ _ rfl T.WORDS (by decide)) pe_int) rfl) (@pss_one _ _ _ ps_retN)) pss_nil) (@pss_cons _ _ _ _ _ (@ps_set _ _ (4) _ _ _ _ sc_do_with_block.nd rfl (Or.inl rfl) (@pe_ix _ _ _ _ _ _ _ (ix_listK (K := K) rfl) (@pe_fldK _ (K) _ _ _ _ rfl (pv 0) rfl) (@pe_fldK _ (K) _ _ _ _ rfl (pv 2) rfl) (fun _ _ => rfl)) rfl (by first | exact .inl rfl | exact .inr rfl | assumption)) (@pss_cons _ _ _ _ _ (@ps_cut _ _ _ (@ps_if _ _ _ _ _ _ _ _ (@pt_cmpR _ _ _ _ _ _ _ _ op_eq (pv 1) (@pe_gint _ _ _ _ rfl T.FETCH (by decide)) (nomark _)) (@pss_one _ _ _ (@ps_expr _ _ _ _ (@pe_gcallN _ _ _ _ _ _ _ _ _ _ G_fetch_block (hr.mono (by decide)) rfl (@pa_c _ _ _ _ _ (pv 2) (@pa_c _ _ _ _ _ (pv 4) (@pa_c _ _ _ _ _ (pv 3) pa_nil rfl) rfl) rfl) (by decide) rfl) rfl)) (@pss_one _ _ _ (@ps_expr _ _ _ _ (@pe_gcallN _ _ _ _ _ _ _ _ _ _ G_store_block (hr.mono (by decide)) rfl (@pa_c _ _ _ _ _ (pv 2) (@pa_c _ _ _ _ _ (pv 4) (@pa_c _ _ _ _ _ (pv 3) pa_nil rfl) rfl) rfl) (by decide) rfl) rfl)))) (@pss_one _ _ _ (@ps_fldK _ (K) _ _ _ _ _ _ _ rfl (pv 2) pe_int rfl)))))))), ?_⟩
  wtm_at "uu"
  refine Sx.ixN D.m.cl a0 (by omega) ?_
  have ec : u.m.cells.getD u.m.at_.toNat 0 = cellM u.m u.m.at_ := rfl
  rw [ec]
  wtm_at "uu"
  refine ⟨B.mp, B.c, B.dm, u.m, rfl, D.m, trivial, fun H1 M1 F1 => ?_⟩
  have D1 : PAt CP CM H1 B (pastU u) := D.setM M1 F1
  have F1' : FrL H H1 (foot B) := frM F1
  generalize hbb : cellM u.m u.m.at_ % 64 = b
  wtm_at "uu"
  refine iteD (fun g => ?_) (fun g => ?_)
  ·have g' : 4 ≤ u.m.total := g
   wtm_at "uu"
   refine w_total T D1 fun H2 D2 F2 => ?_
   wtm_at "uu"
   refine k _ (D2.same ?_) (F1'.trans F2)
   unfold carryU
   dsimp only
   rw [if_pos (by omega)]
   rfl
  have g' : ¬ 4 ≤ u.m.total := g
  have g3 : ¬ 3 < u.m.total := by omega
  have ht4 : u.m.total.toNat < 4 := by omega
  have hbs : B.bs.length = 4 := by rw [D.blk.1]; exact hbl
  obtain ⟨bt, hbt⟩ : ∃ bt, B.bs[u.m.total.toNat]? = some bt := ⟨B.bs[u.m.total.toNat]'(by omega), List.getElem?_eq_getElem (by omega)⟩
  obtain ⟨wt, hwt⟩ : ∃ wt, u.blk[u.m.total.toNat]? = some wt := ⟨u.blk[u.m.total.toNat]'(by omega), List.getElem?_eq_getElem (by omega)⟩
  have hwl := hR.bw wt (List.mem_of_getElem? hwt)
  have ewt : u.blk.getD u.m.total.toNat [] = wt := by rw [List.getD_eq_getElem?_getD, hwt]; rfl
  have hd : bt ∈ foot B := f_bs (List.mem_of_getElem? hbt)
  wtm_at "uu"
  refine Sx.ixL D1.l_blk (v := .ref bt) ?_ ?_
  ·show atI (B.bs.map V.ref) u.m.total = some (.ref bt)
   have e : u.m.total = ((u.m.total.toNat : Nat) : Int) := by omega
   rw [e]
   exact atI_nat (by rw [List.getElem?_map, hbt]; rfl)
  wtm_at "uu"
  generalize htt : u.m.total.toNat = tn at *
  have n1 : bt ≠ B.mp := D.nb D.mp_bs hbt
  have n2 : bt ≠ B.c := D.nb D.c_bs hbt
  have hb1 : H1 bt = some (.lst (wt.map V.int)) := D1.blk.2 _ _ _ hbt hwt
  refine Sx.cut (fun σ' H' => σ' = [some (.ref B.p), some (.int pl), some (.ref B.mp), some (.int b), some (.ref bt)] ∧ PAt CP CM H' B (if pl = 5 then { pastU u with m := { (pastU u).m with cells := fetchN b wt 16 u.m.cells } } else { pastU u with blk := u.blk.set tn (storeN b u.m.cells 16 wt) }) ∧ FrL H H' (foot B)) ?_ ?_
  ·wtm_at "uu"
   refine iteD (fun g5 => ?_) (fun g5 => ?_)
   ·wtm_at "uu"
    refine ⟨B.mp, B.c, B.dm, (pastU u).m, bt, wt, b, rfl, D1.m, hb1, n1, n2, hwl, hlen, fun H2 M2 F2 => ⟨rfl, (D1.setM M2 F2).same ?_, F1'.trans (frM F2)⟩⟩
    rw [if_pos g5]
    rfl
   ·wtm_at "uu"
    refine ⟨B.mp, B.c, B.dm, (pastU u).m, bt, wt, b, rfl, D1.m, hb1, n1, n2, hwl, hlen, fun H2 e2 => ?_⟩
    subst e2
    refine ⟨rfl, (D1.setB hbt hwt).same ?_, F1'.trans (FrL.upd hd)⟩
    rw [if_neg g5]
    rfl
  rintro _ H2 ⟨rfl, D2, F2⟩
  wtm_at "uu"
  refine w_total T D2 fun H3 D3 F3 => ?_
  refine k _ (D3.same ?_) (F2.trans F3)
  unfold carryU
  dsimp only
  rw [if_neg g3, hbb, htt, ewt]
  split <;> rfl
theorem ok_ask (R : Raw K mg "do_ask" s_do_ask) (T : TxtP K mg CP CM) (G_skip_if : GF P w K mg base "skip_if" ["machine", "so"] 3 (sp_skip CM)) (G_do_hear : GF P w K mg base "do_hear" ["person", "place"] 2 (spP1 CP CM preB (fun u _ => hearU u))) (G_do_say : GF P w K mg base "do_say" ["person", "place"] 2 (spP1 CP CM preB (fun u _ => sayU u)))
  (G_do_sleep : GF P w K mg base "do_sleep" ["person"] 1 (spP CP CM RgU sleepU)) (G_do_with_block : GF P w K mg base "do_with_block" ["person", "asked"] 3 (spP1 CP CM (fun u a => RgU u ∧ (a = 5 ∨ a = 6)) carryU)) :
  GF P w K mg base "do_ask" ["person", "asked", "place"] 4 (spP2 CP CM (fun u _ b => preB u b) askU) := by
 refine GF.mk R sc_do_ask (by wtm_at "3") (fun vs H Q E h => ?_) (fun f cdv A outer s H vs Q E hr h => ?_)
 ·obtain ⟨B, u, a, b, rfl, _⟩ := h; rfl
 ·obtain ⟨B, u, a, b, rfl, D, hB, k⟩ := h
  have hR := hB.1
  have hol := hR.outl
  refine ⟨_, (@pss_cons _ _ _ _ _ (@ps_set _ _ (3) _ _ _ _ sc_do_ask.nd rfl (Or.inl rfl) (@pe_fldK _ (K) _ _ _ _ rfl (pv 0) rfl) rfl (by first | exact .inl rfl | exact .inr rfl | assumption)) (@pss_one _ _ _ (@ps_if _ _ _ _ _ _ _ _ (@pt_cmpR _ _ _ _ _ _ _ _ op_eq (pv 1) (@pe_gint _ _ _ _ rfl T.HEARD (by decide)) (nomark _)) (@pss_one _ _ _ (@ps_expr _ _ _ _ (@pe_gcallN _ _ _ _ _ _ _ _ _ _ G_skip_if (hr.mono (by decide)) rfl (@pa_c _ _ _ _ _ (pv 3) (@pa_c _ _ _ _ _ (@pe_cmpR _ _ _ _ _ _ _ _ op_gt (@pe_callBN _ _ _ _ _ _ _ _ _ (call_len_seqK (K := K) rfl) (by rfl) T.len_ bo_len (@pa_c _ _ _ _ _ (@pe_fldK _ (K) _ _ _ _ rfl (pv 0) rfl) pa_nil rfl) (by decide) (by decide) rfl) pe_int (nomark _)) pa_nil rfl) rfl) (by decide) rfl) rfl)) (@pss_one _ _ _ (@ps_if _ _ _ _ _ _ _ _ (@pt_cmpR _ _ _ _ _ _ _ _ op_eq (pv 1) (@pe_gint _ _ _ _ rfl T.HEAR (by decide)) (nomark _)) (@pss_one _ _ _ (@ps_expr _ _ _ _ (@pe_gcallN _ _ _ _ _ _ _ _ _ _ G_do_hear (hr.mono (by decide)) rfl (@pa_c _ _ _ _ _ (pv 0) (@pa_c _ _ _ _ _ (pv 2) pa_nil rfl) rfl) (by decide) rfl) rfl)) (@pss_one _ _ _ (@ps_if _ _ _ _ _ _ _ _ (@pt_cmpR _ _ _ _ _ _ _ _ op_eq (pv 1) (@pe_gint _ _ _ _ rfl T.ROOM (by decide)) (nomark _)) (@pss_one _ _ _ (@ps_expr _ _ _ _ (@pe_gcallN _ _ _ _ _ _ _ _ _ _ G_skip_if (hr.mono (by decide)) rfl (@pa_c _ _ _ _ _ (pv 3) (@pa_c _ _ _ _ _ (@pe_cmpR _ _ _ _ _ _ _ _ op_lt (@pe_callBN _ _ _ _ _ _ _ _ _ (call_len_seqK (K := K) rfl) (by rfl) T.len_ bo_len (@pa_c _ _ _ _ _ (@pe_fldK _ (K) _ _ _ _ rfl (pv 0) rfl) pa_nil rfl) (by decide) (by decide) rfl) (@pe_gint _ _ _ _ rfl T.MOST_LETTERS (by decide)) (nomark _)) pa_nil rfl) rfl) (by decide) rfl) rfl)) (@pss_one _ _ _ (@ps_if _ _ _ _ _ _ _ _ (@pt_cmpR _ _ _ _ _ _ _ _ op_eq (pv 1) (@pe_gint _ _ _ _ rfl T.SAY (by decide)) (nomark _)) (@pss_one _ _ _ (@ps_expr _ _ _ _ (@pe_gcallN _ _ _ _ _ _ _ _ _ _ G_do_say (hr.mono (by decide)) rfl (@pa_c _ _ _ _ _ (pv 0) (@pa_c _ _ _ _ _ (pv 2) pa_nil rfl) rfl) (by decide) rfl) rfl)) (@pss_one _ _ _ (@ps_if _ _ _ _ _ _ _ _ (@pt_cmpR _ _ _ _ _ _ _ _ op_eq (pv 1) (@pe_gint _ _ _ _ rfl T.SLEEP (by decide)) (nomark _)) (@pss_one _ _ _ (@ps_expr _ _ _ _ (@pe_gcallN _ _ _ _ _ _ _ _ _ _ G_do_sleep (hr.mono (by decide)) rfl (@pa_c _ _ _ _ _ (pv 0) pa_nil rfl) (by decide) rfl) rfl)) (@pss_one _ _ _ (@ps_if _ _ _ _ _ _ _ _ (@PW.pt _ _ _ (@pw_or _ _ _ _ _ _ _ (@pt_cmpR _ _ _ _ _ _ _ _ op_eq (pv 1) (@pe_gint _ _ _ _ rfl T.FETCH (by decide)) (nomark _)) (@pw_or1 _ _ _ _ (@pt_cmpR _ _ _ _ _ _ _ _ op_eq (pv 1) (@pe_gint _ _ _ _ rfl T.STORE (by decide)) (nomark _))))) (@pss_one _ _ _ (@ps_expr _ _ _ _ (@pe_gcallN _ _ _ _ _ _ _ _ _ _ G_do_with_block (hr.mono (by decide)) rfl (@pa_c _ _ _ _ _ (pv 0) (@pa_c _ _ _ _ _ (pv 1) pa_nil rfl) rfl) (by decide) rfl) rfl)) (@pss_one _ _ _ (@ps_if _ _ _ _ _ _ _ _ (@pt_cmpR _ _ _ _ _ _ _ _ op_eq (pv 1) (@pe_gint _ _ _ _ rfl T.STOP (by decide)) (nomark _)) (@pss_one _ _ _ (@ps_fldK _ (K) _ _ _ _ _ _ _ rfl (pv 0) (@pe_gstr _ _ _ _ rfl T.STOPPED (by decide)) rfl)) (@pss_one _ _ _ (@ps_if _ _ _ _ _ _ _ _ (@pt_cmpR _ _ _ _ _ _ _ _ op_eq (pv 1) (@pe_gint _ _ _ _ rfl T.LOOK (by decide)) (nomark _)) (@pss_one _ _ _ (@ps_fldK _ (K) _ _ _ _ _ _ _ rfl (pv 3) (@pe_fldK _ (K) _ _ _ _ rfl (pv 0) rfl) rfl)) pss_nil))))))))))))))))), ?_⟩
  wtm_at "uu"
  unfold askU at k
  refine iteD (fun g => ?_) (fun g0 => ?_)
  ·rw [if_pos g] at k
   wtm_at "uu"
   refine ⟨B.ib, _, rfl, .inl (SqL.of D.l_in), ?_⟩
   rw [List.length_map]
   wtm_at "uu"
   refine ⟨B.mp, B.c, B.dm, u.m, _, rfl, D.m, fun H1 M1 F1 => k _ ((D.setM M1 F1).same ?_) (frM F1)⟩
   by_cases z : u.inb = []
   ·have : decide ((0 : Int) < ((u.inb.length : Nat) : Int)) = false := decide_eq_false (by rw [z]; decide)
    rw [this, if_neg Bool.false_ne_true, if_pos z]
   ·have : decide ((0 : Int) < ((u.inb.length : Nat) : Int)) = true := decide_eq_true (by have := List.length_pos_iff.mpr z; omega)
    rw [this, if_pos rfl, if_neg z]
    rfl
  rw [if_neg g0] at k
  wtm_at "uu"
  refine iteD (fun g => ?_) (fun g1 => ?_)
  ·rw [if_pos g] at k
   wtm_at "uu"
   exact ⟨B, u, b, rfl, D, hB, k⟩
  rw [if_neg g1] at k
  wtm_at "uu"
  refine iteD (fun g => ?_) (fun g2 => ?_)
  ·rw [if_pos g] at k
   wtm_at "uu"
   refine ⟨B.ob, _, rfl, .inl (SqL.of D.l_out), ?_⟩
   rw [List.length_map]
   wtm_at "uu"
   refine ⟨B.mp, B.c, B.dm, u.m, _, rfl, D.m, fun H1 M1 F1 => k _ ((D.setM M1 F1).same ?_) (frM F1)⟩
   by_cases z : u.outb.length < 16
   ·have : decide (((u.outb.length : Nat) : Int) < 16) = true := decide_eq_true (by omega)
    rw [this, if_pos rfl, if_pos z]
    rfl
   ·have : decide (((u.outb.length : Nat) : Int) < 16) = false := decide_eq_false (by omega)
    rw [this, if_neg Bool.false_ne_true, if_neg z]
  rw [if_neg g2] at k
  wtm_at "uu"
  refine iteD (fun g => ?_) (fun g3 => ?_)
  ·rw [if_pos g] at k
   wtm_at "uu"
   exact ⟨B, u, b, rfl, D, hB, k⟩
  rw [if_neg g3] at k
  wtm_at "uu"
  refine iteD (fun g => ?_) (fun g4 => ?_)
  ·rw [if_pos g] at k
   wtm_at "uu"
   exact ⟨B, u, rfl, D, hR, k⟩
  rw [if_neg g4] at k
  have blk : (a = 5 ∨ a = 6) → spP1 CP CM (fun u a => RgU u ∧ (a = 5 ∨ a = 6)) carryU [.ref B.p, .int a] H Q E := fun z => by
   rw [if_pos z] at k
   exact ⟨B, u, a, rfl, D, ⟨hR, z⟩, k⟩
  have rest : ¬ (a = 5 ∨ a = 6) → ∀ H', PAt CP CM H' B (if a = 7 then { u with st := .stopped } else if a = 8 then setT u u.sw else u) → FrL H H' (foot B) → Q .non H' := fun z => by
   rw [if_neg z] at k
   exact k
  wtm_at "uu"
  refine iteD (fun g => ?_) (fun g5 => ?_)
  ·wtm_at "uu"
   exact blk (.inl g)
  wtm_at "uu"
  refine iteD (fun g => ?_) (fun g6 => ?_)
  ·wtm_at "uu"
   exact blk (.inr g)
  have k := rest (fun z => z.elim g5 g6)
  wtm_at "uu"
  refine iteD (fun g => ?_) (fun g7 => ?_)
  ·rw [if_pos g] at k
   wtm_at "uu"
   exact w_state (y := .stopped) T D k
  rw [if_neg g7] at k
  wtm_at "uu"
  refine iteD (fun g => ?_) (fun g8 => ?_)
  ·rw [if_pos g] at k
   wtm_at "uu"
   exact w_total T D k
  rw [if_neg g8] at k
  exact k _ D FrL.refl
theorem ok_step (R : Raw K mg "take_step" s_take_step) (T : TxtP K mg CP CM) (G_deed : GF P w K mg base "deed" ["machine"] 5 (sp_deed CM)) (G_do_ask : GF P w K mg base "do_ask" ["person", "asked", "place"] 4 (spP2 CP CM (fun u _ b => preB u b) askU)) : GF P w K mg base "take_step" ["person"] 6 (spP CP CM RgU stepU) := by
 refine GF.mk R sc_take_step (by wtm_at "1") (fun vs H Q E h => ?_) (fun f cdv A outer s H vs Q E hr h => ?_)
 ·obtain ⟨B, u, rfl, _⟩ := h; rfl
 ·obtain ⟨B, u, rfl, D, hR, k⟩ := h
  have hm := hR.rm
  have a0 := hm.a0
  have a1 := hm.a1
  refine ⟨_, (@pss_one _ _ _ (@ps_if _ _ _ _ _ _ _ _ (@pt_cmpR _ _ _ _ _ _ _ _ op_eq (@pe_fldK _ (K) _ _ _ _ rfl (pv 0) rfl) (@pe_gstr _ _ _ _ rfl T.READY (by decide)) (nomark _)) (@pss_cons _ _ _ _ _ (@ps_fldK _ (K) _ _ _ _ _ _ _ rfl (pv 0) (@pe_op _ _ _ _ _ _ _ _ op_add (@pe_fldK _ (K) _ _ _ _ rfl (pv 0) rfl) pe_int) rfl) (@pss_cons _ _ _ _ _ (@ps_set _ _ (1) _ _ _ _ sc_take_step.nd rfl (Or.inl rfl) (@pe_fldK _ (K) _ _ _ _ rfl (@pe_fldK _ (K) _ _ _ _ rfl (pv 0) rfl) rfl) rfl (by first | exact .inl rfl | exact .inr rfl | assumption)) (@pss_cons _ _ _ _ _ (@ps_set _ _ (2) _ _ _ _ sc_take_step.nd rfl (Or.inl rfl) (@pe_gcallN _ _ _ _ _ _ _ _ _ _ G_deed (hr.mono (by decide)) rfl (@pa_c _ _ _ _ _ (@pe_fldK _ (K) _ _ _ _ rfl (pv 0) rfl) pa_nil rfl) (by decide) rfl) rfl (by first | exact .inl rfl | exact .inr rfl | assumption)) (@pss_one _ _ _ (@ps_if _ _ _ _ _ _ _ _ (@pt_cmpR _ _ _ _ _ _ _ _ op_notN (pv 2) pe_non (nomark _)) (@pss_one _ _ _ (@ps_expr _ _ _ _ (@pe_gcallN _ _ _ _ _ _ _ _ _ _ G_do_ask (hr.mono (by decide)) rfl (@pa_c _ _ _ _ _ (pv 0) (@pa_c _ _ _ _ _ (pv 2) (@pa_c _ _ _ _ _ (pv 1) pa_nil rfl) rfl) rfl) (by decide) rfl) rfl)) pss_nil))))) pss_nil)), ?_⟩
  wtm_at "uu"
  refine iteD (fun g => ?_) (fun g => ?_)
  ·have g' : u.st = .ready := St5.inj.mp g
   have es : stepU u = deedU u := by unfold stepU; rw [if_pos g']
   rw [es] at k
   wtm_at "uu"
   refine w_done T D fun H1 D1 F1 => ?_
   wtm_at "uu"
   refine ⟨B.mp, B.c, B.dm, u.m, rfl, D1.m, ⟨hm.len, a0, a1⟩, fun H2 M2 F2 => ?_⟩
   have D2 : PAt CP CM H2 B { u with done := u.done + 1, m := (deedM u.m).2 } := D1.setM M2 F2
   have F02 : FrL H H2 (foot B) := F1.trans (frM F2)
   cases ha : (deedM u.m).1 with
   | none =>
    wtm_at "uu"
    refine iteNS rfl ?_
    refine k _ (D2.same ?_) F02
    unfold deedU
    dsimp only
    rw [ha]
   | some p =>
    wtm_at "uu"
    refine iteN (fun _ => ?_) (fun z => by cases z)
    wtm_at "uu"
    refine ⟨B, _, p, u.m.at_, rfl, D2, ⟨hR.deed, ?_⟩, fun H3 D3 F3 => k _ (D3.same ?_) (F02.trans F3)⟩
    ·show u.m.at_ = ((deedM u.m).2.at_ + 63) % 64
     rw [deed_ask2 ha]
     show u.m.at_ = ((u.m.at_ + 1) % 64 + 63) % 64
     omega
    ·unfold deedU
     dsimp only
     rw [ha]
  ·have g' : ¬ u.st = .ready := fun z => g (St5.inj.mpr z)
   refine k _ (D.same ?_) FrL.refl
   unfold stepU
   rw [if_neg g']
def sp_happenP (K : PySem.W.Frag) (CP CM : Addr) : Sp := fun vs H Q _ => ∃ A u e ev, vs = [.ref A.p, .ref e] ∧ PAt CP CM H A u ∧ RgU u ∧ SqT K H e (evV ev) ∧ ∀ H', PAt CP CM H' A (happenU u ev) → FrL H H' (foot A) → Q .non H'
theorem ok_happen (R : Raw K mg "happen" s_happen) (T : TxtP K mg CP CM) (G_take_start : GF P w K mg base "take_start" ["person", "place"] 1 (spP1 CP CM (fun _ _ => True) startU)) (G_take_key : GF P w K mg base "take_key" ["person", "letter"] 1 (spP1 CP CM (fun u _ => RgU u) keyU))
  (G_take_tick : GF P w K mg base "take_tick" ["person"] 1 (spP CP CM RgU tickU)) (G_take_step : GF P w K mg base "take_step" ["person"] 6 (spP CP CM RgU stepU)) : GF P w K mg base "happen" ["person", "event"] 7 (sp_happenP K CP CM) := by
 refine GF.mk R sc_happen (by wtm_at "2") (fun vs H Q E h => ?_) (fun f cdv A outer s H vs Q E hr h => ?_)
 ·obtain ⟨B, u, e, ev, rfl, _⟩ := h; rfl
 ·obtain ⟨B, u, e, ev, rfl, D, hR, hS, k⟩ := h
  refine ⟨_, (@pss_cons _ _ _ _ _ (@ps_set _ _ (2) _ _ _ _ sc_happen.nd rfl (Or.inl rfl) (@pe_ix _ _ _ _ _ _ _ (ix_tupK (K := K) rfl) (pv 1) pe_int (fun _ _ => rfl)) rfl (by first | exact .inl rfl | exact .inr rfl | assumption)) (@pss_one _ _ _ (@ps_if _ _ _ _ _ _ _ _ (@pt_cmpR _ _ _ _ _ _ _ _ op_eq (pv 2) pe_str (nomark _)) (@pss_one _ _ _ (@ps_expr _ _ _ _ (@pe_gcallN _ _ _ _ _ _ _ _ _ _ G_take_start (hr.mono (by decide)) rfl (@pa_c _ _ _ _ _ (pv 0) (@pa_c _ _ _ _ _ (@pe_ix _ _ _ _ _ _ _ (ix_tupK (K := K) rfl) (pv 1) pe_int (fun _ _ => rfl)) pa_nil rfl) rfl) (by decide) rfl) rfl)) (@pss_one _ _ _ (@ps_if _ _ _ _ _ _ _ _ (@pt_cmpR _ _ _ _ _ _ _ _ op_eq (pv 2) pe_str (nomark _)) (@pss_one _ _ _ (@ps_expr _ _ _ _ (@pe_gcallN _ _ _ _ _ _ _ _ _ _ G_take_key (hr.mono (by decide)) rfl (@pa_c _ _ _ _ _ (pv 0) (@pa_c _ _ _ _ _ (@pe_ix _ _ _ _ _ _ _ (ix_tupK (K := K) rfl) (pv 1) pe_int (fun _ _ => rfl)) pa_nil rfl) rfl) (by decide) rfl) rfl)) (@pss_one _ _ _ (@ps_if _ _ _ _ _ _ _ _ (@pt_cmpR _ _ _ _ _ _ _ _ op_eq (pv 2) pe_str (nomark _)) (@pss_one _ _ _ (@ps_expr _ _ _ _ (@pe_gcallN _ _ _ _ _ _ _ _ _ _ G_take_tick (hr.mono (by decide)) rfl (@pa_c _ _ _ _ _ (pv 0) pa_nil rfl) (by decide) rfl) rfl)) (@pss_one _ _ _ (@ps_if _ _ _ _ _ _ _ _ (@pt_cmpR _ _ _ _ _ _ _ _ op_eq (pv 2) pe_str (nomark _)) (@pss_one _ _ _ (@ps_expr _ _ _ _ (@pe_gcallN _ _ _ _ _ _ _ _ _ _ G_take_step (hr.mono (by decide)) rfl (@pa_c _ _ _ _ _ (pv 0) pa_nil rfl) (by decide) rfl) rfl)) pss_nil))))))))), ?_⟩
  have n1 : ¬ ("key" : Str) = "tick" := by decide +kernel
  have n2 : ¬ ("key" : Str) = "start" := by decide +kernel
  have n3 : ¬ ("key" : Str) = "step" := by decide +kernel
  have n4 : ¬ ("tick" : Str) = "start" := by decide +kernel
  have n5 : ¬ ("tick" : Str) = "step" := by decide +kernel
  have n6 : ¬ ("start" : Str) = "step" := by decide +kernel
  cases ev with
  | start p =>
   wtm_at "uu"
   refine ixTS (i := 0) hS rfl ?_
   wtm_at "uu"
   refine iteD (fun _ => ?_) (fun z => (z rfl).elim)
   wtm_at "uu"
   refine ixTS (i := 1) hS rfl ?_
   wtm_at "uu"
   exact ⟨B, u, p, rfl, D, trivial, k⟩
  | key l =>
   wtm_at "uu"
   refine ixTS (i := 0) hS rfl ?_
   wtm_at "uu"
   refine iteD (fun z => (n2 z).elim) (fun _ => ?_)
   wtm_at "uu"
   refine iteD (fun _ => ?_) (fun z => (z rfl).elim)
   wtm_at "uu"
   refine ixTS (i := 1) hS rfl ?_
   wtm_at "uu"
   exact ⟨B, u, l, rfl, D, hR, k⟩
  | tick =>
   wtm_at "uu"
   refine ixTS (i := 0) hS rfl ?_
   wtm_at "uu"
   refine iteD (fun z => (n4 z).elim) (fun _ => ?_)
   wtm_at "uu"
   refine iteD (fun z => (n1 z.symm).elim) (fun _ => ?_)
   wtm_at "uu"
   refine iteD (fun _ => ?_) (fun z => (z rfl).elim)
   wtm_at "uu"
   exact ⟨B, u, rfl, D, hR, k⟩
  | step =>
   wtm_at "uu"
   refine ixTS (i := 0) hS rfl ?_
   wtm_at "uu"
   refine iteD (fun z => (n6 z.symm).elim) (fun _ => ?_)
   wtm_at "uu"
   refine iteD (fun z => (n3 z.symm).elim) (fun _ => ?_)
   wtm_at "uu"
   refine iteD (fun z => (n5 z.symm).elim) (fun _ => ?_)
   wtm_at "uu"
   refine iteD (fun _ => ?_) (fun z => (z rfl).elim)
   wtm_at "uu"
   exact ⟨B, u, rfl, D, hR, k⟩
end
end Pp
namespace Pp
open PySem L2 Mir Pr Tx Lw Dm Us Du
def sp_initT (C : Addr) (K : PySem.W.Frag) : Sp := fun vs H Q _ => ∃ (p dx l : Addr) (ns : List Int) (t k a : Int), vs = [.ref p, .ref l, .int t, .int k, .int a] ∧ H p = some (.ins C dx []) ∧ (SqL K H l (ns.map V.int) ∨ SqT K H l (ns.map V.int)) ∧ ns.length ≤ 1000 ∧
 ∀ c H', H c = none → MAt C H' p c dx ⟨ns, t, k, a⟩ → (∀ b o, H b = some o → b ≠ p → H' b = some o) → Q .non H'
def sp_initP (K : PySem.W.Frag) (CP CM : Addr) : Sp := fun vs H Q _ => ∃ (p dx l : Addr) (ns : List Int) (sw : Int), vs = [.ref p, .ref l, .int sw] ∧ H p = some (.ins CP dx []) ∧ (SqL K H l (ns.map V.int) ∨ SqT K H l (ns.map V.int)) ∧ ns.length ≤ 1000 ∧
 ∀ A H', A.p = p → PAt CP CM H' A (newU ns sw) → (∀ x ∈ foot A, x = p ∨ H x = none) → FrL H H' [p] → Q .non H'
theorem mem1 {p : Addr} : p ∈ [p] := List.mem_cons_self
theorem nmem1 {x p : Addr} (h : x ≠ p) : x ∉ [p] := fun z => h (List.mem_singleton.mp z)
theorem two {H : Hp} {p a x : Addr} {o1 o2 v : HO} (h : H x = some v) (hx : x ≠ p) (na : H a = none) : (upd (upd H a o1) p o2) x = some v := by rw [upd_ne hx, upd_ne (ne_of_none h na)]; exact h
theorem twoA {H : Hp} {p a : Addr} {o1 o2 : HO} (na : a ≠ p) : (upd (upd H a o1) p o2) a = some o1 := by rw [upd_ne na, upd_same]
theorem SqLT.same {K : PySem.W.Frag} {H H' : Hp} {l : Addr} {xs : List V} (s : Same H H') (h : SqL K H l xs ∨ SqT K H l xs) : SqL K H' l xs ∨ SqT K H' l xs := h.elim (fun z => .inl (s.seq z)) (fun z => .inr (s.seqT z))
theorem make_mT {K : PySem.W.Frag} {C l : Addr} {H : Hp} {c1 : List Int} {t k a : Int} {Q : Addr → Hp → Prop} (hS : SqL K H l (c1.map V.int) ∨ SqT K H l (c1.map V.int)) (hlen : c1.length ≤ 1000)
  (q : ∀ x c dx H', H x = none → H c = none → MAt C H' x c dx ⟨c1, t, k, a⟩ → Same H H' → Q x H') :
  ∀ x dx, H x = none → H dx = none → dx ≠ x → sp_initT C K (.ref x :: ([.ref l, .int t, .int k, .int a] ++ [])) (upd (upd H dx (.own x)) x (.ins C dx [])) (fun v H2 => v = .non ∧ Q x H2) E0 := by
 intro x dx nx ndx nex
 have s1 : Same H (upd (upd H dx (.own x)) x (.ins C dx [])) := ((Same.refl H).upd ndx).upd nx
 refine ⟨x, dx, l, c1, t, k, a, rfl, upd_same, SqLT.same s1 hS, hlen, fun c H' hc M F => ⟨rfl, q x c dx H' nx (s1.free hc) M fun b o e => F b o (s1 b o e) (ne_of_none e nx)⟩⟩
theorem make_p {K : PySem.W.Frag} {CP CM l : Addr} {H : Hp} {c1 : List Int} {sw : Int} {Q : Addr → Hp → Prop} (hS : SqL K H l (c1.map V.int) ∨ SqT K H l (c1.map V.int)) (hlen : c1.length ≤ 1000)
  (q : ∀ A H', (∀ x ∈ foot A, H x = none) → PAt CP CM H' A (newU c1 sw) → Same H H' → Q A.p H') :
  ∀ x dx, H x = none → H dx = none → dx ≠ x → sp_initP K CP CM (.ref x :: ([.ref l, .int sw] ++ [])) (upd (upd H dx (.own x)) x (.ins CP dx [])) (fun v H2 => v = .non ∧ Q x H2) E0 := by
 intro x dx nx ndx nex
 have s1 : Same H (upd (upd H dx (.own x)) x (.ins CP dx [])) := ((Same.refl H).upd ndx).upd nx
 refine ⟨x, dx, l, c1, sw, rfl, upd_same, SqLT.same s1 hS, hlen, fun A H' ep D hf F => ⟨rfl, ?_⟩⟩
 have := q A H' (fun y hy => (hf y hy).elim (fun e => by rw [e]; exact nx) fun e => s1.free e) D fun b o e => F b o (s1 b o e) (nmem1 (ne_of_none e nx))
 rw [ep] at this
 exact this
section
variable {P : Program} {w : World} {K : PySem.W.Frag} {mg : Str → Option Value} {base : Heap} {CP CM : Addr}
theorem ok_initT {q : Str} (R : RawC K mg "Machine" q CM s_Machine_init) (T : TxtM K mg CM) : GC P w K mg base "Machine" CM ["self", "cells", "total", "mark", "at"] 1 (sp_initT CM K) := by
 refine GC.mk R sc_Machine_init (fun _ _ _ _ _ _ us hl => match us, hl with | [_, _, _, _, _], _ => rfl) (fun vs H Q E h => ?_) (fun f cdv A outer s H vs Q E hr h => ?_)
 ·obtain ⟨p, dx, l, ns, t, k, a, rfl, _⟩ := h; rfl
 ·obtain ⟨p, dx, l, ns, t, kk, a, rfl, hp, hS, hl, k⟩ := h
  refine ⟨_, (pss_cons (ps_fld (pv 0) (pe_callTy call_list_of (by rfl) T.list_ bo_list (pa_cons (pv 1) pa_nil)) rfl)
   (pss_cons (ps_fld (pv 0) (pv 2) rfl)
   (pss_cons (ps_fld (pv 0) (pv 3) rfl)
   (pss_one (ps_fld (pv 0) (pv 4) rfl))))), ?_⟩
  refine ⟨_, rfl, l, _, rfl, hS, fun c hc => ?_⟩
  have npc : p ≠ c := ne_of_none hp hc
  refine ⟨_, rfl, p, CM, dx, [], rfl, (by rw [upd_ne npc]; exact hp), T.cl, T.n_cells, (by show 0 < 1000; decide), ?_⟩
  refine ⟨_, rfl, _, rfl, p, CM, dx, _, rfl, upd_same, T.cl, T.n_total, (by show 1 < 1000; decide), ?_⟩
  refine ⟨_, rfl, _, rfl, p, CM, dx, _, rfl, upd_same, T.cl, T.n_mark, (Nat.lt_of_le_of_lt (length_putF _ _ _) (by show 2 < 1000; decide)), ?_⟩
  refine ⟨_, rfl, _, rfl, p, CM, dx, _, rfl, upd_same, T.cl, T.n_at, (Nat.lt_of_le_of_lt (length_putF _ _ _) (Nat.lt_of_le_of_lt (Nat.succ_le_succ (length_putF _ _ _)) (by show 3 < 1000; decide))), ?_⟩
  refine k c _ hc ⟨?_, ?_⟩ fun b o e hb => ?_
  ·rw [upd_same]
   exact congrArg (fun x => some (HO.ins CM dx x)) (pf_init c ⟨ns, t, kk, a⟩)
  ·rw [upd_ne npc.symm, upd_ne npc.symm, upd_ne npc.symm, upd_ne npc.symm, upd_same]
  ·rw [upd_ne hb, upd_ne hb, upd_ne hb, upd_ne hb, upd_ne (ne_of_none e hc)]
   exact e
theorem ok_initP {q : Str} (R : RawC K mg "Person" q CP s_Person_init) (T : TxtP K mg CP CM) (M_Machine : GC P w K mg base "Machine" CM ["self", "cells", "total", "mark", "at"] 1 (sp_initT CM K)) : GC P w K mg base "Person" CP ["self", "cells", "switches"] 3 (sp_initP K CP CM) := by
 refine GC.mk R sc_Person_init (by wtm_at "3") (fun vs H Q E h => ?_) (fun f cdv A outer s H vs Q E hr h => ?_)
 ·obtain ⟨p, dx, l, ns, sw, rfl, _⟩ := h; rfl
 ·obtain ⟨p, dx, l, ns, sw, rfl, hp, hS, hl, k⟩ := h
  refine ⟨_, (@pss_cons _ _ _ _ _ (@ps_fldK _ (K) _ _ _ _ _ _ _ rfl (pv 0) (@pe_gmakeN _ _ _ _ _ _ _ _ _ _ _ M_Machine (hr.mono (by decide)) rfl (@pa_c _ _ _ _ _ (pv 1) (@pa_c _ _ _ _ _ pe_int (@pa_c _ _ _ _ _ pe_int (@pa_c _ _ _ _ _ pe_int pa_nil rfl) rfl) rfl) rfl) (by decide) rfl) rfl) (@pss_cons _ _ _ _ _ (@ps_fldK _ (K) _ _ _ _ _ _ _ rfl (pv 0) (@pe_lst _ _ _ _ pa_nil) rfl) (@pss_cons _ _ _ _ _ (@ps_fldK _ (K) _ _ _ _ _ _ _ rfl (pv 0) (@pe_lst _ _ _ _ pa_nil) rfl) (@pss_cons _ _ _ _ _ (@ps_fldK _ (K) _ _ _ _ _ _ _ rfl (pv 0) (@pe_lst _ _ _ _ pa_nil) rfl) (@pss_cons _ _ _ _ _ (@ps_fldK _ (K) _ _ _ _ _ _ _ rfl (pv 0) (@pe_lcomp _ _ _ _ _ _ _ _ _ _ _ _ ([]) rfl (@pi_range1 _ _ _ _ _ _ rfl T.range_ (@pa_c _ _ _ _ _ (@pe_gint _ _ _ _ rfl T.BLOCKS (by decide)) pa_nil rfl) rfl) ⟨rfl, rfl, by decide +kernel, by decide +kernel, rfl, by decide +kernel, trivial, rfl, trivial⟩ (fun _ _ _ _ => pts_nil) (fun _ _ _ _ => (@pe_op _ _ _ _ _ _ _ _ op_rep (@pe_lst _ _ _ _ (@pa_c _ _ _ _ _ pe_int pa_nil rfl)) (@pe_gint _ _ _ _ rfl T.BLOCK_WORDS (by decide)))) (fun _ => rfl)) rfl) (@pss_cons _ _ _ _ _ (@ps_fldK _ (K) _ _ _ _ _ _ _ rfl (pv 0) (pv 2) rfl) (@pss_cons _ _ _ _ _ (@ps_fldK _ (K) _ _ _ _ _ _ _ rfl (pv 0) (@pe_gstr _ _ _ _ rfl T.STOPPED (by decide)) rfl) (@pss_cons _ _ _ _ _ (@ps_fldK _ (K) _ _ _ _ _ _ _ rfl (pv 0) pe_int rfl) (@pss_cons _ _ _ _ _ (@ps_fldK _ (K) _ _ _ _ _ _ _ rfl (pv 0) pe_int rfl) (@pss_one _ _ _ (@ps_fldK _ (K) _ _ _ _ _ _ _ rfl (pv 0) pe_int rfl))))))))))), ?_⟩
  wtm_at "uu"
  refine make_mT hS hl fun mp c dm H1 nmp nc M1 s1 => ?_
  have npm : p ≠ mp := ne_of_none hp nmp
  have npc : p ≠ c := ne_of_none hp nc
  have nmc : mp ≠ c := M1.ne
  have hp1 := s1 _ _ hp
  have F1 : FrL H H1 [p] := fun b o e _ => s1 b o e
  wtm_at "uu"
  refine ⟨p, CP, dx, [], rfl, hp1, T.clP, T.n_machine, by show 0 < 1000; decide, ?_⟩
  have hp2 : (upd H1 p (.ins CP dx (putF "machine" (.ref mp) []))) p = some (.ins CP dx [("machine", .ref mp)]) := by rw [upd_same]; rfl
  have M2 : MAt CM (upd H1 p (.ins CP dx (putF "machine" (.ref mp) []))) mp c dm ⟨ns, 0, 0, 0⟩ := M1.other npm.symm npc.symm
  have F2 : FrL H (upd H1 p (.ins CP dx (putF "machine" (.ref mp) []))) [p] := F1.trans (FrL.upd mem1)
  generalize upd H1 p (.ins CP dx (putF "machine" (.ref mp) [])) = H2 at hp2 M2 F2 ⊢
  wtm_at "uu"
  refine ⟨by decide, fun ib nib => ?_⟩
  have nib_p := ne_of_none hp2 nib
  have nib_m := ne_of_none M2.ob nib
  have nib_c := ne_of_none M2.cl nib
  have gib : H ib = none := by
   cases z : H ib with
   | none => rfl
   | some o => have := F2 _ _ z (nmem1 nib_p.symm); rw [nib] at this; cases this
  wtm_at "uu"
  refine ⟨p, CP, dx, _, rfl, by rw [upd_ne nib_p]; exact hp2, T.clP, T.n_inbox, by show 1 < 1000; decide, ?_⟩
  obtain ⟨H3, eH3⟩ : ∃ h, h = upd (upd H2 ib (.lst [])) p (.ins CP dx (putF "inbox" (.ref ib) [("machine", .ref mp)])) := ⟨_, rfl⟩
  have hp3 : H3 p = some (.ins CP dx [("machine", .ref mp), ("inbox", .ref ib)]) := by rw [eH3, upd_same, putF_add (by simp only [List.map_cons, List.map_nil]; decide +kernel)]; rfl
  have M3 : MAt CM H3 mp c dm ⟨ns, 0, 0, 0⟩ := by rw [eH3]; exact (M2.new nib).other npm.symm npc.symm
  have hib3 : H3 ib = some (.lst []) := by rw [eH3]; exact twoA nib_p.symm
  have F3 : FrL H H3 [p] := by rw [eH3]; exact (F2.trans (FrL.new nib)).trans (FrL.upd mem1)
  rw [← eH3]
  clear eH3
  wtm_at "uu"
  refine ⟨by decide, fun ob nob => ?_⟩
  have nob_p := ne_of_none hp3 nob
  have nob_m := ne_of_none M3.ob nob
  have nob_c := ne_of_none M3.cl nob
  have nob_ib := ne_of_none hib3 nob
  have gob : H ob = none := by
   cases z : H ob with
   | none => rfl
   | some o => have := F3 _ _ z (nmem1 nob_p.symm); rw [nob] at this; cases this
  wtm_at "uu"
  refine ⟨p, CP, dx, _, rfl, by rw [upd_ne nob_p]; exact hp3, T.clP, T.n_outbox, by show 2 < 1000; decide, ?_⟩
  obtain ⟨H4, eH4⟩ : ∃ h, h = upd (upd H3 ob (.lst [])) p (.ins CP dx (putF "outbox" (.ref ob) [("machine", .ref mp), ("inbox", .ref ib)])) := ⟨_, rfl⟩
  have hp4 : H4 p = some (.ins CP dx [("machine", .ref mp), ("inbox", .ref ib), ("outbox", .ref ob)]) := by rw [eH4, upd_same, putF_add (by simp only [List.map_cons, List.map_nil]; decide +kernel)]; rfl
  have M4 : MAt CM H4 mp c dm ⟨ns, 0, 0, 0⟩ := by rw [eH4]; exact (M3.new nob).other npm.symm npc.symm
  have hib4 : H4 ib = some (.lst []) := by rw [eH4]; exact two hib3 nib_p.symm nob
  have hob4 : H4 ob = some (.lst []) := by rw [eH4]; exact twoA nob_p.symm
  have F4 : FrL H H4 [p] := by rw [eH4]; exact (F3.trans (FrL.new nob)).trans (FrL.upd mem1)
  rw [← eH4]
  clear eH4
  wtm_at "uu"
  refine ⟨by decide, fun pp npp => ?_⟩
  have npp_p := ne_of_none hp4 npp
  have npp_m := ne_of_none M4.ob npp
  have npp_c := ne_of_none M4.cl npp
  have npp_ib := ne_of_none hib4 npp
  have npp_ob := ne_of_none hob4 npp
  have gpp : H pp = none := by
   cases z : H pp with
   | none => rfl
   | some o => have := F4 _ _ z (nmem1 npp_p.symm); rw [npp] at this; cases this
  wtm_at "uu"
  refine ⟨p, CP, dx, _, rfl, by rw [upd_ne npp_p]; exact hp4, T.clP, T.n_paper, by show 3 < 1000; decide, ?_⟩
  obtain ⟨H5, eH5⟩ : ∃ h, h = upd (upd H4 pp (.lst [])) p (.ins CP dx (putF "paper" (.ref pp) [("machine", .ref mp), ("inbox", .ref ib), ("outbox", .ref ob)])) := ⟨_, rfl⟩
  have hp5 : H5 p = some (.ins CP dx [("machine", .ref mp), ("inbox", .ref ib), ("outbox", .ref ob), ("paper", .ref pp)]) := by rw [eH5, upd_same, putF_add (by simp only [List.map_cons, List.map_nil]; decide +kernel)]; rfl
  have M5 : MAt CM H5 mp c dm ⟨ns, 0, 0, 0⟩ := by rw [eH5]; exact (M4.new npp).other npm.symm npc.symm
  have hib5 : H5 ib = some (.lst []) := by rw [eH5]; exact two hib4 nib_p.symm npp
  have hob5 : H5 ob = some (.lst []) := by rw [eH5]; exact two hob4 nob_p.symm npp
  have hpp5 : H5 pp = some (.lst []) := by rw [eH5]; exact twoA npp_p.symm
  have F5 : FrL H H5 [p] := by rw [eH5]; exact (F4.trans (FrL.new npp)).trans (FrL.upd mem1)
  rw [← eH5]
  clear eH5
  wtm_at "uu"
  refine ⟨4, rfl, by decide, by decide, lc_rangeI (lo := 0) (n := 4) (fun i acc H' => Same H5 H' ∧ ∃ bs : List Addr, bs.length = i ∧ acc = bs.map V.ref ∧ (∀ b ∈ bs, H' b = some (.lst ((List.replicate 16 (0 : Int)).map V.int))) ∧ bs.Nodup ∧ ∀ b ∈ bs, H5 b = none) (by decide) ⟨Same.refl _, [], rfl, rfl, by simp, List.nodup_nil, by simp⟩ (fun i acc H' h => ?_) (fun i acc H' hi h Q' q' => ?_) (fun acc H6 h bk nbk => ?_)⟩
  ·obtain ⟨_, bs, hl, rfl, _⟩ := h
   rw [List.length_map]; exact hl
  ·obtain ⟨sm, bs, hl, rfl, hb, hn, hf⟩ := h
   wtm_at "uu"
   refine ⟨by show 1 ≤ sizeLine; decide, fun q1 nq1 => ?_⟩
   have sm1 := sm.new' (o := .lst [.int 0]) nq1
   have hb1 : ∀ b ∈ bs, (upd H' q1 (.lst [.int 0])) b = some (.lst ((List.replicate 16 (0 : Int)).map V.int)) := fun b z => by rw [upd_ne (ne_of_none (hb b z) nq1)]; exact hb b z
   wtm_at "uu"
   refine Sx.rep (x := .int 0) upd_same (by decide) (by decide) fun p hp => ?_
   have nb : p ∉ bs := fun z => by rw [hb1 p z] at hp; cases hp
   have e16 : List.replicate (16 : Int).toNat (V.int 0) = (List.replicate 16 (0 : Int)).map V.int := rfl
   rw [e16]
   refine q' _ _ ⟨sm1.new' hp, bs ++ [p], by rw [List.length_append]; simp [hl], by rw [List.map_append]; rfl, fun b hb' => ?_, ?_, fun b hb' => ?_⟩
   ·rcases List.mem_append.mp hb' with z | z
    ·rw [upd_ne (fun e => nb (by rw [← e]; exact z))]; exact hb1 b z
    ·rw [List.mem_singleton.mp z, upd_same]
   ·rw [List.nodup_append]
    exact ⟨hn, by simp, fun x hx y hy => by rw [List.mem_singleton.mp hy]; exact fun e => nb (by rw [← e]; exact hx)⟩
   ·rcases List.mem_append.mp hb' with z | z
    ·exact hf b z
    ·rw [List.mem_singleton.mp z]; exact sm1.free hp
  obtain ⟨s56, bs, hbl, rfl, hbs, hbn, hbf⟩ := h
  have hp6 := s56 _ _ hp5
  have M6 := M5.keep s56
  have hib6 := s56 _ _ hib5
  have hob6 := s56 _ _ hob5
  have hpp6 := s56 _ _ hpp5
  have F6 : FrL H H6 [p] := fun b o e n => s56 _ _ (F5 b o e n)
  have nbk_p := ne_of_none hp6 nbk
  have nbk_m := ne_of_none M6.ob nbk
  have nbk_c := ne_of_none M6.cl nbk
  have nbk_ib := ne_of_none hib6 nbk
  have nbk_ob := ne_of_none hob6 nbk
  have nbk_pp := ne_of_none hpp6 nbk
  have gone : ∀ {x : Addr}, H5 x = none → H x = none := fun {x} z => by
   cases y : H x with
   | none => rfl
   | some o =>
    by_cases e : x = p
    ·rw [e, hp5] at z; cases z
    ·have := F5 _ _ y (nmem1 e); rw [z] at this; cases this
  have gbk : H bk = none := gone (s56.free nbk)
  have off : ∀ {x : Addr} {o : HO}, H5 x = some o → x ∉ bs := fun {x o} z y => by rw [hbf x y] at z; cases z
  have nbk' : bk ∉ bs := fun z => by have := hbs bk z; rw [nbk] at this; cases this
  wtm_at "uu"
  refine ⟨p, CP, dx, _, rfl, by rw [upd_ne nbk_p]; exact hp6, T.clP, T.n_blocks, by show 4 < 1000; decide, ?_⟩
  obtain ⟨H7, eH7⟩ : ∃ h, h = upd (upd H6 bk (.lst (bs.map V.ref))) p (.ins CP dx (putF "blocks" (.ref bk) [("machine", .ref mp), ("inbox", .ref ib), ("outbox", .ref ob), ("paper", .ref pp)])) := ⟨_, rfl⟩
  have hp7 : H7 p = some (.ins CP dx [("machine", .ref mp), ("inbox", .ref ib), ("outbox", .ref ob), ("paper", .ref pp), ("blocks", .ref bk)]) := by rw [eH7, upd_same, putF_add (by simp only [List.map_cons, List.map_nil]; decide +kernel)]; rfl
  have M7 : MAt CM H7 mp c dm ⟨ns, 0, 0, 0⟩ := by rw [eH7]; exact (M6.new nbk).other npm.symm npc.symm
  have hib7 : H7 ib = some (.lst []) := by rw [eH7]; exact two hib6 nib_p.symm nbk
  have hob7 : H7 ob = some (.lst []) := by rw [eH7]; exact two hob6 nob_p.symm nbk
  have hpp7 : H7 pp = some (.lst []) := by rw [eH7]; exact two hpp6 npp_p.symm nbk
  have hbk7 : H7 bk = some (.lst (bs.map V.ref)) := by rw [eH7]; exact twoA nbk_p.symm
  have hbs7 : ∀ b ∈ bs, H7 b = some (.lst ((List.replicate 16 (0 : Int)).map V.int)) := by rw [eH7]; exact fun b z => two (hbs b z) (fun e => off hp5 (by rw [← e]; exact z)) nbk
  have F7 : FrL H H7 [p] := by rw [eH7]; exact (F6.trans (FrL.new nbk)).trans (FrL.upd mem1)
  rw [← eH7]
  clear eH7
  wtm_at "uu"
  refine ⟨p, CP, dx, _, rfl, hp7, T.clP, T.n_switches, by show 5 < 1000; decide, ?_⟩
  obtain ⟨H8, eH8⟩ : ∃ h, h = upd H7 p (.ins CP dx (putF "switches" (.int sw) [("machine", .ref mp), ("inbox", .ref ib), ("outbox", .ref ob), ("paper", .ref pp), ("blocks", .ref bk)])) := ⟨_, rfl⟩
  have hp8 : H8 p = some (.ins CP dx [("machine", .ref mp), ("inbox", .ref ib), ("outbox", .ref ob), ("paper", .ref pp), ("blocks", .ref bk), ("switches", .int sw)]) := by rw [eH8, upd_same, putF_add (by simp only [List.map_cons, List.map_nil]; decide +kernel)]; rfl
  have o8 : ∀ x, x ≠ p → H8 x = H7 x := by rw [eH8]; exact fun x hx => upd_ne hx
  have F8 : FrL H H8 [p] := by rw [eH8]; exact F7.trans (FrL.upd mem1)
  rw [← eH8]
  clear eH8
  wtm_at "uu"
  refine ⟨p, CP, dx, _, rfl, hp8, T.clP, T.n_state, by show 6 < 1000; decide, ?_⟩
  obtain ⟨H9, eH9⟩ : ∃ h, h = upd H8 p (.ins CP dx (putF "state" (.str "stopped") [("machine", .ref mp), ("inbox", .ref ib), ("outbox", .ref ob), ("paper", .ref pp), ("blocks", .ref bk), ("switches", .int sw)])) := ⟨_, rfl⟩
  have hp9 : H9 p = some (.ins CP dx [("machine", .ref mp), ("inbox", .ref ib), ("outbox", .ref ob), ("paper", .ref pp), ("blocks", .ref bk), ("switches", .int sw), ("state", .str "stopped")]) := by rw [eH9, upd_same, putF_add (by simp only [List.map_cons, List.map_nil]; decide +kernel)]; rfl
  have o9 : ∀ x, x ≠ p → H9 x = H7 x := by rw [eH9]; exact fun x hx => (upd_ne hx).trans (o8 x hx)
  have F9 : FrL H H9 [p] := by rw [eH9]; exact F8.trans (FrL.upd mem1)
  rw [← eH9]
  clear eH9
  wtm_at "uu"
  refine ⟨p, CP, dx, _, rfl, hp9, T.clP, T.n_nap, by show 7 < 1000; decide, ?_⟩
  obtain ⟨H10, eH10⟩ : ∃ h, h = upd H9 p (.ins CP dx (putF "nap" (.int 0) [("machine", .ref mp), ("inbox", .ref ib), ("outbox", .ref ob), ("paper", .ref pp), ("blocks", .ref bk), ("switches", .int sw), ("state", .str "stopped")])) := ⟨_, rfl⟩
  have hp10 : H10 p = some (.ins CP dx [("machine", .ref mp), ("inbox", .ref ib), ("outbox", .ref ob), ("paper", .ref pp), ("blocks", .ref bk), ("switches", .int sw), ("state", .str "stopped"), ("nap", .int 0)]) := by rw [eH10, upd_same, putF_add (by simp only [List.map_cons, List.map_nil]; decide +kernel)]; rfl
  have o10 : ∀ x, x ≠ p → H10 x = H7 x := by rw [eH10]; exact fun x hx => (upd_ne hx).trans (o9 x hx)
  have F10 : FrL H H10 [p] := by rw [eH10]; exact F9.trans (FrL.upd mem1)
  rw [← eH10]
  clear eH10
  wtm_at "uu"
  refine ⟨p, CP, dx, _, rfl, hp10, T.clP, T.n_lost, by show 8 < 1000; decide, ?_⟩
  obtain ⟨H11, eH11⟩ : ∃ h, h = upd H10 p (.ins CP dx (putF "lost" (.int 0) [("machine", .ref mp), ("inbox", .ref ib), ("outbox", .ref ob), ("paper", .ref pp), ("blocks", .ref bk), ("switches", .int sw), ("state", .str "stopped"), ("nap", .int 0)])) := ⟨_, rfl⟩
  have hp11 : H11 p = some (.ins CP dx [("machine", .ref mp), ("inbox", .ref ib), ("outbox", .ref ob), ("paper", .ref pp), ("blocks", .ref bk), ("switches", .int sw), ("state", .str "stopped"), ("nap", .int 0), ("lost", .int 0)]) := by rw [eH11, upd_same, putF_add (by simp only [List.map_cons, List.map_nil]; decide +kernel)]; rfl
  have o11 : ∀ x, x ≠ p → H11 x = H7 x := by rw [eH11]; exact fun x hx => (upd_ne hx).trans (o10 x hx)
  have F11 : FrL H H11 [p] := by rw [eH11]; exact F10.trans (FrL.upd mem1)
  rw [← eH11]
  clear eH11
  wtm_at "uu"
  refine ⟨p, CP, dx, _, rfl, hp11, T.clP, T.n_done, by show 9 < 1000; decide, ?_⟩
  obtain ⟨H12, eH12⟩ : ∃ h, h = upd H11 p (.ins CP dx (putF "done" (.int 0) [("machine", .ref mp), ("inbox", .ref ib), ("outbox", .ref ob), ("paper", .ref pp), ("blocks", .ref bk), ("switches", .int sw), ("state", .str "stopped"), ("nap", .int 0), ("lost", .int 0)])) := ⟨_, rfl⟩
  have hp12 : H12 p = some (.ins CP dx [("machine", .ref mp), ("inbox", .ref ib), ("outbox", .ref ob), ("paper", .ref pp), ("blocks", .ref bk), ("switches", .int sw), ("state", .str "stopped"), ("nap", .int 0), ("lost", .int 0), ("done", .int 0)]) := by rw [eH12, upd_same, putF_add (by simp only [List.map_cons, List.map_nil]; decide +kernel)]; rfl
  have o12 : ∀ x, x ≠ p → H12 x = H7 x := by rw [eH12]; exact fun x hx => (upd_ne hx).trans (o11 x hx)
  have F12 : FrL H H12 [p] := by rw [eH12]; exact F11.trans (FrL.upd mem1)
  rw [← eH12]
  clear eH12
  refine k ⟨p, mp, c, ib, ob, pp, bk, dx, dm, bs⟩ H12 rfl ⟨hp12, ⟨by rw [o12 _ npm.symm]; exact M7.ob, by rw [o12 _ npc.symm]; exact M7.cl⟩, by rw [o12 _ nib_p.symm]; exact hib7, by rw [o12 _ nob_p.symm]; exact hob7, by rw [o12 _ npp_p.symm]; exact hpp7, by rw [o12 _ nbk_p.symm]; exact hbk7, ⟨by rw [hbl]; rfl, fun i b w h1 h2 => ?_⟩, ?_⟩ (fun x hx => ?_) F12
  ·have hb := List.mem_of_getElem? h1
   have hw : w = List.replicate 16 0 := List.eq_of_mem_replicate (List.mem_of_getElem? h2)
   rw [o12 _ (fun e => off hp5 (by rw [← e]; exact hb)), hw]
   exact hbs7 b hb
  ·show (p :: mp :: c :: ib :: ob :: pp :: bk :: bs).Nodup
   simp only [List.nodup_cons, List.mem_cons, not_or]
   exact ⟨⟨npm, npc, nib_p, nob_p, npp_p, nbk_p, off hp5⟩, ⟨nmc, nib_m, nob_m, npp_m, nbk_m, off M5.ob⟩, ⟨nib_c, nob_c, npp_c, nbk_c, off M5.cl⟩, ⟨nob_ib, npp_ib, nbk_ib, off hib5⟩, ⟨npp_ob, nbk_ob, off hob5⟩, ⟨nbk_pp, off hpp5⟩, nbk', hbn⟩
  ·have hx' : x ∈ p :: mp :: c :: ib :: ob :: pp :: bk :: bs := hx
   simp only [List.mem_cons] at hx'
   rcases hx' with e | e | e | e | e | e | e | e
   ·exact .inl e
   ·exact .inr (by rw [e]; exact nmp)
   ·exact .inr (by rw [e]; exact nc)
   ·exact .inr (by rw [e]; exact gib)
   ·exact .inr (by rw [e]; exact gob)
   ·exact .inr (by rw [e]; exact gpp)
   ·exact .inr (by rw [e]; exact gbk)
   ·exact .inr (gone (hbf x e))
end
end Pp
namespace Pp
open PySem L2 Mir Pr Tx Lw Dm Us Du
section
variable {P : Program} {w : World} {K : PySem.W.Frag} {mg : Str → Option Value} {base : Heap} {CP CM : Addr}
def sp_picP (K : PySem.W.Frag) (CP CM : Addr) : Sp := fun vs H Q _ => ∃ A u, vs = [.ref A.p] ∧ PAt CP CM H A u ∧ u.blk.length ≤ 8 ∧ ∀ t tc ti to_ tp tb tbs H', PicAt K H' t tc ti to_ tp tb tbs u → Same H H' → Q (.ref t) H'
theorem ok_picture (R : Raw K mg "picture" s_picture) (T : TxtP K mg CP CM) : GF P w K mg base "picture" ["person"] 1 (sp_picP K CP CM) := by
 refine GF.mk R sc_picture (by wtm_at "1") (fun vs H Q E h => ?_) (fun f cdv A outer s H vs Q E hr h => ?_)
 ·obtain ⟨B, u, rfl, _⟩ := h; rfl
 ·obtain ⟨B, u, rfl, D, hbl, k⟩ := h
  refine ⟨_, (@pss_cons _ _ _ _ _ (@ps_set _ _ (1) _ _ _ _ sc_picture.nd rfl (Or.inl rfl) (@pe_fldK _ (K) _ _ _ _ rfl (pv 0) rfl) rfl (by first | exact .inl rfl | exact .inr rfl | assumption)) (@pss_one _ _ _ (@ps_ret _ _ _ _ (@pe_tup _ _ _ _ _ (@pa_c _ _ _ _ _ (@pe_callTyN _ _ _ _ _ _ _ _ _ (call_tuple_ofK (K := K) rfl) (by rfl) T.tuple_ bo_tuple (@pa_c _ _ _ _ _ (@pe_fldK _ (K) _ _ _ _ rfl (pv 1) rfl) pa_nil rfl) (by decide) (by decide) rfl) (@pa_c _ _ _ _ _ (@pe_fldK _ (K) _ _ _ _ rfl (pv 1) rfl) (@pa_c _ _ _ _ _ (@pe_fldK _ (K) _ _ _ _ rfl (pv 1) rfl) (@pa_c _ _ _ _ _ (@pe_fldK _ (K) _ _ _ _ rfl (pv 1) rfl) (@pa_c _ _ _ _ _ (@pe_callTyN _ _ _ _ _ _ _ _ _ (call_tuple_ofK (K := K) rfl) (by rfl) T.tuple_ bo_tuple (@pa_c _ _ _ _ _ (@pe_fldK _ (K) _ _ _ _ rfl (pv 0) rfl) pa_nil rfl) (by decide) (by decide) rfl) (@pa_c _ _ _ _ _ (@pe_callTyN _ _ _ _ _ _ _ _ _ (call_tuple_ofK (K := K) rfl) (by rfl) T.tuple_ bo_tuple (@pa_c _ _ _ _ _ (@pe_fldK _ (K) _ _ _ _ rfl (pv 0) rfl) pa_nil rfl) (by decide) (by decide) rfl) (@pa_c _ _ _ _ _ (@pe_callTyN _ _ _ _ _ _ _ _ _ (call_tuple_ofK (K := K) rfl) (by rfl) T.tuple_ bo_tuple (@pa_c _ _ _ _ _ (@pe_fldK _ (K) _ _ _ _ rfl (pv 0) rfl) pa_nil rfl) (by decide) (by decide) rfl) (@pa_c _ _ _ _ _ (@pe_callTyN _ _ _ _ _ _ _ _ _ (call_tuple_ofK (K := K) rfl) (by rfl) T.tuple_ bo_tuple (@pa_c _ _ _ _ _ (@pe_lcomp _ _ _ _ _ _ _ _ _ _ _ _ ([]) rfl (@pi_listK _ (K) _ _ _ rfl (@pe_fldK _ (K) _ _ _ _ rfl (pv 0) rfl)) ⟨rfl, rfl, by decide +kernel, by decide +kernel, rfl, by decide +kernel, trivial, rfl, trivial⟩ (fun _ _ _ _ => pts_nil) (fun _ _ _ _ => (@pe_callTyN _ _ _ _ _ _ _ _ _ (call_tuple_ofK (K := K) rfl) (by rfl) T.tuple_ bo_tuple (@pa_c _ _ _ _ _ (pv 0) pa_nil rfl) (by decide) (by decide) rfl)) (fun _ => rfl)) pa_nil rfl) (by decide) (by decide) rfl) (@pa_c _ _ _ _ _ (@pe_fldK _ (K) _ _ _ _ rfl (pv 0) rfl) (@pa_c _ _ _ _ _ (@pe_fldK _ (K) _ _ _ _ rfl (pv 0) rfl) (@pa_c _ _ _ _ _ (@pe_fldK _ (K) _ _ _ _ rfl (pv 0) rfl) (@pa_c _ _ _ _ _ (@pe_fldK _ (K) _ _ _ _ rfl (pv 0) rfl) (@pa_c _ _ _ _ _ (@pe_fldK _ (K) _ _ _ _ rfl (pv 0) rfl) pa_nil rfl) rfl) rfl) rfl) rfl) rfl) rfl) rfl) rfl) rfl) rfl) rfl) rfl))))), ?_⟩
  wtm_at "uu"
  refine ⟨B.c, _, rfl, .inl ⟨SqL.of D.m.cl, fun tc ntc => ?_⟩⟩
  have s1 : Same H (upd H tc (.tup (u.m.cells.map V.int))) := Same.new ntc
  have htc : (upd H tc (.tup (u.m.cells.map V.int))) tc = some (.tup (u.m.cells.map V.int)) := upd_same
  generalize upd H tc (.tup (u.m.cells.map V.int)) = H1 at s1 htc ⊢
  have D1 := D.keep s1
  wtm_at "uu"
  refine ⟨B.ib, _, rfl, .inl ⟨SqL.of D1.l_in, fun ti nti => ?_⟩⟩
  have s2 : Same H1 (upd H1 ti (.tup (u.inb.map V.int))) := Same.new nti
  have hti : (upd H1 ti (.tup (u.inb.map V.int))) ti = some (.tup (u.inb.map V.int)) := upd_same
  generalize upd H1 ti (.tup (u.inb.map V.int)) = H2 at s2 hti ⊢
  have D2 := D1.keep s2
  wtm_at "uu"
  refine ⟨B.ob, _, rfl, .inl ⟨SqL.of D2.l_out, fun to_ nto_ => ?_⟩⟩
  have s3 : Same H2 (upd H2 to_ (.tup (u.outb.map V.int))) := Same.new nto_
  have hto_ : (upd H2 to_ (.tup (u.outb.map V.int))) to_ = some (.tup (u.outb.map V.int)) := upd_same
  generalize upd H2 to_ (.tup (u.outb.map V.int)) = H3 at s3 hto_ ⊢
  have D3 := D2.keep s3
  wtm_at "uu"
  refine ⟨B.pp, _, rfl, .inl ⟨SqL.of D3.l_pap, fun tp ntp => ?_⟩⟩
  have s4 : Same H3 (upd H3 tp (.tup (u.pap.map V.int))) := Same.new ntp
  have htp : (upd H3 tp (.tup (u.pap.map V.int))) tp = some (.tup (u.pap.map V.int)) := upd_same
  generalize upd H3 tp (.tup (u.pap.map V.int)) = H4 at s4 htp ⊢
  have D4 := D3.keep s4
  wtm_at "uu"
  have hbl2 : B.bs.length ≤ 8 := by rw [D.blk.1]; exact hbl
  refine ⟨B.bk, rfl, ⟨_, SqL.of D4.l_blk⟩, lc_listI (xs := B.bs.map V.ref) (fun i acc H' => Same H4 H' ∧ ∃ tbs : List Addr, tbs.length = i ∧ acc = tbs.map V.ref ∧ ∀ (j : Nat) b w, tbs[j]? = some b → u.blk[j]? = some w → H' b = some (.tup (w.map V.int))) (by rw [List.length_map, sizeLine_eq]; omega) ⟨Same.refl _, [], rfl, rfl, by simp⟩ (fun i acc H' h => ?_) (fun i acc H' h => SqL.of (h.1 _ _ D4.l_blk)) (fun i x acc H' hx h Q' q' => ?_) (fun acc H5 h tl2 ntl2 => ?_)⟩
  ·obtain ⟨_, tbs, hl, rfl, _⟩ := h
   rw [List.length_map]; exact hl
  ·obtain ⟨sm, tbs, hl, rfl, hb⟩ := h
   rw [List.getElem?_map] at hx
   cases hbx : B.bs[i]? with
   | none => rw [hbx] at hx; cases hx
   | some b =>
    rw [hbx] at hx
    cases hx
    have hi : i < u.blk.length := by
     rw [← D.blk.1]
     rcases Nat.lt_or_ge i B.bs.length with z | z
     ·exact z
     ·rw [List.getElem?_eq_none z] at hbx; cases hbx
    have hbh : H' b = some (.lst (u.blk[i].map V.int)) := sm _ _ (D4.blk.2 i b u.blk[i] hbx (List.getElem?_eq_getElem hi))
    wtm_at "uu"
    refine ⟨b, _, rfl, .inl ⟨SqL.of hbh, fun tn ntn => ?_⟩⟩
    refine q' _ _ ⟨sm.new' ntn, tbs ++ [tn], by rw [List.length_append, hl]; rfl, by rw [List.map_append]; rfl, fun j b2 w2 h1 h2 => ?_⟩
    rcases Nat.lt_or_ge j tbs.length with z | z
    ·rw [List.getElem?_append_left z] at h1
     have := hb j b2 w2 h1 h2
     rw [upd_ne (ne_of_none this ntn)]
     exact this
    ·rw [List.getElem?_append_right z] at h1
     have ej : j = tbs.length := by
      rcases Nat.lt_or_ge (j - tbs.length) 1 with z2 | z2
      ·omega
      ·rw [List.getElem?_eq_none (by simpa using z2)] at h1; cases h1
     subst ej
     rw [Nat.sub_self] at h1
     cases h1
     rw [hl, List.getElem?_eq_getElem hi] at h2
     cases h2
     exact upd_same
  obtain ⟨s45, tbs, htbl, rfl, htbs⟩ := h
  rw [List.length_map] at htbl
  have htl2 : (upd H5 tl2 (.lst (tbs.map V.ref))) tl2 = some (.lst (tbs.map V.ref)) := upd_same
  have s5 : Same H5 (upd H5 tl2 (.lst (tbs.map V.ref))) := Same.new ntl2
  generalize upd H5 tl2 (.lst (tbs.map V.ref)) = H6 at htl2 s5 ⊢
  have D6 := (D4.keep s45).keep s5
  wtm_at "uu"
  refine ⟨tl2, _, rfl, .inl ⟨SqL.of htl2, fun tb ntb => ?_⟩⟩
  have s7 : Same H6 (upd H6 tb (.tup (tbs.map V.ref))) := Same.new ntb
  have htb : (upd H6 tb (.tup (tbs.map V.ref))) tb = some (.tup (tbs.map V.ref)) := upd_same
  generalize upd H6 tb (.tup (tbs.map V.ref)) = H7 at s7 htb ⊢
  have D7 := D6.keep s7
  wtm_at "uu"
  refine ⟨by show 13 ≤ sizeLine; decide, fun t nt => ?_⟩
  have s8 : Same H7 (upd H7 t (.tup [.ref tc, .int u.m.total, .int u.m.mark, .int u.m.at_, .ref ti, .ref to_, .ref tp, .ref tb, .int u.sw, .str u.st.s, .int u.nap, .int u.lost, .int u.done])) := Same.new nt
  have s58 := s5.trans (s7.trans s8)
  have s48 := s45.trans s58
  refine k t tc ti to_ tp tb tbs _ ⟨upd_same, (s2.trans (s3.trans (s4.trans s48))) _ _ htc, (s3.trans (s4.trans s48)) _ _ hti, (s4.trans s48) _ _ hto_, s48 _ _ htp, s8 _ _ htb, by rw [htbl]; exact D.blk.1, fun i b w h1 h2 => s58 _ _ (htbs i b w h1 h2)⟩ (s1.trans (s2.trans (s3.trans (s4.trans s48))))
end
end Pp
namespace Pp
open PySem L2 Mir Pr Tx Lw Dm Us Du
theorem FrL.toSame {H H1 H2 : Hp} {G : List Addr} (s : Same H H1) (F : FrL H1 H2 G) (n : ∀ x ∈ G, H x = none) : Same H H2 := fun b o e => F b o (s b o e) fun z => by rw [n b z] at e; cases e
section
variable {CP CM : Addr} {H H' : Hp} {A : PAd} {u u' : Usr} {K : PySem.W.Frag} {mg : Str → Option Value} {m' : Mach} {q : Addr} {PH : Hp → Prop}
theorem nfoot (h : q ∉ foot A) : ¬ q = A.p ∧ ¬ q = A.mp ∧ ¬ q = A.c ∧ ¬ q = A.ib ∧ ¬ q = A.ob ∧ ¬ q = A.pp ∧ ¬ q = A.bk ∧ q ∉ A.bs := by
 unfold foot at h
 simp only [List.mem_cons, not_or] at h
 exact h
theorem n_mach {mp c dm : Addr} {cl : Cls K CP} {na : NoAttr K CP "machine"} (h : PAt CP CM H A u) (M : MAt CM H mp c dm m') (hm : mp ∉ foot A) (hc : c ∉ foot A) (k : ∀ H', PAt CP CM H' { A with mp := mp, c := c, dm := dm } { u with m := m' } → (∀ b o, H b = some o → b ≠ A.p → H' b = some o) → PH H') :
  ∃ a C dx fs, V.ref A.p = .ref a ∧ H a = some (.ins C dx fs) ∧ Cls K C ∧ NoAttr K C "machine" ∧ fs.length < 1000 ∧ PH (upd H a (.ins C dx (putF "machine" (.ref mp) fs))) := by
 have h_mp := nfoot hm
 have h_c := nfoot hc
 have d_mp_c := M.ne
 have n := nds h.nd
 refine ⟨A.p, CP, A.dx, _, rfl, h.o, cl, na, len_fldsP _ _, ?_⟩
 rw [pf_machine]
 refine k _ ⟨upd_same, ⟨by rw [upd_ne h_mp.1]; exact M.ob, by rw [upd_ne h_c.1]; exact M.cl⟩, by rw [upd_ne h.ib_p]; exact h.l_in, by rw [upd_ne h.ob_p]; exact h.l_out, by rw [upd_ne h.pp_p]; exact h.l_pap, by rw [upd_ne h.bk_p]; exact h.l_blk, ⟨h.blk.1, fun i b w h1 h2 => by rw [upd_ne (h.nb h.p_bs h1)]; exact h.blk.2 i b w h1 h2⟩, ?_⟩ (fun b o e nb => by rw [upd_ne nb]; exact e)
 show (A.p :: mp :: c :: A.ib :: A.ob :: A.pp :: A.bk :: A.bs).Nodup
 simp only [List.nodup_cons, List.mem_cons, not_or]
 exact ⟨⟨(fun e => h_mp.1 e.symm), (fun e => h_c.1 e.symm), n.1.2.2.1, n.1.2.2.2.1, n.1.2.2.2.2.1, n.1.2.2.2.2.2.1, n.1.2.2.2.2.2.2⟩, ⟨d_mp_c, h_mp.2.2.2.1, h_mp.2.2.2.2.1, h_mp.2.2.2.2.2.1, h_mp.2.2.2.2.2.2.1, h_mp.2.2.2.2.2.2.2⟩, ⟨h_c.2.2.2.1, h_c.2.2.2.2.1, h_c.2.2.2.2.2.1, h_c.2.2.2.2.2.2.1, h_c.2.2.2.2.2.2.2⟩, ⟨n.2.2.2.1.1, n.2.2.2.1.2.1, n.2.2.2.1.2.2.1, n.2.2.2.1.2.2.2⟩, ⟨n.2.2.2.2.1.1, n.2.2.2.2.1.2.1, n.2.2.2.2.1.2.2⟩, ⟨n.2.2.2.2.2.1.1, n.2.2.2.2.2.1.2⟩, n.2.2.2.2.2.2.1, n.2.2.2.2.2.2.2⟩
theorem n_in {ys : List Int} {cl : Cls K CP} {na : NoAttr K CP "inbox"} (h : PAt CP CM H A u) (hq : H q = some (.lst (ys.map V.int))) (hn : q ∉ foot A) (k : ∀ H', PAt CP CM H' { A with ib := q } { u with inb := ys } → (∀ b o, H b = some o → b ≠ A.p → H' b = some o) → PH H') :
  ∃ a C dx fs, V.ref A.p = .ref a ∧ H a = some (.ins C dx fs) ∧ Cls K C ∧ NoAttr K C "inbox" ∧ fs.length < 1000 ∧ PH (upd H a (.ins C dx (putF "inbox" (.ref q) fs))) := by
 have h_ib := nfoot hn
 have n := nds h.nd
 refine ⟨A.p, CP, A.dx, _, rfl, h.o, cl, na, len_fldsP _ _, ?_⟩
 rw [pf_inbox]
 refine k _ ⟨upd_same, ⟨by rw [upd_ne h.mp_p]; exact h.m.ob, by rw [upd_ne h.c_p]; exact h.m.cl⟩, by rw [upd_ne h_ib.1]; exact hq, by rw [upd_ne h.ob_p]; exact h.l_out, by rw [upd_ne h.pp_p]; exact h.l_pap, by rw [upd_ne h.bk_p]; exact h.l_blk, ⟨h.blk.1, fun i b w h1 h2 => by rw [upd_ne (h.nb h.p_bs h1)]; exact h.blk.2 i b w h1 h2⟩, ?_⟩ (fun b o e nb => by rw [upd_ne nb]; exact e)
 show (A.p :: A.mp :: A.c :: q :: A.ob :: A.pp :: A.bk :: A.bs).Nodup
 simp only [List.nodup_cons, List.mem_cons, not_or]
 exact ⟨⟨n.1.1, n.1.2.1, (fun e => h_ib.1 e.symm), n.1.2.2.2.1, n.1.2.2.2.2.1, n.1.2.2.2.2.2.1, n.1.2.2.2.2.2.2⟩, ⟨n.2.1.1, (fun e => h_ib.2.1 e.symm), n.2.1.2.2.1, n.2.1.2.2.2.1, n.2.1.2.2.2.2.1, n.2.1.2.2.2.2.2⟩, ⟨(fun e => h_ib.2.2.1 e.symm), n.2.2.1.2.1, n.2.2.1.2.2.1, n.2.2.1.2.2.2.1, n.2.2.1.2.2.2.2⟩, ⟨h_ib.2.2.2.2.1, h_ib.2.2.2.2.2.1, h_ib.2.2.2.2.2.2.1, h_ib.2.2.2.2.2.2.2⟩, ⟨n.2.2.2.2.1.1, n.2.2.2.2.1.2.1, n.2.2.2.2.1.2.2⟩, ⟨n.2.2.2.2.2.1.1, n.2.2.2.2.2.1.2⟩, n.2.2.2.2.2.2.1, n.2.2.2.2.2.2.2⟩
theorem n_out {ys : List Int} {cl : Cls K CP} {na : NoAttr K CP "outbox"} (h : PAt CP CM H A u) (hq : H q = some (.lst (ys.map V.int))) (hn : q ∉ foot A) (k : ∀ H', PAt CP CM H' { A with ob := q } { u with outb := ys } → (∀ b o, H b = some o → b ≠ A.p → H' b = some o) → PH H') :
  ∃ a C dx fs, V.ref A.p = .ref a ∧ H a = some (.ins C dx fs) ∧ Cls K C ∧ NoAttr K C "outbox" ∧ fs.length < 1000 ∧ PH (upd H a (.ins C dx (putF "outbox" (.ref q) fs))) := by
 have h_ob := nfoot hn
 have n := nds h.nd
 refine ⟨A.p, CP, A.dx, _, rfl, h.o, cl, na, len_fldsP _ _, ?_⟩
 rw [pf_outbox]
 refine k _ ⟨upd_same, ⟨by rw [upd_ne h.mp_p]; exact h.m.ob, by rw [upd_ne h.c_p]; exact h.m.cl⟩, by rw [upd_ne h.ib_p]; exact h.l_in, by rw [upd_ne h_ob.1]; exact hq, by rw [upd_ne h.pp_p]; exact h.l_pap, by rw [upd_ne h.bk_p]; exact h.l_blk, ⟨h.blk.1, fun i b w h1 h2 => by rw [upd_ne (h.nb h.p_bs h1)]; exact h.blk.2 i b w h1 h2⟩, ?_⟩ (fun b o e nb => by rw [upd_ne nb]; exact e)
 show (A.p :: A.mp :: A.c :: A.ib :: q :: A.pp :: A.bk :: A.bs).Nodup
 simp only [List.nodup_cons, List.mem_cons, not_or]
 exact ⟨⟨n.1.1, n.1.2.1, n.1.2.2.1, (fun e => h_ob.1 e.symm), n.1.2.2.2.2.1, n.1.2.2.2.2.2.1, n.1.2.2.2.2.2.2⟩, ⟨n.2.1.1, n.2.1.2.1, (fun e => h_ob.2.1 e.symm), n.2.1.2.2.2.1, n.2.1.2.2.2.2.1, n.2.1.2.2.2.2.2⟩, ⟨n.2.2.1.1, (fun e => h_ob.2.2.1 e.symm), n.2.2.1.2.2.1, n.2.2.1.2.2.2.1, n.2.2.1.2.2.2.2⟩, ⟨(fun e => h_ob.2.2.2.1 e.symm), n.2.2.2.1.2.1, n.2.2.2.1.2.2.1, n.2.2.2.1.2.2.2⟩, ⟨h_ob.2.2.2.2.2.1, h_ob.2.2.2.2.2.2.1, h_ob.2.2.2.2.2.2.2⟩, ⟨n.2.2.2.2.2.1.1, n.2.2.2.2.2.1.2⟩, n.2.2.2.2.2.2.1, n.2.2.2.2.2.2.2⟩
theorem n_pap {ys : List Int} {cl : Cls K CP} {na : NoAttr K CP "paper"} (h : PAt CP CM H A u) (hq : H q = some (.lst (ys.map V.int))) (hn : q ∉ foot A) (k : ∀ H', PAt CP CM H' { A with pp := q } { u with pap := ys } → (∀ b o, H b = some o → b ≠ A.p → H' b = some o) → PH H') :
  ∃ a C dx fs, V.ref A.p = .ref a ∧ H a = some (.ins C dx fs) ∧ Cls K C ∧ NoAttr K C "paper" ∧ fs.length < 1000 ∧ PH (upd H a (.ins C dx (putF "paper" (.ref q) fs))) := by
 have h_pp := nfoot hn
 have n := nds h.nd
 refine ⟨A.p, CP, A.dx, _, rfl, h.o, cl, na, len_fldsP _ _, ?_⟩
 rw [pf_paper]
 refine k _ ⟨upd_same, ⟨by rw [upd_ne h.mp_p]; exact h.m.ob, by rw [upd_ne h.c_p]; exact h.m.cl⟩, by rw [upd_ne h.ib_p]; exact h.l_in, by rw [upd_ne h.ob_p]; exact h.l_out, by rw [upd_ne h_pp.1]; exact hq, by rw [upd_ne h.bk_p]; exact h.l_blk, ⟨h.blk.1, fun i b w h1 h2 => by rw [upd_ne (h.nb h.p_bs h1)]; exact h.blk.2 i b w h1 h2⟩, ?_⟩ (fun b o e nb => by rw [upd_ne nb]; exact e)
 show (A.p :: A.mp :: A.c :: A.ib :: A.ob :: q :: A.bk :: A.bs).Nodup
 simp only [List.nodup_cons, List.mem_cons, not_or]
 exact ⟨⟨n.1.1, n.1.2.1, n.1.2.2.1, n.1.2.2.2.1, (fun e => h_pp.1 e.symm), n.1.2.2.2.2.2.1, n.1.2.2.2.2.2.2⟩, ⟨n.2.1.1, n.2.1.2.1, n.2.1.2.2.1, (fun e => h_pp.2.1 e.symm), n.2.1.2.2.2.2.1, n.2.1.2.2.2.2.2⟩, ⟨n.2.2.1.1, n.2.2.1.2.1, (fun e => h_pp.2.2.1 e.symm), n.2.2.1.2.2.2.1, n.2.2.1.2.2.2.2⟩, ⟨n.2.2.2.1.1, (fun e => h_pp.2.2.2.1 e.symm), n.2.2.2.1.2.2.1, n.2.2.2.1.2.2.2⟩, ⟨(fun e => h_pp.2.2.2.2.1 e.symm), n.2.2.2.2.1.2.1, n.2.2.2.2.1.2.2⟩, ⟨h_pp.2.2.2.2.2.2.1, h_pp.2.2.2.2.2.2.2⟩, n.2.2.2.2.2.2.1, n.2.2.2.2.2.2.2⟩
theorem n_blk {bk : Addr} {bs : List Addr} {ws : List (List Int)} {cl : Cls K CP} {na : NoAttr K CP "blocks"} (h : PAt CP CM H A u) (hk : H bk = some (.lst (bs.map V.ref))) (hb : Blk H bs ws) (hn : bk ∉ foot A) (h_bs : ∀ b ∈ bs, b ∉ foot A) (d_bk_bs : bk ∉ bs) (d_bs : bs.Nodup) (k : ∀ H', PAt CP CM H' { A with bk := bk, bs := bs } { u with blk := ws } → (∀ b o, H b = some o → b ≠ A.p → H' b = some o) → PH H') :
  ∃ a C dx fs, V.ref A.p = .ref a ∧ H a = some (.ins C dx fs) ∧ Cls K C ∧ NoAttr K C "blocks" ∧ fs.length < 1000 ∧ PH (upd H a (.ins C dx (putF "blocks" (.ref bk) fs))) := by
 have h_bk := nfoot hn
 have n := nds h.nd
 refine ⟨A.p, CP, A.dx, _, rfl, h.o, cl, na, len_fldsP _ _, ?_⟩
 rw [pf_blocks]
 refine k _ ⟨upd_same, ⟨by rw [upd_ne h.mp_p]; exact h.m.ob, by rw [upd_ne h.c_p]; exact h.m.cl⟩, by rw [upd_ne h.ib_p]; exact h.l_in, by rw [upd_ne h.ob_p]; exact h.l_out, by rw [upd_ne h.pp_p]; exact h.l_pap, by rw [upd_ne h_bk.1]; exact hk, ⟨hb.1, fun i b w h1 h2 => by rw [upd_ne (fun e => h_bs b (List.mem_of_getElem? h1) (by rw [e]; exact f_p))]; exact hb.2 i b w h1 h2⟩, ?_⟩ (fun b o e nb => by rw [upd_ne nb]; exact e)
 show (A.p :: A.mp :: A.c :: A.ib :: A.ob :: A.pp :: bk :: bs).Nodup
 simp only [List.nodup_cons, List.mem_cons, not_or]
 exact ⟨⟨n.1.1, n.1.2.1, n.1.2.2.1, n.1.2.2.2.1, n.1.2.2.2.2.1, (fun e => h_bk.1 e.symm), (fun z => h_bs _ z f_p)⟩, ⟨n.2.1.1, n.2.1.2.1, n.2.1.2.2.1, n.2.1.2.2.2.1, (fun e => h_bk.2.1 e.symm), (fun z => h_bs _ z f_mp)⟩, ⟨n.2.2.1.1, n.2.2.1.2.1, n.2.2.1.2.2.1, (fun e => h_bk.2.2.1 e.symm), (fun z => h_bs _ z f_c)⟩, ⟨n.2.2.2.1.1, n.2.2.2.1.2.1, (fun e => h_bk.2.2.2.1 e.symm), (fun z => h_bs _ z f_ib)⟩, ⟨n.2.2.2.2.1.1, (fun e => h_bk.2.2.2.2.1 e.symm), (fun z => h_bs _ z f_ob)⟩, ⟨(fun e => h_bk.2.2.2.2.2.1 e.symm), (fun z => h_bs _ z f_pp)⟩, d_bk_bs, d_bs⟩
end
structure PicS (K : PySem.W.Frag) (H : Hp) (t tc ti to_ tp tb : Addr) (tbs : List Addr) (u : Usr) : Prop where
 all : SqT K H t [.ref tc, .int u.m.total, .int u.m.mark, .int u.m.at_, .ref ti, .ref to_, .ref tp, .ref tb, .int u.sw, .str u.st.s, .int u.nap, .int u.lost, .int u.done]
 cel : SqT K H tc (u.m.cells.map V.int)
 inb : SqT K H ti (u.inb.map V.int)
 out : SqT K H to_ (u.outb.map V.int)
 pap : SqT K H tp (u.pap.map V.int)
 blk : SqT K H tb (tbs.map V.ref)
 bln : tbs.length = u.blk.length
 bls : ∀ (i : Nat) b w, tbs[i]? = some b → u.blk[i]? = some w → SqT K H b (w.map V.int)
theorem PicS.keep {K : PySem.W.Frag} {H H' : Hp} {t tc ti to_ tp tb : Addr} {tbs : List Addr} {u : Usr} (p : PicS K H t tc ti to_ tp tb tbs u) (s : Same H H') : PicS K H' t tc ti to_ tp tb tbs u :=
 ⟨s.seqT p.all, s.seqT p.cel, s.seqT p.inb, s.seqT p.out, s.seqT p.pap, s.seqT p.blk, p.bln, fun i b w h1 h2 => s.seqT (p.bls i b w h1 h2)⟩
theorem PicAt.s {K : PySem.W.Frag} {H : Hp} {t tc ti to_ tp tb : Addr} {tbs : List Addr} {u : Usr} (p : PicAt K H t tc ti to_ tp tb tbs u) : PicS K H t tc ti to_ tp tb tbs u :=
 ⟨SqT.of p.all, SqT.of p.cel, SqT.of p.inb, SqT.of p.out, SqT.of p.pap, SqT.of p.blk, p.bln, fun i b w h1 h2 => SqT.of (p.bls i b w h1 h2)⟩
def sp_of (K : PySem.W.Frag) (CP CM : Addr) : Sp := fun vs H Q _ => ∃ t tc ti to_ tp tb tbs u, vs = [.ref t] ∧ PicS K H t tc ti to_ tp tb tbs u ∧ u.m.cells.length ≤ 1000 ∧ u.blk.length ≤ 8 ∧
 ∀ A H', (∀ x ∈ foot A, H x = none) → PAt CP CM H' A u → Same H H' → Q (.ref A.p) H'
section
variable {P : Program} {w : World} {K : PySem.W.Frag} {mg : Str → Option Value} {base : Heap} {CP CM : Addr}
end
end Pp
namespace Pp
open PySem L2 Mir Pr Tx Lw Dm Us Du
section
variable {P : Program} {w : World} {K : PySem.W.Frag} {mg : Str → Option Value} {base : Heap} {CP CM : Addr}
theorem ok_of (R : Raw K mg "person_of" s_person_of) (T : TxtP K mg CP CM) (M_Person : GC P w K mg base "Person" CP ["self", "cells", "switches"] 3 (sp_initP K CP CM)) (M_Machine : GC P w K mg base "Machine" CM ["self", "cells", "total", "mark", "at"] 1 (sp_initT CM K)) : GF P w K mg base "person_of" ["told"] 5 (sp_of K CP CM) := by
 refine GF.mk R sc_person_of (by wtm_at "1") (fun vs H Q E h => ?_) (fun f cdv A outer s H vs Q E hr h => ?_)
 ·obtain ⟨t, tc, ti, to_, tp, tb, tbs, u, rfl, _⟩ := h; rfl
 ·obtain ⟨t, tc, ti, to_, tp, tb, tbs, u, rfl, p, hcl, hbl, k⟩ := h
  refine ⟨_, (@pss_cons _ _ _ _ _ (@ps_set _ _ (1) _ _ _ _ sc_person_of.nd rfl (Or.inl rfl) (@pe_gmakeN _ _ _ _ _ _ _ _ _ _ _ M_Person (hr.mono (by decide)) rfl (@pa_c _ _ _ _ _ (@pe_ix _ _ _ _ _ _ _ (ix_tupK (K := K) rfl) (pv 0) pe_int (fun _ _ => rfl)) (@pa_c _ _ _ _ _ (@pe_ix _ _ _ _ _ _ _ (ix_tupK (K := K) rfl) (pv 0) pe_int (fun _ _ => rfl)) pa_nil rfl) rfl) (by decide) rfl) rfl (by first | exact .inl rfl | exact .inr rfl | assumption)) (@pss_cons _ _ _ _ _ (@ps_fldK _ (K) _ _ _ _ _ _ _ rfl (pv 1) (@pe_gmakeN _ _ _ _ _ _ _ _ _ _ _ M_Machine (hr.mono (by decide)) rfl (@pa_c _ _ _ _ _ (@pe_ix _ _ _ _ _ _ _ (ix_tupK (K := K) rfl) (pv 0) pe_int (fun _ _ => rfl)) (@pa_c _ _ _ _ _ (@pe_ix _ _ _ _ _ _ _ (ix_tupK (K := K) rfl) (pv 0) pe_int (fun _ _ => rfl)) (@pa_c _ _ _ _ _ (@pe_ix _ _ _ _ _ _ _ (ix_tupK (K := K) rfl) (pv 0) pe_int (fun _ _ => rfl)) (@pa_c _ _ _ _ _ (@pe_ix _ _ _ _ _ _ _ (ix_tupK (K := K) rfl) (pv 0) pe_int (fun _ _ => rfl)) pa_nil rfl) rfl) rfl) rfl) (by decide) rfl) rfl) (@pss_cons _ _ _ _ _ (@ps_fldK _ (K) _ _ _ _ _ _ _ rfl (pv 1) (@pe_callTyN _ _ _ _ _ _ _ _ _ (call_list_ofK (K := K) rfl) (by rfl) T.list_ bo_list (@pa_c _ _ _ _ _ (@pe_ix _ _ _ _ _ _ _ (ix_tupK (K := K) rfl) (pv 0) pe_int (fun _ _ => rfl)) pa_nil rfl) (by decide) (by decide) rfl) rfl) (@pss_cons _ _ _ _ _ (@ps_fldK _ (K) _ _ _ _ _ _ _ rfl (pv 1) (@pe_callTyN _ _ _ _ _ _ _ _ _ (call_list_ofK (K := K) rfl) (by rfl) T.list_ bo_list (@pa_c _ _ _ _ _ (@pe_ix _ _ _ _ _ _ _ (ix_tupK (K := K) rfl) (pv 0) pe_int (fun _ _ => rfl)) pa_nil rfl) (by decide) (by decide) rfl) rfl) (@pss_cons _ _ _ _ _ (@ps_fldK _ (K) _ _ _ _ _ _ _ rfl (pv 1) (@pe_callTyN _ _ _ _ _ _ _ _ _ (call_list_ofK (K := K) rfl) (by rfl) T.list_ bo_list (@pa_c _ _ _ _ _ (@pe_ix _ _ _ _ _ _ _ (ix_tupK (K := K) rfl) (pv 0) pe_int (fun _ _ => rfl)) pa_nil rfl) (by decide) (by decide) rfl) rfl) (@pss_cons _ _ _ _ _ (@ps_fldK _ (K) _ _ _ _ _ _ _ rfl (pv 1) (@pe_lcomp _ _ _ _ _ _ _ _ _ _ _ _ ([]) rfl (@pi_tupK _ (K) _ _ _ rfl (@pe_ix _ _ _ _ _ _ _ (ix_tupK (K := K) rfl) (pv 0) pe_int (fun _ _ => rfl))) ⟨rfl, rfl, by decide +kernel, by decide +kernel, rfl, by decide +kernel, trivial, rfl, trivial⟩ (fun _ _ _ _ => pts_nil) (fun _ _ _ _ => (@pe_callTyN _ _ _ _ _ _ _ _ _ (call_list_ofK (K := K) rfl) (by rfl) T.list_ bo_list (@pa_c _ _ _ _ _ (pv 0) pa_nil rfl) (by decide) (by decide) rfl)) (fun _ => rfl)) rfl) (@pss_cons _ _ _ _ _ (@ps_fldK _ (K) _ _ _ _ _ _ _ rfl (pv 1) (@pe_ix _ _ _ _ _ _ _ (ix_tupK (K := K) rfl) (pv 0) pe_int (fun _ _ => rfl)) rfl) (@pss_cons _ _ _ _ _ (@ps_fldK _ (K) _ _ _ _ _ _ _ rfl (pv 1) (@pe_ix _ _ _ _ _ _ _ (ix_tupK (K := K) rfl) (pv 0) pe_int (fun _ _ => rfl)) rfl) (@pss_cons _ _ _ _ _ (@ps_fldK _ (K) _ _ _ _ _ _ _ rfl (pv 1) (@pe_ix _ _ _ _ _ _ _ (ix_tupK (K := K) rfl) (pv 0) pe_int (fun _ _ => rfl)) rfl) (@pss_cons _ _ _ _ _ (@ps_fldK _ (K) _ _ _ _ _ _ _ rfl (pv 1) (@pe_ix _ _ _ _ _ _ _ (ix_tupK (K := K) rfl) (pv 0) pe_int (fun _ _ => rfl)) rfl) (@pss_one _ _ _ (@ps_ret _ _ _ _ (pv 1))))))))))))), ?_⟩
  wtm_at "uu"
  refine ixTS (i := 0) p.all rfl ?_
  wtm_at "uu"
  refine ixTS (i := 8) p.all rfl ?_
  wtm_at "uu"
  refine make_p (.inr p.cel) hcl fun B H1 nB D1 s1 => ?_
  have p1 := p.keep s1
  have sm : ∀ {H2 H3 : Hp}, Same H H2 → (∀ b o, H2 b = some o → b ≠ B.p → H3 b = some o) → Same H H3 := fun s f b o e => f b o (s b o e) fun z => by rw [z, nB _ f_p] at e; cases e
  wtm_at "uu"
  refine ixTS (i := 0) p1.all rfl ?_
  wtm_at "uu"
  refine ixTS (i := 1) p1.all rfl ?_
  wtm_at "uu"
  refine ixTS (i := 2) p1.all rfl ?_
  wtm_at "uu"
  refine ixTS (i := 3) p1.all rfl ?_
  wtm_at "uu"
  refine make_mT (.inr p1.cel) hcl fun mp c dm H2 nmp nc M2 s2 => ?_
  wtm_at "uu"
  refine n_mach (cl := T.clP) (na := T.n_machine) (D1.keep s2) M2 (D1.fresh nmp) (D1.fresh nc) fun H3 D3 F3 => ?_
  have s3 : Same H H3 := sm (s1.trans s2) F3
  have nB3 : ∀ x ∈ foot { B with mp := mp, c := c, dm := dm }, H x = none := by
   intro x hx
   have hx' : x ∈ B.p :: mp :: c :: B.ib :: B.ob :: B.pp :: B.bk :: B.bs := hx
   simp only [List.mem_cons] at hx'
   rcases hx' with e | e | e | e | e | e | e | e
   ·rw [e]; exact nB _ f_p
   ·rw [e]; exact s1.free nmp
   ·rw [e]; exact s1.free nc
   ·rw [e]; exact nB _ f_ib
   ·rw [e]; exact nB _ f_ob
   ·rw [e]; exact nB _ f_pp
   ·rw [e]; exact nB _ f_bk
   ·exact nB _ (f_bs e)
  have ep : B.p = ({ B with mp := mp, c := c, dm := dm } : PAd).p := rfl
  rw [ep] at sm ⊢
  generalize ({ B with mp := mp, c := c, dm := dm } : PAd) = B at sm nB3 D3 ⊢
  clear nB D1 ep F3
  have p3 := p.keep s3
  wtm_at "uu"
  refine ixTS (i := 4) p3.all rfl ?_
  wtm_at "uu"
  refine ⟨_, _, rfl, .inr p3.inb, fun q3 nq3 => ?_⟩
  have nH3 := s3.free nq3
  wtm_at "uu"
  refine n_in (cl := T.clP) (na := T.n_inbox) (D3.new nq3) upd_same (D3.fresh nq3) fun H4 D4 F4 => ?_
  have s4 : Same H H4 := sm (s3.new' nq3) F4
  have nB4 : ∀ x ∈ foot { B with ib := q3 }, H x = none := by
   intro x hx
   have hx' : x ∈ B.p :: B.mp :: B.c :: q3 :: B.ob :: B.pp :: B.bk :: B.bs := hx
   simp only [List.mem_cons] at hx'
   rcases hx' with e | e | e | e | e | e | e | e
   ·rw [e]; exact nB3 _ f_p
   ·rw [e]; exact nB3 _ f_mp
   ·rw [e]; exact nB3 _ f_c
   ·rw [e]; exact nH3
   ·rw [e]; exact nB3 _ f_ob
   ·rw [e]; exact nB3 _ f_pp
   ·rw [e]; exact nB3 _ f_bk
   ·exact nB3 _ (f_bs e)
  have ep : B.p = ({ B with ib := q3 } : PAd).p := rfl
  rw [ep] at sm ⊢
  generalize ({ B with ib := q3 } : PAd) = B at sm nB4 D4 ⊢
  clear nB3 D3 ep F4
  have p4 := p.keep s4
  wtm_at "uu"
  refine ixTS (i := 5) p4.all rfl ?_
  wtm_at "uu"
  refine ⟨_, _, rfl, .inr p4.out, fun q4 nq4 => ?_⟩
  have nH4 := s4.free nq4
  wtm_at "uu"
  refine n_out (cl := T.clP) (na := T.n_outbox) (D4.new nq4) upd_same (D4.fresh nq4) fun H5 D5 F5 => ?_
  have s5 : Same H H5 := sm (s4.new' nq4) F5
  have nB5 : ∀ x ∈ foot { B with ob := q4 }, H x = none := by
   intro x hx
   have hx' : x ∈ B.p :: B.mp :: B.c :: B.ib :: q4 :: B.pp :: B.bk :: B.bs := hx
   simp only [List.mem_cons] at hx'
   rcases hx' with e | e | e | e | e | e | e | e
   ·rw [e]; exact nB4 _ f_p
   ·rw [e]; exact nB4 _ f_mp
   ·rw [e]; exact nB4 _ f_c
   ·rw [e]; exact nB4 _ f_ib
   ·rw [e]; exact nH4
   ·rw [e]; exact nB4 _ f_pp
   ·rw [e]; exact nB4 _ f_bk
   ·exact nB4 _ (f_bs e)
  have ep : B.p = ({ B with ob := q4 } : PAd).p := rfl
  rw [ep] at sm ⊢
  generalize ({ B with ob := q4 } : PAd) = B at sm nB5 D5 ⊢
  clear nB4 D4 ep F5
  have p5 := p.keep s5
  wtm_at "uu"
  refine ixTS (i := 6) p5.all rfl ?_
  wtm_at "uu"
  refine ⟨_, _, rfl, .inr p5.pap, fun q5 nq5 => ?_⟩
  have nH5 := s5.free nq5
  wtm_at "uu"
  refine n_pap (cl := T.clP) (na := T.n_paper) (D5.new nq5) upd_same (D5.fresh nq5) fun H6 D6 F6 => ?_
  have s6 : Same H H6 := sm (s5.new' nq5) F6
  have nB6 : ∀ x ∈ foot { B with pp := q5 }, H x = none := by
   intro x hx
   have hx' : x ∈ B.p :: B.mp :: B.c :: B.ib :: B.ob :: q5 :: B.bk :: B.bs := hx
   simp only [List.mem_cons] at hx'
   rcases hx' with e | e | e | e | e | e | e | e
   ·rw [e]; exact nB5 _ f_p
   ·rw [e]; exact nB5 _ f_mp
   ·rw [e]; exact nB5 _ f_c
   ·rw [e]; exact nB5 _ f_ib
   ·rw [e]; exact nB5 _ f_ob
   ·rw [e]; exact nH5
   ·rw [e]; exact nB5 _ f_bk
   ·exact nB5 _ (f_bs e)
  have ep : B.p = ({ B with pp := q5 } : PAd).p := rfl
  rw [ep] at sm ⊢
  generalize ({ B with pp := q5 } : PAd) = B at sm nB6 D6 ⊢
  clear nB5 D5 ep F6
  have p6 := p.keep s6
  wtm_at "uu"
  refine ixTS (i := 7) p6.all rfl ?_
  have htl : tbs.length ≤ 8 := by rw [p.bln]; exact hbl
  refine ⟨tb, rfl, ⟨_, p6.blk⟩, lc_tupI (xs := tbs.map V.ref) (fun i acc H' => Same H6 H' ∧ ∃ bs : List Addr, bs.length = i ∧ acc = bs.map V.ref ∧ (∀ (j : Nat) b w, bs[j]? = some b → u.blk[j]? = some w → H' b = some (.lst (w.map V.int))) ∧ bs.Nodup ∧ (∀ b ∈ bs, H6 b = none) ∧ ∀ b ∈ bs, ∃ o, H' b = some o) (by rw [List.length_map, sizeLine_eq]; omega) ⟨Same.refl _, [], rfl, rfl, by simp, List.nodup_nil, by simp, by simp⟩ (fun i acc H' h => ?_) (fun i acc H' h => h.1.seqT p6.blk) (fun i x acc H' hx h Q' q' => ?_) (fun acc H7 h bk nbk => ?_)⟩
  ·obtain ⟨_, bs, hl, rfl, _⟩ := h
   rw [List.length_map]; exact hl
  ·obtain ⟨sm6, bs, hl, rfl, hb, hn, hf, ha⟩ := h
   rw [List.getElem?_map] at hx
   cases hbx : tbs[i]? with
   | none => rw [hbx] at hx; cases hx
   | some b =>
    rw [hbx] at hx
    cases hx
    have hi : i < u.blk.length := by
     rw [← p.bln]
     rcases Nat.lt_or_ge i tbs.length with z | z
     ·exact z
     ·rw [List.getElem?_eq_none z] at hbx; cases hbx
    have hbh := sm6.seqT (p6.bls i b u.blk[i] hbx (List.getElem?_eq_getElem hi))
    wtm_at "uu"
    refine ⟨b, _, rfl, .inr hbh, fun tn ntn => ?_⟩
    have ntb : tn ∉ bs := fun z => by obtain ⟨o, e⟩ := ha tn z; rw [e] at ntn; cases ntn
    refine q' _ _ ⟨sm6.new' ntn, bs ++ [tn], by rw [List.length_append, hl]; rfl, by rw [List.map_append]; rfl, fun j b2 w2 h1 h2 => ?_, ?_, fun b2 hb2 => ?_, fun b2 hb2 => ?_⟩
    ·rcases Nat.lt_or_ge j bs.length with z | z
     ·rw [List.getElem?_append_left z] at h1
      have := hb j b2 w2 h1 h2
      rw [upd_ne (ne_of_none this ntn)]
      exact this
     ·rw [List.getElem?_append_right z] at h1
      have ej : j = bs.length := by
       rcases Nat.lt_or_ge (j - bs.length) 1 with z2 | z2
       ·omega
       ·rw [List.getElem?_eq_none (by simpa using z2)] at h1; cases h1
      subst ej
      rw [Nat.sub_self] at h1
      cases h1
      rw [hl, List.getElem?_eq_getElem hi] at h2
      cases h2
      exact upd_same
    ·rw [List.nodup_append]
     exact ⟨hn, by simp, fun x hx y hy => by rw [List.mem_singleton.mp hy]; exact fun e => ntb (by rw [← e]; exact hx)⟩
    ·rcases List.mem_append.mp hb2 with z | z
     ·exact hf b2 z
     ·rw [List.mem_singleton.mp z]; exact sm6.free ntn
    ·rcases List.mem_append.mp hb2 with z | z
     ·obtain ⟨o, e⟩ := ha b2 z
      exact ⟨o, by rw [upd_ne (ne_of_none e ntn)]; exact e⟩
     ·rw [List.mem_singleton.mp z]; exact ⟨_, upd_same⟩
  obtain ⟨s67, bs, hbs, rfl, hb, hn, hf, ha⟩ := h
  rw [List.length_map] at hbs
  have nbs : bk ∉ bs := fun z => by obtain ⟨o, e⟩ := ha bk z; rw [e] at nbk; cases nbk
  have s7 : Same H6 (upd H7 bk (.lst (bs.map V.ref))) := s67.new' nbk
  have hB : Blk (upd H7 bk (.lst (bs.map V.ref))) bs u.blk := ⟨by rw [hbs]; exact p.bln, fun i b w h1 h2 => by rw [upd_ne (ne_of_none (hb i b w h1 h2) nbk)]; exact hb i b w h1 h2⟩
  wtm_at "uu"
  refine n_blk (cl := T.clP) (na := T.n_blocks) (D6.keep s7) upd_same hB ((D6.keep s67).fresh nbk) (fun b z => D6.fresh (hf b z)) nbs hn fun H8 D8 F8 => ?_
  have s8 : Same H H8 := sm (s6.trans s7) F8
  have nH := s6.free (s67.free nbk)
  have nB8 : ∀ x ∈ foot { B with bk := bk, bs := bs }, H x = none := by
   intro x hx
   have hx' : x ∈ B.p :: B.mp :: B.c :: B.ib :: B.ob :: B.pp :: bk :: bs := hx
   simp only [List.mem_cons] at hx'
   rcases hx' with e | e | e | e | e | e | e | e
   ·rw [e]; exact nB6 _ f_p
   ·rw [e]; exact nB6 _ f_mp
   ·rw [e]; exact nB6 _ f_c
   ·rw [e]; exact nB6 _ f_ib
   ·rw [e]; exact nB6 _ f_ob
   ·rw [e]; exact nB6 _ f_pp
   ·rw [e]; exact nH
   ·exact s6.free (hf x e)
  have ep : B.p = ({ B with bk := bk, bs := bs } : PAd).p := rfl
  rw [ep] at sm ⊢
  generalize ({ B with bk := bk, bs := bs } : PAd) = B at sm nB8 D8 ⊢
  clear nB6 D6 ep F8 hB
  wtm_at "uu"
  refine ixTS (i := 9) (p.keep s8).all rfl ?_
  wtm_at "uu"
  refine w_state (y := u.st) T D8 fun H9 D9 F9 => ?_
  have s9 : Same H H9 := FrL.toSame s8 F9 nB8
  wtm_at "uu"
  refine ixTS (i := 10) (p.keep s9).all rfl ?_
  wtm_at "uu"
  refine w_nap (y := u.nap) T D9 fun H10 D10 F10 => ?_
  have s10 : Same H H10 := FrL.toSame s9 F10 nB8
  wtm_at "uu"
  refine ixTS (i := 11) (p.keep s10).all rfl ?_
  wtm_at "uu"
  refine w_lost (y := u.lost) T D10 fun H11 D11 F11 => ?_
  have s11 : Same H H11 := FrL.toSame s10 F11 nB8
  wtm_at "uu"
  refine ixTS (i := 12) (p.keep s11).all rfl ?_
  wtm_at "uu"
  refine w_done (y := u.done) T D11 fun H12 D12 F12 => ?_
  have s12 : Same H H12 := FrL.toSame s11 F12 nB8
  wtm_at "uu"
  exact k B H12 nB8 D12 s12
end
end Pp
namespace Pp
open PySem L2 Mir Pr Tx Lw Dm Us Du
theorem pf_cellsM (c q : Addr) (m : Mach) : putF "cells" (.ref q) (fldsM c m) = fldsM q m := by
 unfold fldsM; rw [putF_hit]
theorem n_load {CP CM : Addr} {H : Hp} {A : PAd} {u : Usr} {q : Addr} {c : List Int} (h : PAt CP CM H A u) (hq : H q = some (.lst (c.map V.int))) (hn : q ∉ foot A) : PAt CP CM (upd H A.mp (.ins CM A.dm (fldsM q u.m))) { A with c := q } { u with m := { u.m with cells := c } } := by
 have h_c : ¬ q = A.p ∧ ¬ q = A.mp ∧ ¬ q = A.c ∧ ¬ q = A.ib ∧ ¬ q = A.ob ∧ ¬ q = A.pp ∧ ¬ q = A.bk ∧ q ∉ A.bs := by
  have h := hn
  unfold foot at h
  simp only [List.mem_cons, not_or] at h
  exact h
 have n := nds h.nd
 refine ⟨by rw [upd_ne h.p_mp]; exact h.o, ⟨upd_same, by rw [upd_ne h_c.2.1]; exact hq⟩, by rw [upd_ne h.ib_mp]; exact h.l_in, by rw [upd_ne h.ob_mp]; exact h.l_out, by rw [upd_ne h.pp_mp]; exact h.l_pap, by rw [upd_ne h.bk_mp]; exact h.l_blk, ⟨h.blk.1, fun i b w h1 h2 => by rw [upd_ne (h.nb h.mp_bs h1)]; exact h.blk.2 i b w h1 h2⟩, ?_⟩
 show (A.p :: A.mp :: q :: A.ib :: A.ob :: A.pp :: A.bk :: A.bs).Nodup
 simp only [List.nodup_cons, List.mem_cons, not_or]
 exact ⟨⟨n.1.1, (fun e => h_c.1 e.symm), n.1.2.2.1, n.1.2.2.2.1, n.1.2.2.2.2.1, n.1.2.2.2.2.2.1, n.1.2.2.2.2.2.2⟩, ⟨(fun e => h_c.2.1 e.symm), n.2.1.2.1, n.2.1.2.2.1, n.2.1.2.2.2.1, n.2.1.2.2.2.2.1, n.2.1.2.2.2.2.2⟩, ⟨h_c.2.2.2.1, h_c.2.2.2.2.1, h_c.2.2.2.2.2.1, h_c.2.2.2.2.2.2.1, h_c.2.2.2.2.2.2.2⟩, ⟨n.2.2.2.1.1, n.2.2.2.1.2.1, n.2.2.2.1.2.2.1, n.2.2.2.1.2.2.2⟩, ⟨n.2.2.2.2.1.1, n.2.2.2.2.1.2.1, n.2.2.2.2.1.2.2⟩, ⟨n.2.2.2.2.2.1.1, n.2.2.2.2.2.1.2⟩, n.2.2.2.2.2.2.1, n.2.2.2.2.2.2.2⟩
end Pp
namespace Hs
open PySem Mir Us
structure Hse where
 us : List Usr
 di : List (List Ev)
 rooms : List (Option Nat)
 quantum : Int
 beat : Int
 runs : Option Nat
 row : List Nat
 steps : Int
 idle : Int
 ticks : Int
 swaps : Int
 turn : Int
 left : Int
def U0 : Usr := newU (List.replicate 64 0) 0
def usr (s : Hse) (u : Nat) : Usr := s.us.getD u U0
def happenIn (s : Hse) (u : Nat) (e : Ev) : Hse :=
 { s with us := s.us.set u (happenU (usr s u) e), di := s.di.set u (s.di.getD u [] ++ [e]), row := if (happenU (usr s u) e).st = .ready ∧ ¬ (usr s u).st = .ready then s.row ++ [u] else s.row }
def findR (u : Nat) : List (Option Nat) → Option Nat
 | [] => none
 | g :: r => if g = some u then some 0 else (findR u r).map (· + 1)
def bringIn (s : Hse) (u : Nat) : Hse :=
 match findR u s.rooms with
 | some _ => s
 | none => { s with rooms := s.rooms.set s.turn.toNat (some u), swaps := s.swaps + 1, turn := (s.turn + 1) % (s.rooms.length : Int) }
def letNext (s : Hse) : Hse :=
 match s.runs, s.row with
 | none, u :: r => bringIn { s with runs := some u, row := r, left := s.quantum } u
 | _, _ => s
def endTurn (s : Hse) : Hse := { s with runs := none, left := 0 }
def shorten (s : Hse) (u : Nat) : Hse := if s.left - 1 = 0 then endTurn { s with left := s.left - 1, row := s.row ++ [u] } else { s with left := s.left - 1 }
def ticksN : Nat → Hse → Hse
 | 0, s => s
 | n + 1, s => happenIn (ticksN n s) n .tick
def lastT (s : Hse) : Hse := match s.runs with
 | none => s
 | some u => shorten s u
def doTick (s : Hse) : Hse := lastT (ticksN s.us.length { s with ticks := s.ticks + 1 })
def stepWho (s : Hse) (u : Nat) : Hse := if (usr (happenIn s u .step) u).st = .ready then happenIn s u .step else endTurn (happenIn s u .step)
def step1 (s : Hse) : Hse := match s.runs with
 | none => { s with steps := s.steps + 1, idle := s.idle + 1 }
 | some u => stepWho { s with steps := s.steps + 1 } u
def step2 (s : Hse) : Hse := if s.steps % s.beat = 0 then doTick s else s
def doStep (s : Hse) : Hse := letNext (step2 (step1 s))
def runN : Nat → Hse → Hse
 | 0, s => s
 | n + 1, s => doStep (runN n s)
def startH (s : Hse) (u : Nat) (p : Int) : Hse := letNext (happenIn s u (.start p))
def keyH (s : Hse) (u : Nat) (l : Int) : Hse := letNext (happenIn s u (.key l))
def setU (s : Hse) (u : Nat) (x : Usr) : Hse := { s with us := s.us.set u x }
def loadH (s : Hse) (u : Nat) (c : List Int) : Hse := setU s u { usr s u with m := { (usr s u).m with cells := c } }
def switchH (s : Hse) (u : Nat) (w : Int) : Hse := setU s u { usr s u with sw := w }
def newH (n r : Nat) (q b : Int) : Hse := ⟨List.replicate n U0, List.replicate n [], List.replicate r none, q, b, none, [], 0, 0, 0, 0, 0, 0⟩
end Hs
namespace Hs
open PySem L2 Mir Pr Tx Lw Dm Us Du Pp
structure HAd where
 h : Addr
 dx : Addr
 lp : Addr
 ld : Addr
 lr : Addr
 lw : Addr
 ps : List PAd
 ds : List Addr
def vU : Option Nat → V
 | none => .non
 | some n => .int (n : Int)
def core (A : HAd) : List Addr := A.h :: A.lp :: A.ld :: A.lr :: A.lw :: A.ds
def footH (A : HAd) : List Addr := core A ++ A.ps.flatMap foot
def rowV (r : List Nat) : List V := r.map fun (n : Nat) => V.int (n : Int)
def fldsH (A : HAd) (s : Hse) : List (Str × V) := [("people", .ref A.lp), ("diaries", .ref A.ld), ("rooms", .ref A.lr), ("quantum", .int s.quantum), ("beat", .int s.beat), ("runs", vU s.runs), ("row", .ref A.lw), ("steps", .int s.steps), ("idle", .int s.idle), ("ticks", .int s.ticks), ("swaps", .int s.swaps), ("turn", .int s.turn), ("left", .int s.left)]
theorem len_fldsH (A : HAd) (s : Hse) : (fldsH A s).length < 1000 := by show 13 < 1000; decide
theorem lk_people (A : HAd) (s : Hse) : (fldsH A s).lookup ("people" : Str) = some (.ref A.lp) := by
 unfold fldsH; exact look_hit
theorem lk_diaries (A : HAd) (s : Hse) : (fldsH A s).lookup ("diaries" : Str) = some (.ref A.ld) := by
 unfold fldsH; wtm_at "l"
theorem lk_rooms (A : HAd) (s : Hse) : (fldsH A s).lookup ("rooms" : Str) = some (.ref A.lr) := by
 unfold fldsH; wtm_at "l"
theorem lk_quantum (A : HAd) (s : Hse) : (fldsH A s).lookup ("quantum" : Str) = some (.int s.quantum) := by
 unfold fldsH; wtm_at "l"
theorem lk_beat (A : HAd) (s : Hse) : (fldsH A s).lookup ("beat" : Str) = some (.int s.beat) := by
 unfold fldsH; wtm_at "l"
theorem lk_runs (A : HAd) (s : Hse) : (fldsH A s).lookup ("runs" : Str) = some (vU s.runs) := by
 unfold fldsH; wtm_at "l"
theorem lk_row (A : HAd) (s : Hse) : (fldsH A s).lookup ("row" : Str) = some (.ref A.lw) := by
 unfold fldsH; wtm_at "l"
theorem lk_steps (A : HAd) (s : Hse) : (fldsH A s).lookup ("steps" : Str) = some (.int s.steps) := by
 unfold fldsH; wtm_at "l"
theorem lk_idle (A : HAd) (s : Hse) : (fldsH A s).lookup ("idle" : Str) = some (.int s.idle) := by
 unfold fldsH; wtm_at "l"
theorem lk_ticks (A : HAd) (s : Hse) : (fldsH A s).lookup ("ticks" : Str) = some (.int s.ticks) := by
 unfold fldsH; wtm_at "l"
theorem lk_swaps (A : HAd) (s : Hse) : (fldsH A s).lookup ("swaps" : Str) = some (.int s.swaps) := by
 unfold fldsH; wtm_at "l"
theorem lk_turn (A : HAd) (s : Hse) : (fldsH A s).lookup ("turn" : Str) = some (.int s.turn) := by
 unfold fldsH; wtm_at "l"
theorem lk_left (A : HAd) (s : Hse) : (fldsH A s).lookup ("left" : Str) = some (.int s.left) := by
 unfold fldsH; wtm_at "l"
theorem pf_runs (A : HAd) (s : Hse) (y : Option Nat) : putF "runs" (vU y) (fldsH A s) = fldsH A { s with runs := y } := by
 unfold fldsH; wtm_at "p"
theorem pf_steps (A : HAd) (s : Hse) (y : Int) : putF "steps" (.int y) (fldsH A s) = fldsH A { s with steps := y } := by
 unfold fldsH; wtm_at "p"
theorem pf_idle (A : HAd) (s : Hse) (y : Int) : putF "idle" (.int y) (fldsH A s) = fldsH A { s with idle := y } := by
 unfold fldsH; wtm_at "p"
theorem pf_ticks (A : HAd) (s : Hse) (y : Int) : putF "ticks" (.int y) (fldsH A s) = fldsH A { s with ticks := y } := by
 unfold fldsH; wtm_at "p"
theorem pf_swaps (A : HAd) (s : Hse) (y : Int) : putF "swaps" (.int y) (fldsH A s) = fldsH A { s with swaps := y } := by
 unfold fldsH; wtm_at "p"
theorem pf_turn (A : HAd) (s : Hse) (y : Int) : putF "turn" (.int y) (fldsH A s) = fldsH A { s with turn := y } := by
 unfold fldsH; wtm_at "p"
theorem pf_left (A : HAd) (s : Hse) (y : Int) : putF "left" (.int y) (fldsH A s) = fldsH A { s with left := y } := by
 unfold fldsH; wtm_at "p"
structure HAt (CH CP CM : Addr) (H : Hp) (A : HAd) (s : Hse) : Prop where
 o : H A.h = some (.ins CH A.dx (fldsH A s))
 lp : H A.lp = some (.lst (A.ps.map fun B => V.ref B.p))
 ld : H A.ld = some (.lst (A.ds.map V.ref))
 lr : H A.lr = some (.lst (s.rooms.map vU))
 lw : H A.lw = some (.lst (rowV s.row))
 ul : A.ps.length = s.us.length
 us : ∀ (i : Nat) B u, A.ps[i]? = some B → s.us[i]? = some u → PAt CP CM H B u
 dl : A.ds.length = s.di.length
 di : ∀ (i : Nat) d e, A.ds[i]? = some d → s.di[i]? = some e → ∃ rs, EvsAt H d rs e
 nd0 : (core A).Nodup
 nd1 : ∀ (i : Nat) B, A.ps[i]? = some B → ∀ x ∈ foot B, x ∉ core A
 nd2 : ∀ (i j : Nat) B C, i ≠ j → A.ps[i]? = some B → A.ps[j]? = some C → ∀ x ∈ foot B, x ∉ foot C
structure TxtH (K : PySem.W.Frag) (mg : Str → Option Value) (CH CP CM : Addr) : Prop extends TxtP K mg CP CM where
 clH : Cls K CH
 n_people : NoAttr K CH "people"
 n_diaries : NoAttr K CH "diaries"
 n_rooms : NoAttr K CH "rooms"
 n_quantum : NoAttr K CH "quantum"
 n_beat : NoAttr K CH "beat"
 n_runs : NoAttr K CH "runs"
 n_row : NoAttr K CH "row"
 n_steps : NoAttr K CH "steps"
 n_idle : NoAttr K CH "idle"
 n_ticks : NoAttr K CH "ticks"
 n_swaps : NoAttr K CH "swaps"
 n_turn : NoAttr K CH "turn"
 n_left : NoAttr K CH "left"
 enumerate_ : mg "enumerate" = none
section
variable {CH CP CM : Addr} {H H' : Hp} {A : HAd} {s s' : Hse} {K : PySem.W.Frag} {mg : Str → Option Value} {q : Addr} {ho : HO} {Q : VK} {PH : Hp → Prop} {P : V → Prop}
theorem nds0 (h : (core A).Nodup) : (¬ A.h = A.lp ∧ ¬ A.h = A.ld ∧ ¬ A.h = A.lr ∧ ¬ A.h = A.lw ∧ A.h ∉ A.ds) ∧ (¬ A.lp = A.ld ∧ ¬ A.lp = A.lr ∧ ¬ A.lp = A.lw ∧ A.lp ∉ A.ds) ∧ (¬ A.ld = A.lr ∧ ¬ A.ld = A.lw ∧ A.ld ∉ A.ds) ∧ (¬ A.lr = A.lw ∧ A.lr ∉ A.ds) ∧ A.lw ∉ A.ds ∧ A.ds.Nodup := by
 have n := h
 unfold core at n
 simp only [List.nodup_cons, List.mem_cons, not_or] at n
 exact n
theorem c_h : A.h ∈ core A := List.mem_cons_self
theorem c_lp : A.lp ∈ core A := List.mem_cons_of_mem _ List.mem_cons_self
theorem c_ld : A.ld ∈ core A := List.mem_cons_of_mem _ (List.mem_cons_of_mem _ List.mem_cons_self)
theorem c_lr : A.lr ∈ core A := List.mem_cons_of_mem _ (List.mem_cons_of_mem _ (List.mem_cons_of_mem _ List.mem_cons_self))
theorem c_lw : A.lw ∈ core A := List.mem_cons_of_mem _ (List.mem_cons_of_mem _ (List.mem_cons_of_mem _ (List.mem_cons_of_mem _ List.mem_cons_self)))
theorem c_ds {d : Addr} (h : d ∈ A.ds) : d ∈ core A := List.mem_cons_of_mem _ (List.mem_cons_of_mem _ (List.mem_cons_of_mem _ (List.mem_cons_of_mem _ (List.mem_cons_of_mem _ h))))
theorem h_core {x : Addr} (h : x ∈ core A) : x ∈ footH A := List.mem_append_left _ h
theorem h_foot {i : Nat} {B : PAd} (h : A.ps[i]? = some B) {x : Addr} (hx : x ∈ foot B) : x ∈ footH A := List.mem_append_right _ (List.mem_flatMap.mpr ⟨B, List.mem_of_getElem? h, hx⟩)
theorem h_cases {x : Addr} (h : x ∈ footH A) : x ∈ core A ∨ ∃ (i : Nat) (B : PAd), A.ps[i]? = some B ∧ x ∈ foot B := by
 rcases List.mem_append.mp h with z | z
 ·exact .inl z
 ·obtain ⟨B, hB, hx⟩ := List.mem_flatMap.mp z
  obtain ⟨i, hi, e⟩ := List.getElem_of_mem hB
  exact .inr ⟨i, B, by rw [List.getElem?_eq_getElem hi, e], hx⟩
theorem HAt.same (h : HAt CH CP CM H A s) (e : s = s') : HAt CH CP CM H A s' := by rw [← e]; exact h
theorem HAt.move (h : HAt CH CP CM H A s) (m : ∀ x ∈ footH A, ∀ o, H x = some o → H' x = some o) (t : ∀ x xs, H x = some (.tup xs) → H' x = some (.tup xs)) : HAt CH CP CM H' A s :=
 ⟨m _ (h_core c_h) _ h.o, m _ (h_core c_lp) _ h.lp, m _ (h_core c_ld) _ h.ld, m _ (h_core c_lr) _ h.lr, m _ (h_core c_lw) _ h.lw, h.ul, fun i B u e1 e2 => (h.us i B u e1 e2).move fun x hx o e => m x (h_foot e1 hx) o e, h.dl,
  fun i d e e1 e2 => by
   obtain ⟨rs, E⟩ := h.di i d e e1 e2
   exact ⟨rs, m _ (h_core (c_ds (List.mem_of_getElem? e1))) _ E.1, E.2.1, fun j r ev g1 g2 => t _ _ (E.2.2 j r ev g1 g2)⟩, h.nd0, h.nd1, h.nd2⟩
theorem HAt.keep (h : HAt CH CP CM H A s) (sm : Same H H') : HAt CH CP CM H' A s := h.move (fun x _ o e => sm x o e) (fun x xs e => sm _ _ e)
theorem HAt.kind (h : HAt CH CP CM H A s) {x : Addr} (hx : x ∈ footH A) : ∀ xs, H x ≠ some (.tup xs) := by
 intro xs
 rcases h_cases hx with z | ⟨i, B, e, z⟩
 ·unfold core at z
  simp only [List.mem_cons] at z
  rcases z with z | z | z | z | z | z
  ·rw [z, h.o]; intro y; cases y
  ·rw [z, h.lp]; intro y; cases y
  ·rw [z, h.ld]; intro y; cases y
  ·rw [z, h.lr]; intro y; cases y
  ·rw [z, h.lw]; intro y; cases y
  ·obtain ⟨i, hi, e⟩ := List.getElem_of_mem z
   have hi2 : i < s.di.length := by rw [← h.dl]; exact hi
   obtain ⟨rs, E⟩ := h.di i x s.di[i] (by rw [List.getElem?_eq_getElem hi, e]) (List.getElem?_eq_getElem hi2)
   rw [E.1]; intro y; cases y
 ·have hi : i < s.us.length := by
   rw [← h.ul]
   rcases Nat.lt_or_ge i A.ps.length with y | y
   ·exact y
   ·rw [List.getElem?_eq_none y] at e; cases e
  exact (h.us i B s.us[i] e (List.getElem?_eq_getElem hi)).kind z xs
theorem HAt.there (h : HAt CH CP CM H A s) {x : Addr} (hx : x ∈ footH A) : ∃ o, H x = some o := by
 rcases h_cases hx with z | ⟨i, B, e, z⟩
 ·unfold core at z
  simp only [List.mem_cons] at z
  rcases z with z | z | z | z | z | z
  ·rw [z]; exact ⟨_, h.o⟩
  ·rw [z]; exact ⟨_, h.lp⟩
  ·rw [z]; exact ⟨_, h.ld⟩
  ·rw [z]; exact ⟨_, h.lr⟩
  ·rw [z]; exact ⟨_, h.lw⟩
  ·obtain ⟨i, hi, e⟩ := List.getElem_of_mem z
   have hi2 : i < s.di.length := by rw [← h.dl]; exact hi
   obtain ⟨rs, E⟩ := h.di i x s.di[i] (by rw [List.getElem?_eq_getElem hi, e]) (List.getElem?_eq_getElem hi2)
   exact ⟨_, E.1⟩
 ·have hi : i < s.us.length := by
   rw [← h.ul]
   rcases Nat.lt_or_ge i A.ps.length with y | y
   ·exact y
   ·rw [List.getElem?_eq_none y] at e; cases e
  exact (h.us i B s.us[i] e (List.getElem?_eq_getElem hi)).there z
theorem HAt.fresh (h : HAt CH CP CM H A s) (n : H q = none) : q ∉ footH A := fun z => by
 obtain ⟨o, e⟩ := h.there z
 rw [e] at n
 cases n
theorem HAt.at (h : HAt CH CP CM H A s) {i : Nat} (hi : i < s.us.length) : ∃ B, A.ps[i]? = some B ∧ PAt CP CM H B (usr s i) ∧ atI (A.ps.map fun B => V.ref B.p) (i : Int) = some (.ref B.p) := by
 have hi2 : i < A.ps.length := by rw [h.ul]; exact hi
 refine ⟨A.ps[i], List.getElem?_eq_getElem hi2, ?_, ?_⟩
 ·have e : usr s i = s.us[i] := by unfold usr; rw [List.getD_eq_getElem?_getD, List.getElem?_eq_getElem hi]; rfl
  rw [e]
  exact h.us i _ _ (List.getElem?_eq_getElem hi2) (List.getElem?_eq_getElem hi)
 ·exact atI_nat (by rw [List.getElem?_map, List.getElem?_eq_getElem hi2]; rfl)
theorem HAt.dat (h : HAt CH CP CM H A s) {i : Nat} (hi : i < s.di.length) : ∃ d rs, A.ds[i]? = some d ∧ EvsAt H d rs (s.di.getD i []) ∧ atI (A.ds.map V.ref) (i : Int) = some (.ref d) := by
 have hi2 : i < A.ds.length := by rw [h.dl]; exact hi
 have e : s.di.getD i [] = s.di[i] := by rw [List.getD_eq_getElem?_getD, List.getElem?_eq_getElem hi]; rfl
 obtain ⟨rs, E⟩ := h.di i _ _ (List.getElem?_eq_getElem hi2) (List.getElem?_eq_getElem hi)
 refine ⟨A.ds[i], rs, List.getElem?_eq_getElem hi2, by rw [e]; exact E, ?_⟩
 exact atI_nat (by rw [List.getElem?_map, List.getElem?_eq_getElem hi2]; rfl)
theorem HAt.nus (h : HAt CH CP CM H A s) (hq : q ∈ core A) : ∀ (i : Nat) B u, A.ps[i]? = some B → s.us[i]? = some u → PAt CP CM (upd H q ho) B u := fun i B u e1 e2 => (h.us i B u e1 e2).move fun x hx o e => by rw [upd_ne (fun z => h.nd1 i B e1 x hx (by rw [z]; exact hq))]; exact e
theorem EvsAt.oth {H : Hp} {d q : Addr} {rs : List Addr} {e : List Ev} {ho : HO} (E : EvsAt H d rs e) (n : d ≠ q) (nt : ∀ xs, H q ≠ some (.tup xs)) : EvsAt (upd H q ho) d rs e :=
 ⟨by rw [upd_ne n]; exact E.1, E.2.1, fun j r ev g1 g2 => by rw [upd_ne (fun z => nt _ (by rw [← z]; exact E.2.2 j r ev g1 g2))]; exact E.2.2 j r ev g1 g2⟩
theorem HAt.ndi (h : HAt CH CP CM H A s) (hq : q ∈ core A) (hn : q ∉ A.ds) : ∀ (i : Nat) d e, A.ds[i]? = some d → s.di[i]? = some e → ∃ rs, EvsAt (upd H q ho) d rs e := fun i d e e1 e2 => by
 obtain ⟨rs, E⟩ := h.di i d e e1 e2
 exact ⟨rs, EvsAt.oth E (fun z => hn (by rw [← z]; exact List.mem_of_getElem? e1)) (h.kind (h_core hq))⟩
theorem HAt.setO (h : HAt CH CP CM H A s) (s' : Hse) (e1 : s'.us = s.us) (e2 : s'.di = s.di) (e3 : s'.rooms = s.rooms) (e4 : s'.row = s.row) : HAt CH CP CM (upd H A.h (.ins CH A.dx (fldsH A s'))) A s' := by
 obtain ⟨⟨n1, n2, n3, n4, n5⟩, _⟩ := nds0 h.nd0
 exact ⟨upd_same, by rw [upd_ne (Ne.symm n1)]; exact h.lp, by rw [upd_ne (Ne.symm n2)]; exact h.ld, by rw [upd_ne (Ne.symm n3), e3]; exact h.lr, by rw [upd_ne (Ne.symm n4), e4]; exact h.lw, by rw [e1]; exact h.ul, by rw [e1]; exact h.nus c_h, by rw [e2]; exact h.dl, by rw [e2]; exact h.ndi c_h n5, h.nd0, h.nd1, h.nd2⟩
theorem HAt.setRow (h : HAt CH CP CM H A s) (r : List Nat) : HAt CH CP CM (upd H A.lw (.lst (rowV r))) A { s with row := r } := by
 obtain ⟨⟨n1, n2, n3, n4, n5⟩, ⟨m1, m2, m3, m4⟩, ⟨k1, k2, k3⟩, ⟨j1, j2⟩, i1, _⟩ := nds0 h.nd0
 exact ⟨by rw [upd_ne n4]; exact h.o, by rw [upd_ne m3]; exact h.lp, by rw [upd_ne k2]; exact h.ld, by rw [upd_ne j1]; exact h.lr, upd_same, h.ul, h.nus c_lw, h.dl, h.ndi c_lw i1, h.nd0, h.nd1, h.nd2⟩
theorem HAt.setRooms (h : HAt CH CP CM H A s) (r : List (Option Nat)) : HAt CH CP CM (upd H A.lr (.lst (r.map vU))) A { s with rooms := r } := by
 obtain ⟨⟨n1, n2, n3, n4, n5⟩, ⟨m1, m2, m3, m4⟩, ⟨k1, k2, k3⟩, ⟨j1, j2⟩, i1, _⟩ := nds0 h.nd0
 exact ⟨by rw [upd_ne n3]; exact h.o, by rw [upd_ne m2]; exact h.lp, by rw [upd_ne k1]; exact h.ld, upd_same, by rw [upd_ne (Ne.symm j1)]; exact h.lw, h.ul, h.nus c_lr, h.dl, h.ndi c_lr j2, h.nd0, h.nd1, h.nd2⟩
theorem HAt.setU (h : HAt CH CP CM H A s) {i : Nat} {B : PAd} {u' : Usr} (e : A.ps[i]? = some B) (D : PAt CP CM H' B u') (F : FrL H H' (foot B)) (D0 : ∀ x ∈ foot B, ∀ xs, H x ≠ some (.tup xs)) : HAt CH CP CM H' A { s with us := s.us.set i u' } := by
 have nc : ∀ x ∈ core A, x ∉ foot B := fun x hx hy => h.nd1 i B e x hy hx
 have hi : i < s.us.length := by
  rw [← h.ul]
  rcases Nat.lt_or_ge i A.ps.length with y | y
  ·exact y
  ·rw [List.getElem?_eq_none y] at e; cases e
 refine ⟨F _ _ h.o (nc _ c_h), F _ _ h.lp (nc _ c_lp), F _ _ h.ld (nc _ c_ld), F _ _ h.lr (nc _ c_lr), F _ _ h.lw (nc _ c_lw), by rw [List.length_set]; exact h.ul, fun j C u e1 e2 => ?_, h.dl, fun j d ev e1 e2 => ?_, h.nd0, h.nd1, h.nd2⟩
 ·by_cases g : j = i
  ·subst g
   rw [e] at e1
   cases e1
   rw [List.getElem?_set_self hi] at e2
   cases e2
   exact D
  ·rw [List.getElem?_set_ne (Ne.symm g)] at e2
   exact (h.us j C u e1 e2).far F (h.nd2 j i C B g e1 e)
 ·obtain ⟨rs, E⟩ := h.di j d ev e1 e2
  exact ⟨rs, E.far F (nc _ (c_ds (List.mem_of_getElem? e1))) D0⟩
theorem HAt.setD (h : HAt CH CP CM H A s) {i : Nat} {d r : Addr} {rs : List Addr} {ev : Ev} (e : A.ds[i]? = some d) (E : EvsAt H d rs (s.di.getD i [])) (hr : H r = some (.tup (evV ev))) : HAt CH CP CM (upd H d (.lst ((rs ++ [r]).map V.ref))) A { s with di := s.di.set i (s.di.getD i [] ++ [ev]) } := by
 obtain ⟨⟨n1, n2, n3, n4, n5⟩, ⟨m1, m2, m3, m4⟩, ⟨k1, k2, k3⟩, ⟨j1, j2⟩, i1, nds⟩ := nds0 h.nd0
 have hd := List.mem_of_getElem? e
 have ne : ∀ {x : Addr}, x ∉ A.ds → x ≠ d := fun hx z => hx (by rw [z]; exact hd)
 have hi : i < s.di.length := by
  rw [← h.dl]
  rcases Nat.lt_or_ge i A.ds.length with y | y
  ·exact y
  ·rw [List.getElem?_eq_none y] at e; cases e
 have nr : ∀ {x : Addr} {xs : List V}, H x = some (.tup xs) → x ≠ d := fun hx z => by rw [z, E.1] at hx; cases hx
 refine ⟨by rw [upd_ne (ne n5)]; exact h.o, by rw [upd_ne (ne m4)]; exact h.lp, by rw [upd_ne (ne k3)]; exact h.ld, by rw [upd_ne (ne j2)]; exact h.lr, by rw [upd_ne (ne i1)]; exact h.lw, h.ul, h.nus (c_ds hd), by rw [List.length_set]; exact h.dl, fun j d2 e2 g1 g2 => ?_, h.nd0, h.nd1, h.nd2⟩
 by_cases g : j = i
 ·subst g
  rw [e] at g1
  cases g1
  rw [List.getElem?_set_self hi] at g2
  cases g2
  refine ⟨rs ++ [r], upd_same, by rw [List.length_append, List.length_append, E.2.1]; rfl, fun k r2 ev2 y1 y2 => ?_⟩
  rcases Nat.lt_or_ge k rs.length with z | z
  ·rw [List.getElem?_append_left z] at y1
   rw [List.getElem?_append_left (by rw [← E.2.1]; exact z)] at y2
   have := E.2.2 k r2 ev2 y1 y2
   rw [upd_ne (nr this)]
   exact this
  ·rw [List.getElem?_append_right z] at y1
   rw [List.getElem?_append_right (by rw [← E.2.1]; exact z)] at y2
   have ei : k - rs.length = 0 := by
    rcases Nat.lt_or_ge (k - rs.length) 1 with z2 | z2
    ·omega
    ·rw [List.getElem?_eq_none (by simpa using z2)] at y1; cases y1
   rw [ei] at y1
   rw [← E.2.1, ei] at y2
   cases y1
   cases y2
   rw [upd_ne (nr hr)]
   exact hr
 ·rw [List.getElem?_set_ne (Ne.symm g)] at g2
  obtain ⟨rs2, E2⟩ := h.di j d2 e2 g1 g2
  have nd : d2 ≠ d := fun z => by
   subst z
   exact g ((List.getElem?_inj (by
    rcases Nat.lt_or_ge j A.ds.length with y | y
    ·exact y
    ·rw [List.getElem?_eq_none y] at g1; cases g1) nds).mp (g1.trans e.symm))
  exact ⟨rs2, EvsAt.oth E2 nd (by rw [E.1]; intro xs z; cases z)⟩
theorem r_people (T : TxtH K mg CH CP CM) (h : HAt CH CP CM H A s) (q : P (.ref A.lp)) : ∃ a C dx fs v, V.ref A.h = .ref a ∧ H a = some (.ins C dx fs) ∧ Cls K C ∧ NoAttr K C "people" ∧ fs.lookup ("people" : Str) = some v ∧ P v := ⟨A.h, CH, A.dx, _, _, rfl, h.o, T.clH, T.n_people, lk_people _ _, q⟩
theorem r_diaries (T : TxtH K mg CH CP CM) (h : HAt CH CP CM H A s) (q : P (.ref A.ld)) : ∃ a C dx fs v, V.ref A.h = .ref a ∧ H a = some (.ins C dx fs) ∧ Cls K C ∧ NoAttr K C "diaries" ∧ fs.lookup ("diaries" : Str) = some v ∧ P v := ⟨A.h, CH, A.dx, _, _, rfl, h.o, T.clH, T.n_diaries, lk_diaries _ _, q⟩
theorem r_rooms (T : TxtH K mg CH CP CM) (h : HAt CH CP CM H A s) (q : P (.ref A.lr)) : ∃ a C dx fs v, V.ref A.h = .ref a ∧ H a = some (.ins C dx fs) ∧ Cls K C ∧ NoAttr K C "rooms" ∧ fs.lookup ("rooms" : Str) = some v ∧ P v := ⟨A.h, CH, A.dx, _, _, rfl, h.o, T.clH, T.n_rooms, lk_rooms _ _, q⟩
theorem r_quantum (T : TxtH K mg CH CP CM) (h : HAt CH CP CM H A s) (q : P (.int s.quantum)) : ∃ a C dx fs v, V.ref A.h = .ref a ∧ H a = some (.ins C dx fs) ∧ Cls K C ∧ NoAttr K C "quantum" ∧ fs.lookup ("quantum" : Str) = some v ∧ P v := ⟨A.h, CH, A.dx, _, _, rfl, h.o, T.clH, T.n_quantum, lk_quantum _ _, q⟩
theorem r_beat (T : TxtH K mg CH CP CM) (h : HAt CH CP CM H A s) (q : P (.int s.beat)) : ∃ a C dx fs v, V.ref A.h = .ref a ∧ H a = some (.ins C dx fs) ∧ Cls K C ∧ NoAttr K C "beat" ∧ fs.lookup ("beat" : Str) = some v ∧ P v := ⟨A.h, CH, A.dx, _, _, rfl, h.o, T.clH, T.n_beat, lk_beat _ _, q⟩
theorem r_runs (T : TxtH K mg CH CP CM) (h : HAt CH CP CM H A s) (q : P (vU s.runs)) : ∃ a C dx fs v, V.ref A.h = .ref a ∧ H a = some (.ins C dx fs) ∧ Cls K C ∧ NoAttr K C "runs" ∧ fs.lookup ("runs" : Str) = some v ∧ P v := ⟨A.h, CH, A.dx, _, _, rfl, h.o, T.clH, T.n_runs, lk_runs _ _, q⟩
theorem r_row (T : TxtH K mg CH CP CM) (h : HAt CH CP CM H A s) (q : P (.ref A.lw)) : ∃ a C dx fs v, V.ref A.h = .ref a ∧ H a = some (.ins C dx fs) ∧ Cls K C ∧ NoAttr K C "row" ∧ fs.lookup ("row" : Str) = some v ∧ P v := ⟨A.h, CH, A.dx, _, _, rfl, h.o, T.clH, T.n_row, lk_row _ _, q⟩
theorem r_steps (T : TxtH K mg CH CP CM) (h : HAt CH CP CM H A s) (q : P (.int s.steps)) : ∃ a C dx fs v, V.ref A.h = .ref a ∧ H a = some (.ins C dx fs) ∧ Cls K C ∧ NoAttr K C "steps" ∧ fs.lookup ("steps" : Str) = some v ∧ P v := ⟨A.h, CH, A.dx, _, _, rfl, h.o, T.clH, T.n_steps, lk_steps _ _, q⟩
theorem r_idle (T : TxtH K mg CH CP CM) (h : HAt CH CP CM H A s) (q : P (.int s.idle)) : ∃ a C dx fs v, V.ref A.h = .ref a ∧ H a = some (.ins C dx fs) ∧ Cls K C ∧ NoAttr K C "idle" ∧ fs.lookup ("idle" : Str) = some v ∧ P v := ⟨A.h, CH, A.dx, _, _, rfl, h.o, T.clH, T.n_idle, lk_idle _ _, q⟩
theorem r_ticks (T : TxtH K mg CH CP CM) (h : HAt CH CP CM H A s) (q : P (.int s.ticks)) : ∃ a C dx fs v, V.ref A.h = .ref a ∧ H a = some (.ins C dx fs) ∧ Cls K C ∧ NoAttr K C "ticks" ∧ fs.lookup ("ticks" : Str) = some v ∧ P v := ⟨A.h, CH, A.dx, _, _, rfl, h.o, T.clH, T.n_ticks, lk_ticks _ _, q⟩
theorem r_swaps (T : TxtH K mg CH CP CM) (h : HAt CH CP CM H A s) (q : P (.int s.swaps)) : ∃ a C dx fs v, V.ref A.h = .ref a ∧ H a = some (.ins C dx fs) ∧ Cls K C ∧ NoAttr K C "swaps" ∧ fs.lookup ("swaps" : Str) = some v ∧ P v := ⟨A.h, CH, A.dx, _, _, rfl, h.o, T.clH, T.n_swaps, lk_swaps _ _, q⟩
theorem r_turn (T : TxtH K mg CH CP CM) (h : HAt CH CP CM H A s) (q : P (.int s.turn)) : ∃ a C dx fs v, V.ref A.h = .ref a ∧ H a = some (.ins C dx fs) ∧ Cls K C ∧ NoAttr K C "turn" ∧ fs.lookup ("turn" : Str) = some v ∧ P v := ⟨A.h, CH, A.dx, _, _, rfl, h.o, T.clH, T.n_turn, lk_turn _ _, q⟩
theorem r_left (T : TxtH K mg CH CP CM) (h : HAt CH CP CM H A s) (q : P (.int s.left)) : ∃ a C dx fs v, V.ref A.h = .ref a ∧ H a = some (.ins C dx fs) ∧ Cls K C ∧ NoAttr K C "left" ∧ fs.lookup ("left" : Str) = some v ∧ P v := ⟨A.h, CH, A.dx, _, _, rfl, h.o, T.clH, T.n_left, lk_left _ _, q⟩
theorem w_runs {y : Option Nat} (T : TxtH K mg CH CP CM) (h : HAt CH CP CM H A s) (k : ∀ H', HAt CH CP CM H' A { s with runs := y } → FrL H H' (footH A) → PH H') : ∃ a C dx fs, V.ref A.h = .ref a ∧ H a = some (.ins C dx fs) ∧ Cls K C ∧ NoAttr K C "runs" ∧ fs.length < 1000 ∧ PH (upd H a (.ins C dx (putF "runs" (vU y) fs))) :=
 ⟨A.h, CH, A.dx, _, rfl, h.o, T.clH, T.n_runs, len_fldsH _ _, by rw [pf_runs]; exact k _ (h.setO _ rfl rfl rfl rfl) (FrL.upd (h_core c_h))⟩
theorem w_steps {y : Int} (T : TxtH K mg CH CP CM) (h : HAt CH CP CM H A s) (k : ∀ H', HAt CH CP CM H' A { s with steps := y } → FrL H H' (footH A) → PH H') : ∃ a C dx fs, V.ref A.h = .ref a ∧ H a = some (.ins C dx fs) ∧ Cls K C ∧ NoAttr K C "steps" ∧ fs.length < 1000 ∧ PH (upd H a (.ins C dx (putF "steps" (.int y) fs))) :=
 ⟨A.h, CH, A.dx, _, rfl, h.o, T.clH, T.n_steps, len_fldsH _ _, by rw [pf_steps]; exact k _ (h.setO _ rfl rfl rfl rfl) (FrL.upd (h_core c_h))⟩
theorem w_idle {y : Int} (T : TxtH K mg CH CP CM) (h : HAt CH CP CM H A s) (k : ∀ H', HAt CH CP CM H' A { s with idle := y } → FrL H H' (footH A) → PH H') : ∃ a C dx fs, V.ref A.h = .ref a ∧ H a = some (.ins C dx fs) ∧ Cls K C ∧ NoAttr K C "idle" ∧ fs.length < 1000 ∧ PH (upd H a (.ins C dx (putF "idle" (.int y) fs))) :=
 ⟨A.h, CH, A.dx, _, rfl, h.o, T.clH, T.n_idle, len_fldsH _ _, by rw [pf_idle]; exact k _ (h.setO _ rfl rfl rfl rfl) (FrL.upd (h_core c_h))⟩
theorem w_ticks {y : Int} (T : TxtH K mg CH CP CM) (h : HAt CH CP CM H A s) (k : ∀ H', HAt CH CP CM H' A { s with ticks := y } → FrL H H' (footH A) → PH H') : ∃ a C dx fs, V.ref A.h = .ref a ∧ H a = some (.ins C dx fs) ∧ Cls K C ∧ NoAttr K C "ticks" ∧ fs.length < 1000 ∧ PH (upd H a (.ins C dx (putF "ticks" (.int y) fs))) :=
 ⟨A.h, CH, A.dx, _, rfl, h.o, T.clH, T.n_ticks, len_fldsH _ _, by rw [pf_ticks]; exact k _ (h.setO _ rfl rfl rfl rfl) (FrL.upd (h_core c_h))⟩
theorem w_swaps {y : Int} (T : TxtH K mg CH CP CM) (h : HAt CH CP CM H A s) (k : ∀ H', HAt CH CP CM H' A { s with swaps := y } → FrL H H' (footH A) → PH H') : ∃ a C dx fs, V.ref A.h = .ref a ∧ H a = some (.ins C dx fs) ∧ Cls K C ∧ NoAttr K C "swaps" ∧ fs.length < 1000 ∧ PH (upd H a (.ins C dx (putF "swaps" (.int y) fs))) :=
 ⟨A.h, CH, A.dx, _, rfl, h.o, T.clH, T.n_swaps, len_fldsH _ _, by rw [pf_swaps]; exact k _ (h.setO _ rfl rfl rfl rfl) (FrL.upd (h_core c_h))⟩
theorem w_turn {y : Int} (T : TxtH K mg CH CP CM) (h : HAt CH CP CM H A s) (k : ∀ H', HAt CH CP CM H' A { s with turn := y } → FrL H H' (footH A) → PH H') : ∃ a C dx fs, V.ref A.h = .ref a ∧ H a = some (.ins C dx fs) ∧ Cls K C ∧ NoAttr K C "turn" ∧ fs.length < 1000 ∧ PH (upd H a (.ins C dx (putF "turn" (.int y) fs))) :=
 ⟨A.h, CH, A.dx, _, rfl, h.o, T.clH, T.n_turn, len_fldsH _ _, by rw [pf_turn]; exact k _ (h.setO _ rfl rfl rfl rfl) (FrL.upd (h_core c_h))⟩
theorem w_left {y : Int} (T : TxtH K mg CH CP CM) (h : HAt CH CP CM H A s) (k : ∀ H', HAt CH CP CM H' A { s with left := y } → FrL H H' (footH A) → PH H') : ∃ a C dx fs, V.ref A.h = .ref a ∧ H a = some (.ins C dx fs) ∧ Cls K C ∧ NoAttr K C "left" ∧ fs.length < 1000 ∧ PH (upd H a (.ins C dx (putF "left" (.int y) fs))) :=
 ⟨A.h, CH, A.dx, _, rfl, h.o, T.clH, T.n_left, len_fldsH _ _, by rw [pf_left]; exact k _ (h.setO _ rfl rfl rfl rfl) (FrL.upd (h_core c_h))⟩
end
end Hs
local macro_rules | `(tactic| wtm_at "v") => `(tactic| (with_reducible first | refine Hs.r_people (by assumption) (by assumption) ?_ | refine Hs.r_diaries (by assumption) (by assumption) ?_ | refine Hs.r_rooms (by assumption) (by assumption) ?_ | refine Hs.r_quantum (by assumption) (by assumption) ?_ | refine Hs.r_beat (by assumption) (by assumption) ?_ | refine Hs.r_runs (by assumption) (by assumption) ?_ | refine Hs.r_row (by assumption) (by assumption) ?_ | refine Hs.r_steps (by assumption) (by assumption) ?_ | refine Hs.r_idle (by assumption) (by assumption) ?_ | refine Hs.r_ticks (by assumption) (by assumption) ?_ | refine Hs.r_swaps (by assumption) (by assumption) ?_ | refine Hs.r_turn (by assumption) (by assumption) ?_ | refine Hs.r_left (by assumption) (by assumption) ?_))
namespace Hs
open PySem L2 Mir Pr Tx Lw Dm Us Du Pp
structure Bd (s : Hse) (M : Nat) : Prop where
 ru : ∀ u ∈ s.us, RgU u
 pa : ∀ u ∈ s.us, u.pap.length ≤ M
 dl : ∀ d ∈ s.di, d.length ≤ M
 rl : s.row.length ≤ M
 n1 : s.us.length ≤ 8
 n2 : s.di.length = s.us.length
 rr : ∀ u ∈ s.row, u < s.us.length
 rn : ∀ u, s.runs = some u → u < s.us.length
 ro : 0 < s.rooms.length ∧ s.rooms.length ≤ 8
 tu : 0 ≤ s.turn ∧ s.turn < (s.rooms.length : Int)
 be : 0 < s.beat
theorem mem_setL {α : Type} {l : List α} {i : Nat} {v w : α} {P : α → Prop} (h : ∀ x ∈ l, P x) (hv : P v) (hw : w ∈ l.set i v) : P w := by
 rcases List.mem_or_eq_of_mem_set hw with h1 | h1
 ·exact h w h1
 ·rw [h1]; exact hv
theorem usr_mem {s : Hse} {u : Nat} (h : u < s.us.length) : usr s u ∈ s.us := by
 unfold usr
 rw [List.getD_eq_getElem?_getD, List.getElem?_eq_getElem h]
 exact List.getElem_mem h
theorem di_mem {s : Hse} {u : Nat} (h : u < s.di.length) : s.di.getD u [] ∈ s.di := by
 rw [List.getD_eq_getElem?_getD, List.getElem?_eq_getElem h]
 exact List.getElem_mem h
theorem happenIn_len (s : Hse) (u : Nat) (e : Ev) : (happenIn s u e).us.length = s.us.length := by unfold happenIn; exact List.length_set
theorem Bd.happen {s : Hse} {M : Nat} (h : Bd s M) {u : Nat} (hu : u < s.us.length) {e : Ev} (he : EvOk e) (hM : M < 900000) : Bd (happenIn s u e) (M + 1) := by
 have hp := h.pa _ (usr_mem hu)
 have hr := (h.ru _ (usr_mem hu)).happen he (by omega)
 have hpp := pap_happen (usr s u) e
 have hd := h.dl _ (di_mem (by rw [h.n2]; exact hu))
 refine ⟨fun x hx => mem_setL h.ru hr hx, fun x hx => mem_setL (P := fun x => x.pap.length ≤ M + 1) (fun y hy => Nat.le_succ_of_le (h.pa y hy)) (by omega) hx, fun x hx => mem_setL (P := fun x => x.length ≤ M + 1) (fun y hy => Nat.le_succ_of_le (h.dl y hy)) (by rw [List.length_append, List.length_singleton]; omega) hx, ?_, by rw [happenIn_len]; exact h.n1, ?_, ?_, fun v hv => by rw [happenIn_len]; exact h.rn v hv, h.ro, h.tu, h.be⟩
 ·unfold happenIn
  dsimp only
  have := h.rl
  split
  ·rw [List.length_append, List.length_singleton]; omega
  ·omega
 ·rw [happenIn_len]
  unfold happenIn
  exact List.length_set.trans h.n2
 ·rw [happenIn_len]
  unfold happenIn
  dsimp only
  split
  ·intro v hv
   rcases List.mem_append.mp hv with z | z
   ·exact h.rr v z
   ·rw [List.mem_singleton.mp z]; exact hu
  ·exact h.rr
theorem Bd.endT {s : Hse} {M : Nat} (h : Bd s M) : Bd (endTurn s) M := ⟨h.ru, h.pa, h.dl, h.rl, h.n1, h.n2, h.rr, (fun u hu => by cases hu), h.ro, h.tu, h.be⟩
theorem Bd.mono {s : Hse} {M N : Nat} (h : Bd s M) (hM : M ≤ N) : Bd s N := ⟨h.ru, fun u hu => Nat.le_trans (h.pa u hu) hM, fun d hd => Nat.le_trans (h.dl d hd) hM, Nat.le_trans h.rl hM, h.n1, h.n2, h.rr, h.rn, h.ro, h.tu, h.be⟩
theorem Bd.bring {s : Hse} {M : Nat} (h : Bd s M) {u : Nat} : Bd (bringIn s u) M := by
 unfold bringIn
 split
 ·exact h
 ·have := h.ro
  exact ⟨h.ru, h.pa, h.dl, h.rl, h.n1, h.n2, h.rr, h.rn, by rw [List.length_set]; exact h.ro, by rw [List.length_set]; exact ⟨Int.emod_nonneg _ (by omega), Int.emod_lt_of_pos _ (by omega)⟩, h.be⟩
theorem Bd.next {s : Hse} {M : Nat} (h : Bd s M) : Bd (letNext s) M := by
 unfold letNext
 split
 ·rename_i u r e1 e2
  refine Bd.bring (s := { s with runs := some u, row := r, left := s.quantum }) ⟨h.ru, h.pa, h.dl, ?_, h.n1, h.n2, ?_, ?_, h.ro, h.tu, h.be⟩
  ·have := h.rl; rw [e2, List.length_cons] at this; dsimp only; omega
  ·intro v hv; exact h.rr v (by rw [e2]; exact List.mem_cons_of_mem _ hv)
  ·intro v hv; cases hv; exact h.rr u (by rw [e2]; exact List.mem_cons_self)
 ·exact h
theorem Bd.short {s : Hse} {M : Nat} (h : Bd s M) {u : Nat} (hu : u < s.us.length) : Bd (shorten s u) (M + 1) := by
 have hr := h.rl
 unfold shorten
 split
 ·refine Bd.endT ⟨h.ru, fun u hu => Nat.le_succ_of_le (h.pa u hu), fun d hd => Nat.le_succ_of_le (h.dl d hd), by dsimp only; rw [List.length_append, List.length_singleton]; omega, h.n1, h.n2, fun v hv => ?_, h.rn, h.ro, h.tu, h.be⟩
  rcases List.mem_append.mp hv with z | z
  ·exact h.rr v z
  ·rw [List.mem_singleton.mp z]; exact hu
 ·exact ⟨h.ru, fun u hu => Nat.le_succ_of_le (h.pa u hu), fun d hd => Nat.le_succ_of_le (h.dl d hd), Nat.le_succ_of_le h.rl, h.n1, h.n2, h.rr, h.rn, h.ro, h.tu, h.be⟩
theorem ticksN_len (s : Hse) : ∀ n, (ticksN n s).us.length = s.us.length
 | 0 => rfl
 | n + 1 => by rw [ticksN, happenIn_len, ticksN_len s n]
theorem Bd.ticks {s : Hse} {M : Nat} (h : Bd s M) (hM : M < 800000) : ∀ n, n ≤ s.us.length → Bd (ticksN n s) (M + n)
 | 0, _ => h
 | n + 1, hn => by
  have := h.n1
  exact (Bd.ticks h hM n (by omega)).happen (by rw [ticksN_len]; omega) trivial (by omega)
theorem Bd.count {s : Hse} {M : Nat} (h : Bd s M) {t : Int} : Bd { s with ticks := t } M := ⟨h.ru, h.pa, h.dl, h.rl, h.n1, h.n2, h.rr, h.rn, h.ro, h.tu, h.be⟩
theorem Bd.tick {s : Hse} {M : Nat} (h : Bd s M) (hM : M < 800000) : Bd (doTick s) (M + 9) := by
 have hn := h.n1
 have h1 := (h.count (t := s.ticks + 1)).ticks hM s.us.length (Nat.le_refl _)
 unfold doTick lastT
 split
 ·exact h1.mono (by omega)
 ·rename_i u e
  exact (h1.short (h1.rn u e)).mono (by omega)
theorem Bd.who {s : Hse} {M : Nat} (h : Bd s M) {u : Nat} (hu : u < s.us.length) (hM : M < 800000) : Bd (stepWho s u) (M + 1) := by
 have h1 := h.happen hu (e := .step) trivial (by omega)
 unfold stepWho
 split
 ·exact h1
 ·exact h1.endT
theorem Bd.s1 {s : Hse} {M : Nat} (h : Bd s M) (hM : M < 800000) : Bd (step1 s) (M + 1) := by
 unfold step1
 split
 ·exact Bd.mono (M := M) ⟨h.ru, h.pa, h.dl, h.rl, h.n1, h.n2, h.rr, h.rn, h.ro, h.tu, h.be⟩ (Nat.le_succ _)
 ·rename_i u e
  exact Bd.who (s := { s with steps := s.steps + 1 }) ⟨h.ru, h.pa, h.dl, h.rl, h.n1, h.n2, h.rr, h.rn, h.ro, h.tu, h.be⟩ (h.rn u e) hM
theorem Bd.s2 {s : Hse} {M : Nat} (h : Bd s M) (hM : M < 800000) : Bd (step2 s) (M + 9) := by
 unfold step2
 split
 ·exact h.tick hM
 ·exact h.mono (by omega)
theorem Bd.step {s : Hse} {M : Nat} (h : Bd s M) (hM : M < 790000) : Bd (doStep s) (M + 10) := ((h.s1 (by omega)).s2 (by omega)).next
theorem Bd.run {s : Hse} {M : Nat} (h : Bd s M) : ∀ n, M + 10 * n < 790000 → Bd (runN n s) (M + 10 * n)
 | 0, _ => h
 | n + 1, hn => by
  have := (Bd.run h n (by omega)).step (by omega)
  exact this.mono (by omega)
end Hs
namespace Hs
open PySem L2 Mir Pr Tx Lw Dm Us Du Pp
def sp_rw : Sp := fun vs H Q _ => ∃ (lr : Addr) (rs : List (Option Nat)) (u : Nat), vs = [.ref lr, .int (u : Int)] ∧ H lr = some (.lst (rs.map vU)) ∧ rs.length ≤ 1000 ∧ ∀ H', Same H H' → Q (vU (findR u rs)) H'
def spH (CH CP CM : Addr) (pre : Hse → Prop) (f : Hse → Hse) : Sp := fun vs H Q _ => ∃ A s, vs = [.ref A.h] ∧ HAt CH CP CM H A s ∧ pre s ∧ ∀ H', HAt CH CP CM H' A (f s) → FrL H H' (footH A) → Q .non H'
def spHu (CH CP CM : Addr) (pre : Hse → Nat → Prop) (f : Hse → Nat → Hse) : Sp := fun vs H Q _ => ∃ A s u, vs = [.ref A.h, .int ((u : Nat) : Int)] ∧ HAt CH CP CM H A s ∧ pre s u ∧ ∀ H', HAt CH CP CM H' A (f s u) → FrL H H' (footH A) → Q .non H'
def sp_hin (CH CP CM : Addr) : Sp := fun vs H Q _ => ∃ A s M u e ev, vs = [.ref A.h, .int ((u : Nat) : Int), .ref e] ∧ HAt CH CP CM H A s ∧ Bd s M ∧ M < 900000 ∧ u < s.us.length ∧ H e = some (.tup (evV ev)) ∧ ∀ H', HAt CH CP CM H' A (happenIn s u ev) → FrL H H' (footH A) → Q .non H'
theorem findR_drop {u : Nat} {rs : List (Option Nat)} {i : Nat} {g : Option Nat} (h : rs[i]? = some g) : findR u (rs.drop i) = if g = some u then some 0 else (findR u (rs.drop (i + 1))).map (· + 1) := by
 obtain ⟨hi, e⟩ := List.getElem?_eq_some_iff.mp h
 rw [List.drop_eq_getElem_cons hi, findR, e]
section
variable {P : Program} {w : World} {K : PySem.W.Frag} {mg : Str → Option Value} {base : Heap} {CH CP CM : Addr}
theorem ok_rw (R : Raw K mg "room_with" s_room_with) (T : TxtH K mg CH CP CM) : GF P w K mg base "room_with" ["rooms", "user"] 1 sp_rw := by
 refine GF.mk R sc_room_with (by wtm_at "2") (fun vs H Q E h => ?_) (fun f cdv A outer s H vs Q E hr h => ?_)
 ·obtain ⟨lr, rs, u, rfl, _⟩ := h; rfl
 ·obtain ⟨lr, rs, u, rfl, hr1, hl, k⟩ := h
  refine ⟨_, (@pss_cons _ _ _ _ _ (@ps_for _ _ _ _ _ _ _ _ PassesOwn.never rfl (@pi_enumK _ (K) _ _ _ _ _ _ _ rfl rfl T.enumerate_ (@pa_c _ _ _ _ _ (pv 0) pa_nil rfl) rfl) (@pg_tupK _ (K) _ _ _ _ (2) rfl rfl (@pgs_cons _ _ _ _ _ (@pg_name _ _ (2) _ sc_room_with.nd rfl (Or.inl rfl) (by first | exact .inl rfl | exact .inr rfl | assumption)) (@pgs_cons _ _ _ _ _ (@pg_name _ _ (3) _ sc_room_with.nd rfl (Or.inl rfl) (by first | exact .inl rfl | exact .inr rfl | assumption)) pgs_nil rfl) rfl) rfl rfl) (@pss_one _ _ _ (@ps_if _ _ _ _ _ _ _ _ (@pt_cmpR _ _ _ _ _ _ _ _ op_eq (pv 3) (pv 1) (nomark _)) (@pss_one _ _ _ (@ps_ret _ _ _ _ (pv 2))) pss_nil)) (fun _ => rfl)) (@pss_one _ _ _ (@ps_ret _ _ _ _ pe_non))), ?_⟩
  wtm_at "vv"
  refine ⟨lr, _, rfl, SqL.of hr1, for_enum (xs := rs.map vU) (fun i σ' H' => ∃ x y, σ' = [some (.ref lr), some (.int (u : Int)), x, y] ∧ Same H H' ∧ findR u rs = (findR u (rs.drop i)).map (· + i)) ?_ ?_ ?_ ?_⟩
  ·refine ⟨_, _, rfl, Same.refl _, ?_⟩
   rw [List.drop_zero]
   cases findR u rs <;> rfl
  ·rintro i _ H' _ ⟨x, y, rfl, sm, _⟩
   exact SqL.of (sm _ _ hr1)
  ·rintro i v t _ H' hv ⟨x, y, rfl, sm, hf⟩ nt
   rw [List.getElem?_map] at hv
   cases hg : rs[i]? with
   | none => rw [hg] at hv; cases hv
   | some g =>
    rw [hg] at hv
    cases hv
    rw [findR_drop hg] at hf
    refine ⟨t, _, rfl, SqT.of upd_same, rfl, _, _, rfl, _, _, rfl, rfl, ?_⟩
    have s8 : Same H' (upd H' t (.tup [.int i, vU g])) := Same.newH nt
    generalize upd H' t (.tup [.int i, vU g]) = H8 at s8 ⊢
    wtm_at "vv"
    refine ⟨by cases g <;> rfl, ?_⟩
    wtm_at "vv"
    refine iteD (fun e => ?_) (fun e => ?_)
    ·have e' : g = some u := by
      cases g with
      | none => cases e
      | some n =>
       have : V.int (n : Int) = V.int (u : Int) := e
       injection this with z
       rw [Int.ofNat_inj.mp z]
     rw [if_pos e'] at hf
     have hfi : findR u rs = some i := by rw [hf]; simp
     rw [hfi] at k
     wtm_at "vv"
     exact k H8 (sm.trans s8)
    ·have e' : ¬ g = some u := fun z => e (by rw [z]; rfl)
     rw [if_neg e'] at hf
     refine ⟨_, _, rfl, sm.trans s8, ?_⟩
     rw [hf]
     cases findR u (rs.drop (i + 1)) with
     | none => rfl
     | some n => show some (n + 1 + i) = some (n + (i + 1)); congr 1; omega
  ·rintro _ H' ⟨x, y, rfl, sm, hf⟩
   rw [List.length_map, List.drop_length] at hf
   rw [hf] at k
   wtm_at "vv"
   exact k H' sm
theorem ok_bring (R : Raw K mg "bring_in" s_bring_in) (T : TxtH K mg CH CP CM) (G_room_with : GF P w K mg base "room_with" ["rooms", "user"] 1 sp_rw) : GF P w K mg base "bring_in" ["house", "user"] 2 (spHu CH CP CM (fun s _ => ∃ M, Bd s M) bringIn) := by
 refine GF.mk R sc_bring_in (by wtm_at "2") (fun vs H Q E h => ?_) (fun f cdv A outer s H vs Q E hr h => ?_)
 ·obtain ⟨A, s, u, rfl, _⟩ := h; rfl
 ·obtain ⟨A, s, u, rfl, D, ⟨M, hB⟩, k⟩ := h
  obtain ⟨r0, r1⟩ := hB.ro
  obtain ⟨t0, t1⟩ := hB.tu
  refine ⟨_, (@pss_one _ _ _ (@ps_if _ _ _ _ _ _ _ _ (@pt_cmpR _ _ _ _ _ _ _ _ op_isN (@pe_gcallN _ _ _ _ _ _ _ _ _ _ G_room_with (hr.mono (by decide)) rfl (@pa_c _ _ _ _ _ (@pe_fldK _ (K) _ _ _ _ rfl (pv 0) rfl) (@pa_c _ _ _ _ _ (pv 1) pa_nil rfl) rfl) (by decide) rfl) pe_non (nomark _)) (@pss_cons _ _ _ _ _ (ps_asg (pv 1) (pg_sub (@pe_fldK _ (K) _ _ _ _ rfl (pv 0) rfl) (@pe_fldK _ (K) _ _ _ _ rfl (pv 0) rfl) set_list)) (@pss_cons _ _ _ _ _ (@ps_fldK _ (K) _ _ _ _ _ _ _ rfl (pv 0) (@pe_op _ _ _ _ _ _ _ _ op_add (@pe_fldK _ (K) _ _ _ _ rfl (pv 0) rfl) pe_int) rfl) (@pss_one _ _ _ (@ps_fldK _ (K) _ _ _ _ _ _ _ rfl (pv 0) (@pe_op _ _ _ _ _ _ _ _ op_mod (@pe_op _ _ _ _ _ _ _ _ op_add (@pe_fldK _ (K) _ _ _ _ rfl (pv 0) rfl) pe_int) (@pe_callBN _ _ _ _ _ _ _ _ _ (call_len_seqN (K := K) rfl) (by rfl) T.len_ bo_len (@pa_c _ _ _ _ _ (@pe_fldK _ (K) _ _ _ _ rfl (pv 0) rfl) pa_nil rfl) (by decide) (by decide) rfl)) rfl)))) pss_nil)), ?_⟩
  wtm_at "vv"
  refine ⟨A.lr, s.rooms, u, rfl, D.lr, by omega, fun H1 s1 => ?_⟩
  have D1 := D.keep s1
  unfold bringIn at k
  cases hf : findR u s.rooms with
  | some i =>
   rw [hf] at k
   wtm_at "vv"
   refine iteD (fun z => by cases z) (fun _ => ?_)
   exact k H1 D1 (fun b o e _ => s1 b o e)
  | none =>
   rw [hf] at k
   dsimp only at k
   wtm_at "vv"
   refine ⟨A.lr, _, s.turn, _, rfl, rfl, D1.lr, ixN_ints t0 (by rw [List.length_map]; exact t1), ?_⟩
   have D2 := D1.setRooms (s.rooms.set s.turn.toNat (some u))
   rw [List.map_set] at D2
   have F2 : FrL H (upd H1 A.lr (.lst ((s.rooms.map vU).set s.turn.toNat (vU (some u))))) (footH A) := fun b o e n => by rw [upd_ne (fun z => n (by rw [z]; exact h_core c_lr))]; exact s1 b o e
   have eH : upd H1 A.lr (.lst ((s.rooms.map vU).set s.turn.toNat (V.int (u : Int)))) = upd H1 A.lr (.lst ((s.rooms.map vU).set s.turn.toNat (vU (some u)))) := rfl
   rw [eH]
   generalize upd H1 A.lr (.lst ((s.rooms.map vU).set s.turn.toNat (vU (some u)))) = H2 at D2 F2 ⊢
   wtm_at "vv"
   refine w_swaps T D2 fun H3 D3 F3 => ?_
   wtm_at "vv"
   refine Sx.lenL D3.lr ?_
   have el : ((s.rooms.set s.turn.toNat (some u)).map vU).length = s.rooms.length := by rw [List.length_map, List.length_set]
   rw [el]
   wtm_at "vv"
   refine w_turn T D3 fun H4 D4 F4 => ?_
   exact k H4 D4 (F2.trans (F3.trans F4))
theorem ok_next (R : Raw K mg "let_next_run" s_let_next_run) (T : TxtH K mg CH CP CM) (G_bring_in : GF P w K mg base "bring_in" ["house", "user"] 2 (spHu CH CP CM (fun s _ => ∃ M, Bd s M) bringIn)) : GF P w K mg base "let_next_run" ["house"] 3 (spH CH CP CM (fun s => ∃ M, Bd s M) letNext) := by
 refine GF.mk R sc_let_next_run (by wtm_at "1") (fun vs H Q E h => ?_) (fun f cdv A outer s H vs Q E hr h => ?_)
 ·obtain ⟨A, s, rfl, _⟩ := h; rfl
 ·obtain ⟨A, s, rfl, D, ⟨M, hB⟩, k⟩ := h
  refine ⟨_, (@pss_one _ _ _ (@ps_if _ _ _ _ _ _ _ _ (@PW.pt _ _ _ (@pw_and _ _ _ _ _ _ _ (@pt_cmpR _ _ _ _ _ _ _ _ op_isN (@pe_fldK _ (K) _ _ _ _ rfl (pv 0) rfl) pe_non (nomark _)) (@pw_and1 _ _ _ _ (@pt_cmpR _ _ _ _ _ _ _ _ op_gt (@pe_callBN _ _ _ _ _ _ _ _ _ (call_len_seqN (K := K) rfl) (by rfl) T.len_ bo_len (@pa_c _ _ _ _ _ (@pe_fldK _ (K) _ _ _ _ rfl (pv 0) rfl) pa_nil rfl) (by decide) (by decide) rfl) pe_int (nomark _))))) (@pss_cons _ _ _ _ _ (@ps_fldK _ (K) _ _ _ _ _ _ _ rfl (pv 0) (pe_bm PySem.F.plainAttrs_list PySem.F.slot_list_pop PySem.F.type_list_pop mt_popAt (@pe_fldK _ (K) _ _ _ _ rfl (pv 0) rfl) (@pa_c _ _ _ _ _ pe_int pa_nil rfl)) rfl) (@pss_cons _ _ _ _ _ (@ps_fldK _ (K) _ _ _ _ _ _ _ rfl (pv 0) (@pe_fldK _ (K) _ _ _ _ rfl (pv 0) rfl) rfl) (@pss_one _ _ _ (@ps_expr _ _ _ _ (@pe_gcallN _ _ _ _ _ _ _ _ _ _ G_bring_in (hr.mono (by decide)) rfl (@pa_c _ _ _ _ _ (pv 0) (@pa_c _ _ _ _ _ (@pe_fldK _ (K) _ _ _ _ rfl (pv 0) rfl) pa_nil rfl) rfl) (by decide) rfl) rfl)))) pss_nil)), ?_⟩
  unfold letNext at k
  wtm_at "vv"
  cases hru : s.runs with
  | some v =>
   rw [hru] at k
   dsimp only at k
   refine iteD (fun z => by cases z) (fun _ => ?_)
   wtm_at "vv"
   exact k H D FrL.refl
  | none =>
   rw [hru] at k
   refine iteD (fun _ => ?_) (fun z => (z rfl).elim)
   wtm_at "vv"
   refine Sx.lenL D.lw ?_
   wtm_at "vv"
   cases hrow : s.row with
   | nil =>
    rw [hrow] at k
    dsimp only at k
    refine iteD (fun g => by simp [rowV] at g) (fun _ => ?_)
    exact k H D FrL.refl
   | cons v r =>
    rw [hrow] at k
    dsimp only at k
    refine iteD (fun _ => ?_) (fun g => (g (by simp [rowV])).elim)
    have hw : H A.lw = some (.lst (V.int (v : Int) :: rowV r)) := by rw [D.lw, hrow]; rfl
    wtm_at "vv"
    refine ⟨Sx.tyL hw, ?_⟩
    wtm_at "vv"
    refine Sx.pop0 hw ?_
    have D1 := D.setRow r
    have F1 : FrL H (upd H A.lw (.lst (rowV r))) (footH A) := FrL.upd (h_core c_lw)
    generalize upd H A.lw (.lst (rowV r)) = H1 at D1 F1 ⊢
    wtm_at "vv"
    refine w_runs (y := some v) T D1 fun H2 D2 F2 => ?_
    wtm_at "vv"
    refine w_left T D2 fun H3 D3 F3 => ?_
    wtm_at "vv"
    refine ⟨A, _, v, rfl, D3, ⟨M, ⟨hB.ru, hB.pa, hB.dl, ?_, hB.n1, hB.n2, ?_, ?_, hB.ro, hB.tu, hB.be⟩⟩, fun H4 D4 F4 => k H4 (D4.same ?_) (F1.trans (F2.trans (F3.trans F4)))⟩
    ·have := hB.rl; rw [hrow, List.length_cons] at this; dsimp only; omega
    ·intro x hx; exact hB.rr x (by rw [hrow]; exact List.mem_cons_of_mem _ hx)
    ·intro x hx; cases hx; exact hB.rr v (by rw [hrow]; exact List.mem_cons_self)
    ·rfl
theorem ok_end (R : Raw K mg "end_turn" s_end_turn) (T : TxtH K mg CH CP CM) : GF P w K mg base "end_turn" ["house"] 1 (spH CH CP CM (fun _ => True) endTurn) := by
 refine GF.mk R sc_end_turn (by wtm_at "1") (fun vs H Q E h => ?_) (fun f cdv A outer s H vs Q E hr h => ?_)
 ·obtain ⟨A, s, rfl, _⟩ := h; rfl
 ·obtain ⟨A, s, rfl, D, _, k⟩ := h
  refine ⟨_, (@pss_cons _ _ _ _ _ (@ps_fldK _ (K) _ _ _ _ _ _ _ rfl (pv 0) pe_non rfl) (@pss_one _ _ _ (@ps_fldK _ (K) _ _ _ _ _ _ _ rfl (pv 0) pe_int rfl))), ?_⟩
  wtm_at "vv"
  refine w_runs (y := none) T D fun H1 D1 F1 => ?_
  wtm_at "vv"
  refine w_left T D1 fun H2 D2 F2 => ?_
  exact k H2 D2 (F1.trans F2)
theorem ok_short (R : Raw K mg "shorten_turn" s_shorten_turn) (T : TxtH K mg CH CP CM) (G_end_turn : GF P w K mg base "end_turn" ["house"] 1 (spH CH CP CM (fun _ => True) endTurn)) : GF P w K mg base "shorten_turn" ["house"] 2 (spH CH CP CM (fun s => s.row.length < 1000000 ∧ ∃ u, s.runs = some u) lastT) := by
 refine GF.mk R sc_shorten_turn (by wtm_at "1") (fun vs H Q E h => ?_) (fun f cdv A outer s H vs Q E hr h => ?_)
 ·obtain ⟨A, s, rfl, _⟩ := h; rfl
 ·obtain ⟨A, s, rfl, D, ⟨hl, u, hu⟩, k⟩ := h
  refine ⟨_, (@pss_cons _ _ _ _ _ (@ps_fldK _ (K) _ _ _ _ _ _ _ rfl (pv 0) (@pe_op _ _ _ _ _ _ _ _ op_sub (@pe_fldK _ (K) _ _ _ _ rfl (pv 0) rfl) pe_int) rfl) (@pss_one _ _ _ (@ps_if _ _ _ _ _ _ _ _ (@pt_cmpR _ _ _ _ _ _ _ _ op_eq (@pe_fldK _ (K) _ _ _ _ rfl (pv 0) rfl) pe_int (nomark _)) (@pss_cons _ _ _ _ _ (@ps_expr _ _ _ _ (pe_bm PySem.F.plainAttrs_list PySem.F.slot_list_append PySem.F.type_list_append mt_append (@pe_fldK _ (K) _ _ _ _ rfl (pv 0) rfl) (@pa_c _ _ _ _ _ (@pe_fldK _ (K) _ _ _ _ rfl (pv 0) rfl) pa_nil rfl)) rfl) (@pss_one _ _ _ (@ps_expr _ _ _ _ (@pe_gcallN _ _ _ _ _ _ _ _ _ _ G_end_turn (hr.mono (by decide)) rfl (@pa_c _ _ _ _ _ (pv 0) pa_nil rfl) (by decide) rfl) rfl))) pss_nil))), ?_⟩
  have ek : lastT s = shorten s u := by unfold lastT; rw [hu]
  rw [ek] at k
  unfold shorten at k
  wtm_at "vv"
  refine w_left T D fun H1 D1 F1 => ?_
  wtm_at "vv"
  refine iteD (fun g => ?_) (fun g => ?_)
  ·have g' : s.left - 1 = 0 := g
   rw [if_pos g'] at k
   wtm_at "vv"
   refine ⟨Sx.tyL D1.lw, ?_⟩
   wtm_at "vv"
   have eu : vU ({ s with left := s.left - 1 } : Hse).runs = .int (u : Int) := by show vU s.runs = _; rw [hu]; rfl
   rw [eu]
   refine Sx.app D1.lw (by unfold rowV; rw [List.length_map]; show s.row.length < _; omega) ?_
   have D2 := D1.setRow (s.row ++ [u])
   have er : rowV (s.row ++ [u]) = rowV s.row ++ [.int (u : Int)] := by unfold rowV; rw [List.map_append]; rfl
   rw [er] at D2
   have F2 : FrL H1 (upd H1 A.lw (.lst (rowV s.row ++ [.int (u : Int)]))) (footH A) := FrL.upd (h_core c_lw)
   have eH : upd H1 A.lw (.lst (rowV ({ s with left := s.left - 1 } : Hse).row ++ [.int (u : Int)])) = upd H1 A.lw (.lst (rowV s.row ++ [.int (u : Int)])) := rfl
   rw [eH]
   generalize upd H1 A.lw (.lst (rowV s.row ++ [.int (u : Int)])) = H2 at D2 F2 ⊢
   wtm_at "vv"
   exact ⟨A, _, rfl, D2, trivial, fun H3 D3 F3 => k H3 D3 (F1.trans (F2.trans F3))⟩
  ·have g' : ¬ s.left - 1 = 0 := g
   rw [if_neg g'] at k
   exact k H1 D1 F1
theorem ok_hin (R : Raw K mg "happen_in" s_happen_in) (T : TxtH K mg CH CP CM) (G_happen : GF P w K mg base "happen" ["person", "event"] 7 (sp_happenP K CP CM)) : GF P w K mg base "happen_in" ["house", "user", "event"] 8 (sp_hin CH CP CM) := by
 refine GF.mk R sc_happen_in (by wtm_at "3") (fun vs H Q E h => ?_) (fun f cdv A outer s H vs Q E hr h => ?_)
 ·obtain ⟨A, s, M, u, e, ev, rfl, _⟩ := h; rfl
 ·obtain ⟨A, s, M, u, e, ev, rfl, D, hB, hM, hu, he, k⟩ := h
  have TP := T.toTxtP
  obtain ⟨B, hp, DB, hix⟩ := D.at hu
  obtain ⟨d, rs, hd, Ed, hdx⟩ := D.dat (i := u) (by rw [hB.n2]; exact hu)
  have hdl := hB.dl _ (di_mem (s := s) (u := u) (by rw [hB.n2]; exact hu))
  have hrl := hB.rl
  refine ⟨_, (@pss_cons _ _ _ _ _ (@ps_set _ _ (3) _ _ _ _ sc_happen_in.nd rfl (Or.inl rfl) (@pe_ix _ _ _ _ _ _ _ (ix_listK (K := K) rfl) (@pe_fldK _ (K) _ _ _ _ rfl (pv 0) rfl) (pv 1) (fun _ _ => rfl)) rfl (by first | exact .inl rfl | exact .inr rfl | assumption)) (@pss_cons _ _ _ _ _ (@ps_set _ _ (4) _ _ _ _ sc_happen_in.nd rfl (Or.inl rfl) (@pe_cmpR _ _ _ _ _ _ _ _ op_eq (@pe_fldK _ (K) _ _ _ _ rfl (pv 3) rfl) (@pe_gstr _ _ _ _ rfl T.READY (by decide)) (nomark _)) rfl (by first | exact .inl rfl | exact .inr rfl | assumption)) (@pss_cons _ _ _ _ _ (@ps_expr _ _ _ _ (pe_bm PySem.F.plainAttrs_list PySem.F.slot_list_append PySem.F.type_list_append mt_append (@pe_ix _ _ _ _ _ _ _ (ix_listK (K := K) rfl) (@pe_fldK _ (K) _ _ _ _ rfl (pv 0) rfl) (pv 1) (fun _ _ => rfl)) (@pa_c _ _ _ _ _ (pv 2) pa_nil rfl)) rfl) (@pss_cons _ _ _ _ _ (@ps_expr _ _ _ _ (@pe_gcallN _ _ _ _ _ _ _ _ _ _ G_happen (hr.mono (by decide)) rfl (@pa_c _ _ _ _ _ (pv 3) (@pa_c _ _ _ _ _ (pv 2) pa_nil rfl) rfl) (by decide) rfl) rfl) (@pss_one _ _ _ (@ps_if _ _ _ _ _ _ _ _ (@PW.pt _ _ _ (@pw_and _ _ _ _ _ _ _ (@pt_cmpR _ _ _ _ _ _ _ _ op_eq (@pe_fldK _ (K) _ _ _ _ rfl (pv 3) rfl) (@pe_gstr _ _ _ _ rfl T.READY (by decide)) (nomark _)) (@pw_and1 _ _ _ _ (@pt_not _ _ _ _ (@pt_val _ _ _ (pv 4) (fun _ => rfl)))))) (@pss_one _ _ _ (@ps_expr _ _ _ _ (pe_bm PySem.F.plainAttrs_list PySem.F.slot_list_append PySem.F.type_list_append mt_append (@pe_fldK _ (K) _ _ _ _ rfl (pv 0) rfl) (@pa_c _ _ _ _ _ (pv 1) pa_nil rfl)) rfl)) pss_nil)))))), ?_⟩
  wtm_at "vv"
  refine Sx.ixL D.lp hix ?_
  wtm_at "vv"
  refine Sx.ixL D.ld hdx ?_
  refine ⟨Sx.tyL Ed.1, ?_⟩
  wtm_at "vv"
  refine Sx.app Ed.1 (by rw [List.length_map, Ed.2.1]; omega) ?_
  have D1 := D.setD hd Ed he
  rw [List.map_append] at D1
  have hdm := List.mem_of_getElem? hd
  have F1 : FrL H (upd H d (.lst (rs.map V.ref ++ [.ref e]))) (footH A) := FrL.upd (h_core (c_ds hdm))
  have he1 : (upd H d (.lst (rs.map V.ref ++ [.ref e]))) e = some (.tup (evV ev)) := by rw [upd_ne (fun z => by rw [z, Ed.1] at he; cases he)]; exact he
  have DB1 : PAt CP CM (upd H d (.lst (rs.map V.ref ++ [.ref e]))) B (usr s u) := DB.move fun x hx o ex => by rw [upd_ne (fun z => D.nd1 u B hp x hx (by rw [z]; exact c_ds hdm))]; exact ex
  have D1' : HAt CH CP CM (upd H d (.lst (rs.map V.ref ++ [.ref e]))) A { s with di := s.di.set u (s.di.getD u [] ++ [ev]) } := D1
  generalize upd H d (.lst (rs.map V.ref ++ [.ref e])) = H1 at D1' F1 he1 DB1 ⊢
  clear D1
  wtm_at "vv"
  refine ⟨B, usr s u, e, ev, rfl, DB1, hB.ru _ (usr_mem hu), SqT.of he1, fun H2 DB2 F2 => ?_⟩
  have D2 := D1'.setU (i := u) hp DB2 F2 (fun x hx => DB1.kind hx)
  have F2' : FrL H1 H2 (footH A) := F2.mono fun x hx => h_foot hp hx
  have F02 := F1.trans F2'
  unfold happenIn at k
  generalize hu' : happenU (usr s u) ev = u' at DB2 D2 k
  wtm_at "vv"
  refine iteD (fun g => ?_) (fun g => ?_)
  ·have g' : u'.st = .ready := St5.inj.mp g
   wtm_at "vv"
   by_cases g2 : (usr s u).st = .ready
   ·have e2 : decide ((usr s u).st.s = "ready") = true := decide_eq_true (by rw [g2]; rfl)
    rw [e2]
    wtm_at "vv"
    refine k H2 (D2.same ?_) F02
    rw [if_neg (fun z => z.2 g2)]
   ·have e2 : decide ((usr s u).st.s = "ready") = false := decide_eq_false (fun z => g2 (St5.inj.mp z))
    rw [e2]
    wtm_at "vv"
    refine ⟨Sx.tyL D2.lw, ?_⟩
    wtm_at "vv"
    refine Sx.app D2.lw (by unfold rowV; rw [List.length_map]; show s.row.length < _; omega) ?_
    have D3 := D2.setRow (s.row ++ [u])
    have er : rowV (s.row ++ [u]) = rowV s.row ++ [.int (u : Int)] := by unfold rowV; rw [List.map_append]; rfl
    rw [er] at D3
    refine k _ (D3.same ?_) (F02.trans (FrL.upd (h_core c_lw)))
    rw [if_pos ⟨g', g2⟩]
  ·have g' : ¬ u'.st = .ready := fun z => g (St5.inj.mpr z)
   refine k H2 (D2.same ?_) F02
   rw [if_neg (fun z => g' z.1)]
theorem ok_who (R : Raw K mg "step_who_runs" s_step_who_runs) (T : TxtH K mg CH CP CM) (G_happen_in : GF P w K mg base "happen_in" ["house", "user", "event"] 8 (sp_hin CH CP CM)) (G_end_turn : GF P w K mg base "end_turn" ["house"] 1 (spH CH CP CM (fun _ => True) endTurn)) : GF P w K mg base "step_who_runs" ["house"] 9 (fun vs H Q _ => ∃ A s M u, vs = [.ref A.h] ∧ HAt CH CP CM H A s ∧ Bd s M ∧ M < 900000 ∧ s.runs = some u ∧ ∀ H', HAt CH CP CM H' A (stepWho s u) → FrL H H' (footH A) → Q .non H') := by
 refine GF.mk R sc_step_who_runs (by wtm_at "1") (fun vs H Q E h => ?_) (fun f cdv A outer s H vs Q E hr h => ?_)
 ·obtain ⟨A, s, M, u, rfl, _⟩ := h; rfl
 ·obtain ⟨A, s, M, u, rfl, D, hB, hM, hru, k⟩ := h
  have TP := T.toTxtP
  have hu := hB.rn u hru
  refine ⟨_, (@pss_cons _ _ _ _ _ (@ps_set _ _ (1) _ _ _ _ sc_step_who_runs.nd rfl (Or.inl rfl) (@pe_fldK _ (K) _ _ _ _ rfl (pv 0) rfl) rfl (by first | exact .inl rfl | exact .inr rfl | assumption)) (@pss_cons _ _ _ _ _ (@ps_expr _ _ _ _ (@pe_gcallN _ _ _ _ _ _ _ _ _ _ G_happen_in (hr.mono (by decide)) rfl (@pa_c _ _ _ _ _ (pv 0) (@pa_c _ _ _ _ _ (pv 1) (@pa_c _ _ _ _ _ (@pe_tup _ _ _ _ _ (@pa_c _ _ _ _ _ pe_str pa_nil rfl)) pa_nil rfl) rfl) rfl) (by decide) rfl) rfl) (@pss_one _ _ _ (@ps_if _ _ _ _ _ _ _ _ (@pt_cmpR _ _ _ _ _ _ _ _ op_ne (@pe_fldK _ (K) _ _ _ _ rfl (@pe_ix _ _ _ _ _ _ _ (ix_listK (K := K) rfl) (@pe_fldK _ (K) _ _ _ _ rfl (pv 0) rfl) (pv 1) (fun _ _ => rfl)) rfl) (@pe_gstr _ _ _ _ rfl T.READY (by decide)) (nomark _)) (@pss_one _ _ _ (@ps_expr _ _ _ _ (@pe_gcallN _ _ _ _ _ _ _ _ _ _ G_end_turn (hr.mono (by decide)) rfl (@pa_c _ _ _ _ _ (pv 0) pa_nil rfl) (by decide) rfl) rfl)) pss_nil)))), ?_⟩
  wtm_at "vv"
  rw [show vU s.runs = V.int (u : Int) by rw [hru]; rfl]
  refine Sx.newT (by show 1 ≤ sizeLine; decide) fun e H1 ne he s1 => ?_
  wtm_at "vv"
  refine ⟨A, s, M, u, e, .step, rfl, D.keep s1, hB, hM, hu, he, fun H2 D2 F2 => ?_⟩
  have F02 : FrL H H2 (footH A) := fun b o x n => F2 b o (s1 b o x) n
  obtain ⟨B, hp, DB, hix⟩ := D2.at (i := u) (by rw [happenIn_len]; exact hu)
  unfold stepWho at k
  wtm_at "vv"
  refine Sx.ixL D2.lp hix ?_
  wtm_at "vv"
  refine iteN (fun g => ?_) (fun g => ?_)
  ·have g' : ¬ (usr (happenIn s u .step) u).st = .ready := fun z => g (St5.inj.mpr z)
   rw [if_neg g'] at k
   wtm_at "vv"
   exact ⟨A, _, rfl, D2, trivial, fun H3 D3 F3 => k H3 D3 (F02.trans F3)⟩
  ·have g' : (usr (happenIn s u .step) u).st = .ready := St5.inj.mp g
   rw [if_pos g'] at k
   exact k H2 D2 F02
def preM (n : Nat) (s : Hse) : Prop := ∃ M, Bd s M ∧ M < n
theorem ok_tickH (R : Raw K mg "do_tick" s_do_tick) (T : TxtH K mg CH CP CM) (G_happen_in : GF P w K mg base "happen_in" ["house", "user", "event"] 8 (sp_hin CH CP CM)) (G_shorten_turn : GF P w K mg base "shorten_turn" ["house"] 2 (spH CH CP CM (fun s => s.row.length < 1000000 ∧ ∃ u, s.runs = some u) lastT)) : GF P w K mg base "do_tick" ["house"] 9 (spH CH CP CM (preM 800000) doTick) := by
 refine GF.mk R sc_do_tick (by wtm_at "1") (fun vs H Q E h => ?_) (fun f cdv A outer s H vs Q E hr h => ?_)
 ·obtain ⟨A, s, rfl, _⟩ := h; rfl
 ·obtain ⟨A, s, rfl, D, ⟨M, hB, hM⟩, k⟩ := h
  have hn := hB.n1
  refine ⟨_, (@pss_cons _ _ _ _ _ (@ps_fldK _ (K) _ _ _ _ _ _ _ rfl (pv 0) (@pe_op _ _ _ _ _ _ _ _ op_add (@pe_fldK _ (K) _ _ _ _ rfl (pv 0) rfl) pe_int) rfl) (@pss_cons _ _ _ _ _ (@ps_for _ _ _ _ _ _ _ _ PassesOwn.never rfl (@pi_range1 _ _ _ _ _ _ rfl T.range_ (@pa_c _ _ _ _ _ (@pe_callBN _ _ _ _ _ _ _ _ _ (call_len_seqN (K := K) rfl) (by rfl) T.len_ bo_len (@pa_c _ _ _ _ _ (@pe_fldK _ (K) _ _ _ _ rfl (pv 0) rfl) pa_nil rfl) (by decide) (by decide) rfl) pa_nil rfl) rfl) (@pg_name _ _ (1) _ sc_do_tick.nd rfl (Or.inl rfl) (by first | exact .inl rfl | exact .inr rfl | assumption)) (@pss_one _ _ _ (@ps_expr _ _ _ _ (@pe_gcallN _ _ _ _ _ _ _ _ _ _ G_happen_in (hr.mono (by decide)) rfl (@pa_c _ _ _ _ _ (pv 0) (@pa_c _ _ _ _ _ (pv 1) (@pa_c _ _ _ _ _ (@pe_tup _ _ _ _ _ (@pa_c _ _ _ _ _ pe_str pa_nil rfl)) pa_nil rfl) rfl) rfl) (by decide) rfl) rfl)) (fun _ => rfl)) (@pss_one _ _ _ (@ps_if _ _ _ _ _ _ _ _ (@pt_cmpR _ _ _ _ _ _ _ _ op_notN (@pe_fldK _ (K) _ _ _ _ rfl (pv 0) rfl) pe_non (nomark _)) (@pss_one _ _ _ (@ps_expr _ _ _ _ (@pe_gcallN _ _ _ _ _ _ _ _ _ _ G_shorten_turn (hr.mono (by decide)) rfl (@pa_c _ _ _ _ _ (pv 0) pa_nil rfl) (by decide) rfl) rfl)) pss_nil)))), ?_⟩
  wtm_at "vv"
  refine w_ticks T D fun H1 D1 F1 => ?_
  have hB1 := hB.count (t := s.ticks + 1)
  have hl1 : ({ s with ticks := s.ticks + 1 } : Hse).us.length = s.us.length := rfl
  unfold doTick at k
  generalize ({ s with ticks := s.ticks + 1 } : Hse) = s1 at D1 hB1 hl1 k
  wtm_at "vv"
  refine Sx.lenL D1.lp ?_
  rw [List.length_map, D1.ul, hl1]
  refine ⟨_, rfl, by omega, by omega, for_range (n := s.us.length) (fun i σ' H' => ∃ v1, σ' = [some (.ref A.h), v1] ∧ HAt CH CP CM H' A (ticksN i s1) ∧ FrL H H' (footH A)) ⟨_, rfl, D1, F1⟩ ?_ ?_⟩
  ·rintro i _ H2 hi ⟨v1, rfl, D2, F2⟩
   have hB2 := hB1.ticks hM i (by omega)
   rw [Int.zero_add]
   wtm_at "vv"
   refine Sx.newT (by show 1 ≤ sizeLine; decide) fun e H3 ne he s3 => ?_
   wtm_at "vv"
   refine ⟨A, _, _, i, e, .tick, rfl, D2.keep s3, hB2, by omega, by rw [ticksN_len]; omega, he, fun H4 D4 F4 => ⟨_, rfl, D4, fun b o x n => F4 b o (s3 _ _ (F2 b o x n)) n⟩⟩
  ·rintro _ H2 ⟨v1, rfl, D2, F2⟩
   have hB2 := hB1.ticks hM s.us.length (by omega)
   have hrl := hB2.rl
   generalize ticksN s.us.length s1 = s2 at D2 hB2 hrl k
   wtm_at "vv"
   cases hru : s2.runs with
   | none =>
    refine iteN (fun z => (z rfl).elim) (fun _ => ?_)
    exact k H2 (D2.same (by unfold lastT; rw [hru])) F2
   | some u =>
    refine iteN (fun _ => ?_) (fun z => by cases z)
    wtm_at "vv"
    exact ⟨A, s2, rfl, D2, ⟨by omega, u, hru⟩, fun H3 D3 F3 => k H3 D3 (F2.trans F3)⟩
theorem ok_stepH (R : Raw K mg "do_step" s_do_step) (T : TxtH K mg CH CP CM) (G_step_who_runs : GF P w K mg base "step_who_runs" ["house"] 9 (fun vs H Q _ => ∃ A s M u, vs = [.ref A.h] ∧ HAt CH CP CM H A s ∧ Bd s M ∧ M < 900000 ∧ s.runs = some u ∧ ∀ H', HAt CH CP CM H' A (stepWho s u) → FrL H H' (footH A) → Q .non H')) (G_do_tick : GF P w K mg base "do_tick" ["house"] 9 (spH CH CP CM (preM 800000) doTick)) (G_let_next_run : GF P w K mg base "let_next_run" ["house"] 3 (spH CH CP CM (fun s => ∃ M, Bd s M) letNext)) : GF P w K mg base "do_step" ["house"] 10 (spH CH CP CM (preM 790000) doStep) := by
 refine GF.mk R sc_do_step (by wtm_at "1") (fun vs H Q E h => ?_) (fun f cdv A outer s H vs Q E hr h => ?_)
 ·obtain ⟨A, s, rfl, _⟩ := h; rfl
 ·obtain ⟨A, s, rfl, D, ⟨M, hB, hM⟩, k⟩ := h
  refine ⟨_, (@pss_cons _ _ _ _ _ (@ps_fldK _ (K) _ _ _ _ _ _ _ rfl (pv 0) (@pe_op _ _ _ _ _ _ _ _ op_add (@pe_fldK _ (K) _ _ _ _ rfl (pv 0) rfl) pe_int) rfl) (@pss_cons _ _ _ _ _ (@ps_cut _ _ _ (@ps_if _ _ _ _ _ _ _ _ (@pt_cmpR _ _ _ _ _ _ _ _ op_isN (@pe_fldK _ (K) _ _ _ _ rfl (pv 0) rfl) pe_non (nomark _)) (@pss_one _ _ _ (@ps_fldK _ (K) _ _ _ _ _ _ _ rfl (pv 0) (@pe_op _ _ _ _ _ _ _ _ op_add (@pe_fldK _ (K) _ _ _ _ rfl (pv 0) rfl) pe_int) rfl)) (@pss_one _ _ _ (@ps_expr _ _ _ _ (@pe_gcallN _ _ _ _ _ _ _ _ _ _ G_step_who_runs (hr.mono (by decide)) rfl (@pa_c _ _ _ _ _ (pv 0) pa_nil rfl) (by decide) rfl) rfl)))) (@pss_cons _ _ _ _ _ (@ps_cut _ _ _ (@ps_if _ _ _ _ _ _ _ _ (@pt_cmpR _ _ _ _ _ _ _ _ op_eq (@pe_op _ _ _ _ _ _ _ _ op_mod (@pe_fldK _ (K) _ _ _ _ rfl (pv 0) rfl) (@pe_fldK _ (K) _ _ _ _ rfl (pv 0) rfl)) pe_int (nomark _)) (@pss_one _ _ _ (@ps_expr _ _ _ _ (@pe_gcallN _ _ _ _ _ _ _ _ _ _ G_do_tick (hr.mono (by decide)) rfl (@pa_c _ _ _ _ _ (pv 0) pa_nil rfl) (by decide) rfl) rfl)) pss_nil)) (@pss_one _ _ _ (@ps_expr _ _ _ _ (@pe_gcallN _ _ _ _ _ _ _ _ _ _ G_let_next_run (hr.mono (by decide)) rfl (@pa_c _ _ _ _ _ (pv 0) pa_nil rfl) (by decide) rfl) rfl))))), ?_⟩
  wtm_at "vv"
  refine w_steps T D fun H1 D1 F1 => ?_
  have hB1 := hB.s1 (by omega)
  have hB2 := hB1.s2 (by omega)
  unfold doStep at k
  wtm_at "vv"
  refine Sx.cut (fun σ' H' => σ' = [some (.ref A.h)] ∧ HAt CH CP CM H' A (step1 s) ∧ FrL H H' (footH A)) ?_ ?_
  ·wtm_at "vv"
   show if decide (vU s.runs = V.non) = true then _ else _
   cases hru : s.runs with
   | none =>
    refine iteD (fun _ => ?_) (fun z => (z rfl).elim)
    wtm_at "vv"
    refine w_idle T D1 fun H2 D2 F2 => ⟨rfl, D2.same ?_, F1.trans F2⟩
    unfold step1; rw [hru]
   | some u =>
    refine iteD (fun z => by cases z) (fun _ => ?_)
    wtm_at "vv"
    refine ⟨A, _, M, u, rfl, D1, ⟨hB.ru, hB.pa, hB.dl, hB.rl, hB.n1, hB.n2, hB.rr, hB.rn, hB.ro, hB.tu, hB.be⟩, by omega, hru, fun H2 D2 F2 => ⟨rfl, D2.same ?_, F1.trans F2⟩⟩
    unfold step1; rw [hru]
  rintro _ H2 ⟨rfl, D2, F2⟩
  generalize step1 s = s1 at D2 hB1 hB2 k
  have hbe := hB1.be
  wtm_at "vv"
  refine Sx.cut (fun σ' H' => σ' = [some (.ref A.h)] ∧ HAt CH CP CM H' A (step2 s1) ∧ FrL H H' (footH A)) ?_ ?_
  ·wtm_at "vv"
   refine iteD (fun g => ?_) (fun g => ?_)
   ·wtm_at "vv"
    refine ⟨A, s1, rfl, D2, ⟨_, hB1, by omega⟩, fun H3 D3 F3 => ⟨rfl, D3.same ?_, F2.trans F3⟩⟩
    unfold step2; rw [if_pos g]
   ·refine ⟨rfl, D2.same ?_, F2⟩
    unfold step2; rw [if_neg g]
  rintro _ H3 ⟨rfl, D3, F3⟩
  wtm_at "vv"
  exact ⟨A, _, rfl, D3, ⟨_, hB2⟩, fun H4 D4 F4 => k H4 D4 (F3.trans F4)⟩
theorem ok_run (R : Raw K mg "run" s_run) (T : TxtH K mg CH CP CM) (G_do_step : GF P w K mg base "do_step" ["house"] 10 (spH CH CP CM (preM 790000) doStep)) : GF P w K mg base "run" ["house", "count"] 11 (spHu CH CP CM (fun s n => ∃ M, Bd s M ∧ M + 10 * n < 790000) (fun s n => runN n s)) := by
 refine GF.mk R sc_run (by wtm_at "2") (fun vs H Q E h => ?_) (fun f cdv A outer s H vs Q E hr h => ?_)
 ·obtain ⟨A, s, n, rfl, _⟩ := h; rfl
 ·obtain ⟨A, s, n, rfl, D, ⟨M, hB, hM⟩, k⟩ := h
  refine ⟨_, (@pss_one _ _ _ (@ps_for _ _ _ _ _ _ _ _ PassesOwn.never rfl (@pi_range1 _ _ _ _ _ _ rfl T.range_ (@pa_c _ _ _ _ _ (pv 1) pa_nil rfl) rfl) (@pg_name _ _ (2) _ sc_run.nd rfl (Or.inl rfl) (by first | exact .inl rfl | exact .inr rfl | assumption)) (@pss_one _ _ _ (@ps_expr _ _ _ _ (@pe_gcallN _ _ _ _ _ _ _ _ _ _ G_do_step (hr.mono (by decide)) rfl (@pa_c _ _ _ _ _ (pv 0) pa_nil rfl) (by decide) rfl) rfl)) (fun _ => rfl))), ?_⟩
  wtm_at "vv"
  refine ⟨_, rfl, by omega, by omega, for_range (n := n) (fun i σ' H' => ∃ v2, σ' = [some (.ref A.h), some (.int (n : Int)), v2] ∧ HAt CH CP CM H' A (runN i s) ∧ FrL H H' (footH A)) ⟨_, rfl, D, FrL.refl⟩ ?_ ?_⟩
  ·rintro i _ H2 hi ⟨v2, rfl, D2, F2⟩
   wtm_at "vv"
   refine ⟨A, _, rfl, D2, ⟨_, hB.run i (by omega), by omega⟩, fun H3 D3 F3 => ⟨_, rfl, D3, F2.trans F3⟩⟩
  ·rintro _ H2 ⟨v2, rfl, D2, F2⟩
   exact k H2 D2 F2
end
end Hs
namespace Hs
open PySem L2 Mir Pr Tx Lw Dm Us Du Pp
def sp_empty : Sp := fun vs H Q _ => ∃ n : Nat, vs = [.int (n : Int)] ∧ n ≤ 1000 ∧ ∀ l H', H l = none → H' l = some (.lst ((List.replicate n (none : Option Nat)).map vU)) → Same H H' → Q (.ref l) H'
def sp_initH (CH CP CM : Addr) : Sp := fun vs H Q _ => ∃ (p dx : Addr) (n r : Nat) (qu be : Int), vs = [.ref p, .int (n : Int), .int (r : Int), .int qu, .int be] ∧ H p = some (.ins CH dx []) ∧ n ≤ 8 ∧ r ≤ 8 ∧
 ∀ A H', A.h = p → HAt CH CP CM H' A (newH n r qu be) → (∀ x ∈ footH A, x = p ∨ H x = none) → FrL H H' [p] → Q .non H'
theorem make_h {CH CP CM : Addr} {H : Hp} {n r : Nat} {qu be : Int} {Q : Addr → Hp → Prop} (hn : n ≤ 8) (hr : r ≤ 8) (k : ∀ A H', (∀ x ∈ footH A, H x = none) → HAt CH CP CM H' A (newH n r qu be) → Same H H' → Q A.h H') :
  ∀ x dx, H x = none → H dx = none → dx ≠ x → sp_initH CH CP CM (.ref x :: ([.int (n : Int), .int (r : Int), .int qu, .int be] ++ [])) (upd (upd H dx (.own x)) x (.ins CH dx [])) (fun v H2 => v = .non ∧ Q x H2) E0 := by
 intro x dx nx ndx nex
 have s1 : Same H (upd (upd H dx (.own x)) x (.ins CH dx [])) := ((Same.refl H).upd ndx).upd nx
 refine ⟨x, dx, n, r, qu, be, rfl, upd_same, hn, hr, fun A H' ep D hf F => ⟨rfl, ?_⟩⟩
 have := k A H' (fun y hy => (hf y hy).elim (fun e => by rw [e]; exact nx) fun e => s1.free e) D fun b o e => F b o (s1 b o e) (nmem1 (ne_of_none e nx))
 rw [ep] at this
 exact this
section
variable {P : Program} {w : World} {K : PySem.W.Frag} {mg : Str → Option Value} {base : Heap} {CH CP CM : Addr}
theorem ok_empty (R : Raw K mg "empty_rooms" s_empty_rooms) : GF P w K mg base "empty_rooms" ["count"] 1 sp_empty := by
 refine GF.mk R sc_empty_rooms (by wtm_at "1") (fun vs H Q E h => ?_) (fun f cdv A outer s H vs Q E hr h => ?_)
 ·obtain ⟨n, rfl, _⟩ := h; rfl
 ·obtain ⟨n, rfl, hn, k⟩ := h
  refine ⟨_, (@pss_one _ _ _ (@ps_ret _ _ _ _ (@pe_op _ _ _ _ _ _ _ _ op_rep (@pe_lst _ _ _ _ (@pa_c _ _ _ _ _ pe_non pa_nil rfl)) (pv 0)))), ?_⟩
  wtm_at "vv"
  refine Sx.newL (by show 1 ≤ sizeLine; decide) fun q H1 nq hq s1 => ?_
  wtm_at "vv"
  refine Sx.rep hq (by omega) (by omega) fun l nl => ?_
  have e : List.replicate (n : Int).toNat V.non = (List.replicate n (none : Option Nat)).map vU := by rw [List.map_replicate, Int.toNat_natCast]; rfl
  rw [e]
  exact k l _ (s1.free nl) upd_same (s1.trans (Same.newH nl))
theorem ok_initH {q : Str} (R : RawC K mg "House" q CH s_House_init) (T : TxtH K mg CH CP CM) (M_Person : GC P w K mg base "Person" CP ["self", "cells", "switches"] 3 (sp_initP K CP CM)) (G_empty_rooms : GF P w K mg base "empty_rooms" ["count"] 1 sp_empty) : GC P w K mg base "House" CH ["self", "users", "rooms", "quantum", "beat"] 5 (sp_initH CH CP CM) := by
 refine GC.mk R sc_House_init (fun _ _ _ _ _ _ us hl => match us, hl with | [_, _, _, _, _], _ => rfl) (fun vs H Q E h => ?_) (fun f cdv A outer s H vs Q E hr h => ?_)
 ·obtain ⟨p, dx, n, r, qu, be, rfl, _⟩ := h; rfl
 ·obtain ⟨p, dx, n, r, qu, be, rfl, hp, hn, hr8, k⟩ := h
  refine ⟨_, (@pss_cons _ _ _ _ _ (@ps_fldK _ (K) _ _ _ _ _ _ _ rfl (pv 0) (@pe_lcomp _ _ _ _ _ _ _ _ _ _ _ _ ([]) rfl (@pi_range1 _ _ _ _ _ _ rfl T.range_ (@pa_c _ _ _ _ _ (pv 1) pa_nil rfl) rfl) ⟨rfl, rfl, by decide +kernel, by decide +kernel, rfl, by decide +kernel, trivial, rfl, trivial⟩ (fun _ _ _ _ => pts_nil) (fun _ _ _ _ => (@pe_gmakeN _ _ _ _ _ _ _ _ _ _ _ M_Person (hr.mono (by decide)) rfl (@pa_c _ _ _ _ _ (@pe_op _ _ _ _ _ _ _ _ op_rep (@pe_lst _ _ _ _ (@pa_c _ _ _ _ _ pe_int pa_nil rfl)) (@pe_gint _ _ _ _ rfl T.PLACES (by decide))) (@pa_c _ _ _ _ _ pe_int pa_nil rfl) rfl) (by decide) rfl)) (fun _ => rfl)) rfl) (@pss_cons _ _ _ _ _ (@ps_fldK _ (K) _ _ _ _ _ _ _ rfl (pv 0) (@pe_lcomp _ _ _ _ _ _ _ _ _ _ _ _ ([]) rfl (@pi_range1 _ _ _ _ _ _ rfl T.range_ (@pa_c _ _ _ _ _ (pv 1) pa_nil rfl) rfl) ⟨rfl, rfl, by decide +kernel, by decide +kernel, rfl, by decide +kernel, trivial, rfl, trivial⟩ (fun _ _ _ _ => pts_nil) (fun _ _ _ _ => (@pe_lst _ _ _ _ pa_nil)) (fun _ => rfl)) rfl) (@pss_cons _ _ _ _ _ (@ps_fldK _ (K) _ _ _ _ _ _ _ rfl (pv 0) (@pe_gcallN _ _ _ _ _ _ _ _ _ _ G_empty_rooms (hr.mono (by decide)) rfl (@pa_c _ _ _ _ _ (pv 2) pa_nil rfl) (by decide) rfl) rfl) (@pss_cons _ _ _ _ _ (@ps_fldK _ (K) _ _ _ _ _ _ _ rfl (pv 0) (pv 3) rfl) (@pss_cons _ _ _ _ _ (@ps_fldK _ (K) _ _ _ _ _ _ _ rfl (pv 0) (pv 4) rfl) (@pss_cons _ _ _ _ _ (@ps_fldK _ (K) _ _ _ _ _ _ _ rfl (pv 0) pe_non rfl) (@pss_cons _ _ _ _ _ (@ps_fldK _ (K) _ _ _ _ _ _ _ rfl (pv 0) (@pe_lst _ _ _ _ pa_nil) rfl) (@pss_cons _ _ _ _ _ (@ps_fldK _ (K) _ _ _ _ _ _ _ rfl (pv 0) pe_int rfl) (@pss_cons _ _ _ _ _ (@ps_fldK _ (K) _ _ _ _ _ _ _ rfl (pv 0) pe_int rfl) (@pss_cons _ _ _ _ _ (@ps_fldK _ (K) _ _ _ _ _ _ _ rfl (pv 0) pe_int rfl) (@pss_cons _ _ _ _ _ (@ps_fldK _ (K) _ _ _ _ _ _ _ rfl (pv 0) pe_int rfl) (@pss_cons _ _ _ _ _ (@ps_fldK _ (K) _ _ _ _ _ _ _ rfl (pv 0) pe_int rfl) (@pss_one _ _ _ (@ps_fldK _ (K) _ _ _ _ _ _ _ rfl (pv 0) pe_int rfl)))))))))))))), ?_⟩
  wtm_at "vv"
  refine ⟨_, rfl, by omega, by omega, lc_rangeI (lo := 0) (n := n) (fun i acc H' => Same H H' ∧ ∃ ps : List PAd, ps.length = i ∧ acc = (ps.map fun B => V.ref B.p) ∧ (∀ (j : Nat) B, ps[j]? = some B → PAt CP CM H' B U0) ∧ (∀ B ∈ ps, ∀ x ∈ foot B, H x = none) ∧ ∀ (i j : Nat) B C, i ≠ j → ps[i]? = some B → ps[j]? = some C → ∀ x ∈ foot B, x ∉ foot C) (by rw [sizeLine_eq]; omega) ⟨Same.refl _, [], rfl, rfl, by simp, by simp, by simp⟩ (fun i acc H' h => ?_) (fun i acc H' hi h Q' q' => ?_) (fun acc Ha h lp nlp => ?_)⟩
  ·obtain ⟨_, ps, hl, rfl, _⟩ := h
   rw [List.length_map]; exact hl
  ·obtain ⟨sm, ps, hl, rfl, hP, hf, hd⟩ := h
   wtm_at "vv"
   refine Sx.newL (by show 1 ≤ sizeLine; decide) fun q1 G1 nq1 hq1 s1 => ?_
   wtm_at "vv"
   refine Sx.rep hq1 (by decide) (by decide) fun q2 nq2 => ?_
   have e64 : List.replicate (64 : Int).toNat (V.int 0) = (List.replicate 64 (0 : Int)).map V.int := rfl
   rw [e64]
   have s2 : Same G1 (upd G1 q2 (.lst ((List.replicate 64 (0 : Int)).map V.int))) := Same.newH nq2
   have hq2 : (upd G1 q2 (.lst ((List.replicate 64 (0 : Int)).map V.int))) q2 = some (.lst ((List.replicate 64 (0 : Int)).map V.int)) := upd_same
   generalize upd G1 q2 (.lst ((List.replicate 64 (0 : Int)).map V.int)) = G2 at s2 hq2 ⊢
   wtm_at "vv"
   refine make_p (.inl (SqL.of hq2)) (by decide) fun B G3 nB DB s3 => ?_
   have s03 := s1.trans (s2.trans s3)
   have nB0 : ∀ x ∈ foot B, H' x = none := fun x hx => (s1.trans s2).free (nB x hx)
   have dis : ∀ (j : Nat) C, ps[j]? = some C → ∀ x ∈ foot C, x ∉ foot B := fun j C e x hx hy => by
    obtain ⟨o, z⟩ := (hP j C e).there hx
    rw [nB0 x hy] at z
    cases z
   have last : ∀ {j : Nat} {C : PAd}, (ps ++ [B])[j]? = some C → ps[j]? = some C ∧ j < ps.length ∨ j = ps.length ∧ C = B := by
    intro j C e
    rcases Nat.lt_or_ge j ps.length with z | z
    ·rw [List.getElem?_append_left z] at e
     exact .inl ⟨e, z⟩
    ·rw [List.getElem?_append_right z] at e
     rcases Nat.lt_or_ge (j - ps.length) 1 with z2 | z2
     ·have : j - ps.length = 0 := by omega
      rw [this] at e
      cases e
      exact .inr ⟨by omega, rfl⟩
     ·rw [List.getElem?_eq_none (by simpa using z2)] at e; cases e
   refine q' _ _ ⟨sm.trans s03, ps ++ [B], by rw [List.length_append]; simp [hl], by rw [List.map_append]; rfl, fun j C e => ?_, fun C hC x hx => ?_, fun i j C E g e1 e2 x hx => ?_⟩
   ·rcases last e with ⟨e, _⟩ | ⟨_, rfl⟩
    ·exact (hP j C e).keep s03
    ·exact DB
   ·rcases List.mem_append.mp hC with z | z
    ·exact hf C z x hx
    ·rw [List.mem_singleton.mp z] at hx; exact sm.free (nB0 x hx)
   ·rcases last e1 with ⟨f1, z1⟩ | ⟨z1, y1⟩ <;> rcases last e2 with ⟨f2, z2⟩ | ⟨z2, y2⟩
    ·exact hd i j C E g f1 f2 x hx
    ·rw [y2]; exact dis i C f1 x hx
    ·rw [y1] at hx; exact fun y => dis j E f2 x y hx
    ·exact (g (z1.trans z2.symm)).elim
  obtain ⟨sa, ps, hpl, rfl, hP, hf, hd⟩ := h
  have hpa := sa _ _ hp
  have npl := ne_of_none hpa nlp
  have glp : H lp = none := sa.free nlp
  have alive : ∀ {x : Addr}, (∃ B ∈ ps, x ∈ foot B) → ∃ o, Ha x = some o := fun {x} ⟨B, hB, hx⟩ => by
   obtain ⟨i, hi, e⟩ := List.getElem_of_mem hB
   exact (hP i B (by rw [List.getElem?_eq_getElem hi, e])).there hx
  have nlpf : ∀ B ∈ ps, lp ∉ foot B := fun B hB z => by
   obtain ⟨o, e⟩ := alive ⟨B, hB, z⟩
   rw [nlp] at e; cases e
  have npf : ∀ B ∈ ps, ∀ x ∈ foot B, x ∉ [p] := fun B hB x hx z => by
   have := hf B hB x hx
   rw [List.mem_singleton.mp z, hp] at this; cases this
  wtm_at "vv"
  refine ⟨p, CH, dx, [], rfl, by rw [upd_ne npl]; exact hpa, T.clH, T.n_people, by show 0 < 1000; decide, ?_⟩
  obtain ⟨H1, eH1⟩ : ∃ h, h = upd (upd Ha lp (.lst (ps.map fun B => V.ref B.p))) p (.ins CH dx (putF "people" (.ref lp) [])) := ⟨_, rfl⟩
  have hp1 : H1 p = some (.ins CH dx [("people", .ref lp)]) := by rw [eH1, upd_same]; rfl
  have Fa : FrL Ha H1 [p] := by rw [eH1]; exact (FrL.new nlp).trans (FrL.upd mem1)
  have hlp1 : H1 lp = some (.lst (ps.map fun B => V.ref B.p)) := by rw [eH1]; exact twoA npl.symm
  have F1 : FrL H H1 [p] := FrL.trans (fun b o e _ => sa b o e) Fa
  rw [← eH1]
  clear eH1
  have hP1 : ∀ (j : Nat) B, ps[j]? = some B → PAt CP CM H1 B U0 := fun j B e => (hP j B e).far Fa (npf B (List.mem_of_getElem? e))
  wtm_at "vv"
  refine ⟨_, rfl, by omega, by omega, lc_rangeI (lo := 0) (n := n) (fun i acc H' => Same H1 H' ∧ ∃ ds : List Addr, ds.length = i ∧ acc = ds.map V.ref ∧ (∀ d ∈ ds, H' d = some (.lst [])) ∧ ds.Nodup ∧ ∀ d ∈ ds, H1 d = none) (by rw [sizeLine_eq]; omega) ⟨Same.refl _, [], rfl, rfl, by simp, List.nodup_nil, by simp⟩ (fun i acc H' h => ?_) (fun i acc H' hi h Q' q' => ?_) (fun acc Hb h ld nld => ?_)⟩
  ·obtain ⟨_, ds, hl, rfl, _⟩ := h
   rw [List.length_map]; exact hl
  ·obtain ⟨sm, ds, hl, rfl, hb, hnn, hf⟩ := h
   wtm_at "vv"
   refine Sx.newL (by decide) fun q1 G1 nq1 hq1 s1 => ?_
   have nb : q1 ∉ ds := fun z => by rw [hb q1 z] at nq1; cases nq1
   refine q' _ _ ⟨sm.trans s1, ds ++ [q1], by rw [List.length_append]; simp [hl], by rw [List.map_append]; rfl, fun d hd' => ?_, ?_, fun d hd' => ?_⟩
   ·rcases List.mem_append.mp hd' with z | z
    ·exact s1 _ _ (hb d z)
    ·rw [List.mem_singleton.mp z]; exact hq1
   ·rw [List.nodup_append]
    exact ⟨hnn, by simp, fun x hx y hy => by rw [List.mem_singleton.mp hy]; exact fun e => nb (by rw [← e]; exact hx)⟩
   ·rcases List.mem_append.mp hd' with z | z
    ·exact hf d z
    ·rw [List.mem_singleton.mp z]; exact sm.free nq1
  obtain ⟨sb, ds, hdl, rfl, hds, hdn, hdf⟩ := h
  have hpb := sb _ _ hp1
  have npd := ne_of_none hpb nld
  wtm_at "vv"
  refine ⟨p, CH, dx, _, rfl, by rw [upd_ne npd]; exact hpb, T.clH, T.n_diaries, by show 1 < 1000; decide, ?_⟩
  obtain ⟨H2, eH2⟩ : ∃ h, h = upd (upd Hb ld (.lst (ds.map V.ref))) p (.ins CH dx (putF "diaries" (.ref ld) [("people", .ref lp)])) := ⟨_, rfl⟩
  have hp2 : H2 p = some (.ins CH dx [("people", .ref lp), ("diaries", .ref ld)]) := by rw [eH2, upd_same, putF_add (by simp only [List.map_cons, List.map_nil]; decide +kernel)]; rfl
  have Fb : FrL Hb H2 [p] := by rw [eH2]; exact (FrL.new nld).trans (FrL.upd mem1)
  have F12 : FrL H1 H2 [p] := FrL.trans (fun b o e _ => sb b o e) Fb
  have hld2 : H2 ld = some (.lst (ds.map V.ref)) := by rw [eH2]; exact twoA npd.symm
  rw [← eH2]
  clear eH2
  have nold : ∀ {x : Addr} {o : HO}, H1 x = some o → x ∉ ds := fun {x o} z y => by rw [hdf x y] at z; cases z
  have npds : p ∉ ds := nold hp1
  have hds2 : ∀ d ∈ ds, H2 d = some (.lst []) := fun d z => Fb _ _ (hds d z) (nmem1 (fun e => npds (by rw [← e]; exact z)))
  wtm_at "vv"
  refine ⟨r, rfl, by omega, fun lr Hc nlr hlr sc => ?_⟩
  have hpc := sc _ _ hp2
  have npr : p ≠ lr := ne_of_none hp2 nlr
  wtm_at "vv"
  refine ⟨p, CH, dx, _, rfl, hpc, T.clH, T.n_rooms, by show 2 < 1000; decide, ?_⟩
  obtain ⟨H3, eH3⟩ : ∃ h, h = upd Hc p (.ins CH dx (putF "rooms" (.ref lr) [("people", .ref lp), ("diaries", .ref ld)])) := ⟨_, rfl⟩
  have hp3 : H3 p = some (.ins CH dx [("people", .ref lp), ("diaries", .ref ld), ("rooms", .ref lr)]) := by rw [eH3, upd_same, putF_add (by simp only [List.map_cons, List.map_nil]; decide +kernel)]; rfl
  have Fc : FrL Hc H3 [p] := by rw [eH3]; exact FrL.upd mem1
  have F23 : FrL H2 H3 [p] := FrL.trans (fun b o e _ => sc b o e) Fc
  have hlr3 : H3 lr = some (.lst ((List.replicate r (none : Option Nat)).map vU)) := by rw [eH3, upd_ne npr.symm]; exact hlr
  rw [← eH3]
  clear eH3
  wtm_at "vv"
  refine ⟨p, CH, dx, _, rfl, hp3, T.clH, T.n_quantum, by show 3 < 1000; decide, ?_⟩
  obtain ⟨H4, eH4⟩ : ∃ h, h = upd H3 p (.ins CH dx (putF "quantum" (.int qu) [("people", .ref lp), ("diaries", .ref ld), ("rooms", .ref lr)])) := ⟨_, rfl⟩
  have hp4 : H4 p = some (.ins CH dx [("people", .ref lp), ("diaries", .ref ld), ("rooms", .ref lr), ("quantum", .int qu)]) := by rw [eH4, upd_same, putF_add (by simp only [List.map_cons, List.map_nil]; decide +kernel)]; rfl
  have F34 : FrL H3 H4 [p] := by rw [eH4]; exact FrL.upd mem1
  rw [← eH4]
  clear eH4
  wtm_at "vv"
  refine ⟨p, CH, dx, _, rfl, hp4, T.clH, T.n_beat, by show 4 < 1000; decide, ?_⟩
  obtain ⟨H5, eH5⟩ : ∃ h, h = upd H4 p (.ins CH dx (putF "beat" (.int be) [("people", .ref lp), ("diaries", .ref ld), ("rooms", .ref lr), ("quantum", .int qu)])) := ⟨_, rfl⟩
  have hp5 : H5 p = some (.ins CH dx [("people", .ref lp), ("diaries", .ref ld), ("rooms", .ref lr), ("quantum", .int qu), ("beat", .int be)]) := by rw [eH5, upd_same, putF_add (by simp only [List.map_cons, List.map_nil]; decide +kernel)]; rfl
  have F45 : FrL H4 H5 [p] := by rw [eH5]; exact FrL.upd mem1
  rw [← eH5]
  clear eH5
  wtm_at "vv"
  refine ⟨p, CH, dx, _, rfl, hp5, T.clH, T.n_runs, by show 5 < 1000; decide, ?_⟩
  obtain ⟨H6, eH6⟩ : ∃ h, h = upd H5 p (.ins CH dx (putF "runs" (.non) [("people", .ref lp), ("diaries", .ref ld), ("rooms", .ref lr), ("quantum", .int qu), ("beat", .int be)])) := ⟨_, rfl⟩
  have hp6 : H6 p = some (.ins CH dx [("people", .ref lp), ("diaries", .ref ld), ("rooms", .ref lr), ("quantum", .int qu), ("beat", .int be), ("runs", .non)]) := by rw [eH6, upd_same, putF_add (by simp only [List.map_cons, List.map_nil]; decide +kernel)]; rfl
  have F56 : FrL H5 H6 [p] := by rw [eH6]; exact FrL.upd mem1
  rw [← eH6]
  clear eH6
  wtm_at "vv"
  refine Sx.newL (by decide) fun lw Hw nlw hlw sw => ?_
  have npw : p ≠ lw := ne_of_none hp6 nlw
  wtm_at "vv"
  refine ⟨p, CH, dx, _, rfl, sw _ _ hp6, T.clH, T.n_row, by show 6 < 1000; decide, ?_⟩
  obtain ⟨H7, eH7⟩ : ∃ h, h = upd Hw p (.ins CH dx (putF "row" (.ref lw) [("people", .ref lp), ("diaries", .ref ld), ("rooms", .ref lr), ("quantum", .int qu), ("beat", .int be), ("runs", .non)])) := ⟨_, rfl⟩
  have hp7 : H7 p = some (.ins CH dx [("people", .ref lp), ("diaries", .ref ld), ("rooms", .ref lr), ("quantum", .int qu), ("beat", .int be), ("runs", .non), ("row", .ref lw)]) := by rw [eH7, upd_same, putF_add (by simp only [List.map_cons, List.map_nil]; decide +kernel)]; rfl
  have F67 : FrL H6 H7 [p] := by rw [eH7]; exact FrL.trans (fun b o e _ => sw b o e) (FrL.upd mem1)
  have hlw7 : H7 lw = some (.lst []) := by rw [eH7, upd_ne npw.symm]; exact hlw
  rw [← eH7]
  clear eH7
  wtm_at "vv"
  refine ⟨p, CH, dx, _, rfl, hp7, T.clH, T.n_steps, by show 7 < 1000; decide, ?_⟩
  obtain ⟨H8, eH8⟩ : ∃ h, h = upd H7 p (.ins CH dx (putF "steps" (.int 0) [("people", .ref lp), ("diaries", .ref ld), ("rooms", .ref lr), ("quantum", .int qu), ("beat", .int be), ("runs", .non), ("row", .ref lw)])) := ⟨_, rfl⟩
  have hp8 : H8 p = some (.ins CH dx [("people", .ref lp), ("diaries", .ref ld), ("rooms", .ref lr), ("quantum", .int qu), ("beat", .int be), ("runs", .non), ("row", .ref lw), ("steps", .int 0)]) := by rw [eH8, upd_same, putF_add (by simp only [List.map_cons, List.map_nil]; decide +kernel)]; rfl
  have F78 : FrL H7 H8 [p] := by rw [eH8]; exact FrL.upd mem1
  rw [← eH8]
  clear eH8
  wtm_at "vv"
  refine ⟨p, CH, dx, _, rfl, hp8, T.clH, T.n_idle, by show 8 < 1000; decide, ?_⟩
  obtain ⟨H9, eH9⟩ : ∃ h, h = upd H8 p (.ins CH dx (putF "idle" (.int 0) [("people", .ref lp), ("diaries", .ref ld), ("rooms", .ref lr), ("quantum", .int qu), ("beat", .int be), ("runs", .non), ("row", .ref lw), ("steps", .int 0)])) := ⟨_, rfl⟩
  have hp9 : H9 p = some (.ins CH dx [("people", .ref lp), ("diaries", .ref ld), ("rooms", .ref lr), ("quantum", .int qu), ("beat", .int be), ("runs", .non), ("row", .ref lw), ("steps", .int 0), ("idle", .int 0)]) := by rw [eH9, upd_same, putF_add (by simp only [List.map_cons, List.map_nil]; decide +kernel)]; rfl
  have F89 : FrL H8 H9 [p] := by rw [eH9]; exact FrL.upd mem1
  rw [← eH9]
  clear eH9
  wtm_at "vv"
  refine ⟨p, CH, dx, _, rfl, hp9, T.clH, T.n_ticks, by show 9 < 1000; decide, ?_⟩
  obtain ⟨H10, eH10⟩ : ∃ h, h = upd H9 p (.ins CH dx (putF "ticks" (.int 0) [("people", .ref lp), ("diaries", .ref ld), ("rooms", .ref lr), ("quantum", .int qu), ("beat", .int be), ("runs", .non), ("row", .ref lw), ("steps", .int 0), ("idle", .int 0)])) := ⟨_, rfl⟩
  have hp10 : H10 p = some (.ins CH dx [("people", .ref lp), ("diaries", .ref ld), ("rooms", .ref lr), ("quantum", .int qu), ("beat", .int be), ("runs", .non), ("row", .ref lw), ("steps", .int 0), ("idle", .int 0), ("ticks", .int 0)]) := by rw [eH10, upd_same, putF_add (by simp only [List.map_cons, List.map_nil]; decide +kernel)]; rfl
  have F910 : FrL H9 H10 [p] := by rw [eH10]; exact FrL.upd mem1
  rw [← eH10]
  clear eH10
  wtm_at "vv"
  refine ⟨p, CH, dx, _, rfl, hp10, T.clH, T.n_swaps, by show 10 < 1000; decide, ?_⟩
  obtain ⟨H11, eH11⟩ : ∃ h, h = upd H10 p (.ins CH dx (putF "swaps" (.int 0) [("people", .ref lp), ("diaries", .ref ld), ("rooms", .ref lr), ("quantum", .int qu), ("beat", .int be), ("runs", .non), ("row", .ref lw), ("steps", .int 0), ("idle", .int 0), ("ticks", .int 0)])) := ⟨_, rfl⟩
  have hp11 : H11 p = some (.ins CH dx [("people", .ref lp), ("diaries", .ref ld), ("rooms", .ref lr), ("quantum", .int qu), ("beat", .int be), ("runs", .non), ("row", .ref lw), ("steps", .int 0), ("idle", .int 0), ("ticks", .int 0), ("swaps", .int 0)]) := by rw [eH11, upd_same, putF_add (by simp only [List.map_cons, List.map_nil]; decide +kernel)]; rfl
  have F1011 : FrL H10 H11 [p] := by rw [eH11]; exact FrL.upd mem1
  rw [← eH11]
  clear eH11
  wtm_at "vv"
  refine ⟨p, CH, dx, _, rfl, hp11, T.clH, T.n_turn, by show 11 < 1000; decide, ?_⟩
  obtain ⟨H12, eH12⟩ : ∃ h, h = upd H11 p (.ins CH dx (putF "turn" (.int 0) [("people", .ref lp), ("diaries", .ref ld), ("rooms", .ref lr), ("quantum", .int qu), ("beat", .int be), ("runs", .non), ("row", .ref lw), ("steps", .int 0), ("idle", .int 0), ("ticks", .int 0), ("swaps", .int 0)])) := ⟨_, rfl⟩
  have hp12 : H12 p = some (.ins CH dx [("people", .ref lp), ("diaries", .ref ld), ("rooms", .ref lr), ("quantum", .int qu), ("beat", .int be), ("runs", .non), ("row", .ref lw), ("steps", .int 0), ("idle", .int 0), ("ticks", .int 0), ("swaps", .int 0), ("turn", .int 0)]) := by rw [eH12, upd_same, putF_add (by simp only [List.map_cons, List.map_nil]; decide +kernel)]; rfl
  have F1112 : FrL H11 H12 [p] := by rw [eH12]; exact FrL.upd mem1
  rw [← eH12]
  clear eH12
  wtm_at "vv"
  refine ⟨p, CH, dx, _, rfl, hp12, T.clH, T.n_left, by show 12 < 1000; decide, ?_⟩
  obtain ⟨H13, eH13⟩ : ∃ h, h = upd H12 p (.ins CH dx (putF "left" (.int 0) [("people", .ref lp), ("diaries", .ref ld), ("rooms", .ref lr), ("quantum", .int qu), ("beat", .int be), ("runs", .non), ("row", .ref lw), ("steps", .int 0), ("idle", .int 0), ("ticks", .int 0), ("swaps", .int 0), ("turn", .int 0)])) := ⟨_, rfl⟩
  have hp13 : H13 p = some (.ins CH dx [("people", .ref lp), ("diaries", .ref ld), ("rooms", .ref lr), ("quantum", .int qu), ("beat", .int be), ("runs", .non), ("row", .ref lw), ("steps", .int 0), ("idle", .int 0), ("ticks", .int 0), ("swaps", .int 0), ("turn", .int 0), ("left", .int 0)]) := by rw [eH13, upd_same, putF_add (by simp only [List.map_cons, List.map_nil]; decide +kernel)]; rfl
  have F1213 : FrL H12 H13 [p] := by rw [eH13]; exact FrL.upd mem1
  rw [← eH13]
  clear eH13
  have F7z : FrL H7 H13 [p] := F78.trans (F89.trans (F910.trans (F1011.trans (F1112.trans F1213))))
  have F3z : FrL H3 H13 [p] := F34.trans (F45.trans (F56.trans (F67.trans F7z)))
  have F2z : FrL H2 H13 [p] := F23.trans F3z
  have F1z : FrL H1 H13 [p] := F12.trans F2z
  have F0z : FrL H H13 [p] := F1.trans F1z
  have gone1 : ∀ {x : Addr}, H1 x = none → H x = none := fun {x} z => by
   cases y : H x with
   | none => rfl
   | some o =>
    by_cases e : x = p
    ·rw [e, hp1] at z; cases z
    ·have := F1 _ _ y (nmem1 e); rw [z] at this; cases this
  have gone2 : ∀ {x : Addr}, H2 x = none → H1 x = none := fun {x} z => by
   cases y : H1 x with
   | none => rfl
   | some o =>
    by_cases e : x = p
    ·rw [e, hp2] at z; cases z
    ·have := F12 _ _ y (nmem1 e); rw [z] at this; cases this
  have F26 : FrL H2 H6 [p] := F23.trans (F34.trans (F45.trans F56))
  have gone6 : ∀ {x : Addr}, H6 x = none → H2 x = none := fun {x} z => by
   cases y : H2 x with
   | none => rfl
   | some o =>
    by_cases e : x = p
    ·rw [e, hp6] at z; cases z
    ·have := F26 _ _ y (nmem1 e); rw [z] at this; cases this
  have gld1 : H1 ld = none := sb.free nld
  have gld : H ld = none := gone1 gld1
  have glr1 : H1 lr = none := gone2 nlr
  have glr : H lr = none := gone1 glr1
  have glw2 : H2 lw = none := gone6 nlw
  have glw1 : H1 lw = none := gone2 glw2
  have glw : H lw = none := gone1 glw1
  have hld3 : H3 ld = some (.lst (ds.map V.ref)) := F23 _ _ hld2 (nmem1 npd.symm)
  have n_pd_r : ld ≠ lr := ne_of_none hld2 nlr
  have n_ld_w : ld ≠ lw := fun e => by rw [← e, hld2] at glw2; cases glw2
  have n_lr_w : lr ≠ lw := fun e => by rw [← e] at nlw; have := (F34.trans (F45.trans F56)) _ _ hlr3 (nmem1 npr.symm); rw [nlw] at this; cases this
  have n_lp_d : lp ≠ ld := fun e => by rw [← e, hlp1] at gld1; cases gld1
  have n_lp_r : lp ≠ lr := fun e => by rw [← e, hlp1] at glr1; cases glr1
  have n_lp_w : lp ≠ lw := fun e => by rw [← e, hlp1] at glw1; cases glw1
  have nd_ld : ld ∉ ds := fun z => by have := hds ld z; rw [nld] at this; cases this
  have nd_lr : lr ∉ ds := fun z => by have := hds2 lr z; rw [nlr] at this; cases this
  have nd_lw : lw ∉ ds := fun z => by have := hds2 lw z; rw [glw2] at this; cases this
  have all1 : ∀ B ∈ ps, ∀ x ∈ foot B, ∃ o, H1 x = some o := fun B hB x hx => by
   obtain ⟨i, hi, e⟩ := List.getElem_of_mem hB
   exact (hP1 i B (by rw [List.getElem?_eq_getElem hi, e])).there hx
  refine k ⟨p, dx, lp, ld, lr, lw, ps, ds⟩ H13 rfl ⟨hp13, F1z _ _ hlp1 (nmem1 npl.symm), F2z _ _ hld2 (nmem1 npd.symm), F3z _ _ hlr3 (nmem1 npr.symm), F7z _ _ hlw7 (nmem1 npw.symm), by rw [hpl]; exact List.length_replicate.symm, fun i B u e1 e2 => ?_, by rw [hdl]; exact List.length_replicate.symm, fun i d e e1 e2 => ?_, ?_, fun i B e x hx z => ?_, hd⟩ (fun x hx => ?_) F0z
  ·have hu : u = U0 := List.eq_of_mem_replicate (List.mem_of_getElem? e2)
   rw [hu]
   exact (hP1 i B e1).far F1z (npf B (List.mem_of_getElem? e1))
  ·have he : e = [] := List.eq_of_mem_replicate (List.mem_of_getElem? e2)
   have hdm := List.mem_of_getElem? e1
   rw [he]
   exact ⟨[], F2z _ _ (hds2 d hdm) (nmem1 (fun y => npds (by rw [← y]; exact hdm))), rfl, by simp⟩
  ·show (p :: lp :: ld :: lr :: lw :: ds).Nodup
   simp only [List.nodup_cons, List.mem_cons, not_or]
   exact ⟨⟨npl, npd, npr, npw, npds⟩, ⟨n_lp_d, n_lp_r, n_lp_w, nold hlp1⟩, ⟨n_pd_r, n_ld_w, nd_ld⟩, ⟨n_lr_w, nd_lr⟩, nd_lw, hdn⟩
  ·have hB := List.mem_of_getElem? e
   obtain ⟨ob, hob⟩ := all1 B hB x hx
   have z' : x ∈ p :: lp :: ld :: lr :: lw :: ds := z
   simp only [List.mem_cons] at z'
   rcases z' with y | y | y | y | y | y
   ·exact npf B hB x hx (by rw [y]; exact mem1)
   ·exact nlpf B hB (by rw [← y]; exact hx)
   ·rw [y, gld1] at hob; cases hob
   ·rw [y, glr1] at hob; cases hob
   ·rw [y, glw1] at hob; cases hob
   ·exact nold hob y
  ·rcases h_cases hx with z | ⟨i, B, e, z⟩
   ·have z' : x ∈ p :: lp :: ld :: lr :: lw :: ds := z
    simp only [List.mem_cons] at z'
    rcases z' with y | y | y | y | y | y
    ·exact .inl y
    ·exact .inr (by rw [y]; exact glp)
    ·exact .inr (by rw [y]; exact gld)
    ·exact .inr (by rw [y]; exact glr)
    ·exact .inr (by rw [y]; exact glw)
    ·exact .inr (gone1 (hdf x y))
   ·exact .inr (hf B (List.mem_of_getElem? e) x z)
end
end Hs
namespace Hs
open PySem L2 Mir Pr Tx Lw Dm Us Du Pp
section
variable {P : Program} {w : World} {K : PySem.W.Frag} {mg : Str → Option Value} {base : Heap} {CH CP CM : Addr}
def sp_startH (CH CP CM : Addr) : Sp := fun vs H Q _ => ∃ A s M u p, vs = [.ref A.h, .int ((u : Nat) : Int), .int p] ∧ HAt CH CP CM H A s ∧ Bd s M ∧ M < 900000 ∧ u < s.us.length ∧ EvOk (.start p) ∧ ∀ H', HAt CH CP CM H' A (startH s u p) → FrL H H' (footH A) → Q .non H'
def sp_load (K : PySem.W.Frag) (CH CP CM : Addr) : Sp := fun vs H Q _ => ∃ A s u l c, vs = [.ref A.h, .int ((u : Nat) : Int), .ref l] ∧ HAt CH CP CM H A s ∧ u < s.us.length ∧ SqL K H l ((c : List Int).map V.int) ∧ ∀ A' H', A'.h = A.h → HAt CH CP CM H' A' (loadH s u c) → FrL H H' (footH A) → (∀ x ∈ footH A', x ∈ footH A ∨ H x = none) → Q .non H'
theorem ok_startH (R : Raw K mg "start" s_start) (T : TxtH K mg CH CP CM) (G_happen_in : GF P w K mg base "happen_in" ["house", "user", "event"] 8 (sp_hin CH CP CM)) (G_let_next_run : GF P w K mg base "let_next_run" ["house"] 3 (spH CH CP CM (fun s => ∃ M, Bd s M) letNext)) : GF P w K mg base "start" ["house", "user", "place"] 9 (sp_startH CH CP CM) := by
 refine GF.mk R sc_start (by wtm_at "3") (fun vs H Q E h => ?_) (fun f cdv A outer s H vs Q E hr h => ?_)
 ·obtain ⟨A, s, M, u, p, rfl, _⟩ := h; rfl
 ·obtain ⟨A, s, M, u, p, rfl, D, hB, hM, hu, hE, k⟩ := h
  refine ⟨_, (@pss_cons _ _ _ _ _ (@ps_expr _ _ _ _ (@pe_gcallN _ _ _ _ _ _ _ _ _ _ G_happen_in (hr.mono (by decide)) rfl (@pa_c _ _ _ _ _ (pv 0) (@pa_c _ _ _ _ _ (pv 1) (@pa_c _ _ _ _ _ (@pe_tup _ _ _ _ _ (@pa_c _ _ _ _ _ pe_str (@pa_c _ _ _ _ _ (pv 2) pa_nil rfl) rfl)) pa_nil rfl) rfl) rfl) (by decide) rfl) rfl) (@pss_one _ _ _ (@ps_expr _ _ _ _ (@pe_gcallN _ _ _ _ _ _ _ _ _ _ G_let_next_run (hr.mono (by decide)) rfl (@pa_c _ _ _ _ _ (pv 0) pa_nil rfl) (by decide) rfl) rfl))), ?_⟩
  wtm_at "vv"
  refine Sx.newT (by show 2 ≤ sizeLine; decide) fun e H1 ne he s1 => ?_
  have he' : H1 e = some (.tup (evV (.start p))) := he
  wtm_at "vv"
  refine ⟨A, s, M, u, e, .start p, rfl, D.keep s1, hB, hM, hu, he', fun H2 D2 F2 => ?_⟩
  wtm_at "vv"
  exact ⟨A, _, rfl, D2, ⟨_, hB.happen hu hE hM⟩, fun H3 D3 F3 => k H3 D3 (fun b o x n => F3 b o (F2 b o (s1 b o x) n) n)⟩
theorem ok_loadH (R : Raw K mg "load" s_load) (T : TxtH K mg CH CP CM) : GF P w K mg base "load" ["house", "user", "cells"] 1 (sp_load K CH CP CM) := by
 refine GF.mk R sc_load (by wtm_at "3") (fun vs H Q E h => ?_) (fun f cdv A outer s H vs Q E hr h => ?_)
 ·obtain ⟨A, s, u, l, c, rfl, _⟩ := h; rfl
 ·obtain ⟨A, s, u, l, c, rfl, D, hu, hS, k⟩ := h
  have TP := T.toTxtP
  obtain ⟨B, hp, DB, hix⟩ := D.at hu
  have hpl : u < A.ps.length := by rw [D.ul]; exact hu
  refine ⟨_, (@pss_cons _ _ _ _ _ (@ps_set _ _ (3) _ _ _ _ sc_load.nd rfl (Or.inl rfl) (@pe_fldK _ (K) _ _ _ _ rfl (@pe_ix _ _ _ _ _ _ _ (ix_listK (K := K) rfl) (@pe_fldK _ (K) _ _ _ _ rfl (pv 0) rfl) (pv 1) (fun _ _ => rfl)) rfl) rfl (by first | exact .inl rfl | exact .inr rfl | assumption)) (@pss_one _ _ _ (@ps_fldK _ (K) _ _ _ _ _ _ _ rfl (pv 3) (@pe_callTyN _ _ _ _ _ _ _ _ _ (call_list_ofN (K := K) rfl) (by rfl) T.list_ bo_list (@pa_c _ _ _ _ _ (pv 2) pa_nil rfl) (by decide) (by decide) rfl) rfl))), ?_⟩
  wtm_at "vv"
  refine Sx.ixL D.lp hix ?_
  wtm_at "vv"
  refine Sx.listOf (.inl hS) fun q H1 nq hq s1 => ?_
  have D1 := D.keep s1
  have DB1 := DB.keep s1
  have nqB : q ∉ foot B := DB.fresh nq
  wtm_at "vv"
  refine ⟨B.mp, CM, B.dm, _, rfl, DB1.m.ob, TP.cl, TP.n_cells, Pr.len_flds _ _, ?_⟩
  rw [pf_cellsM]
  have DB2 := n_load DB1 hq nqB
  have hmB : B.mp ∈ footH A := h_foot hp f_mp
  have hmc : ∀ x ∈ core A, x ≠ B.mp := fun x hx z => D.nd1 u B hp B.mp f_mp (by rw [← z]; exact hx)
  have F2 : FrL H (upd H1 B.mp (.ins CM B.dm (fldsM q (usr s u).m))) (footH A) := fun b o e n => by rw [upd_ne (fun z => n (by rw [z]; exact hmB))]; exact s1 b o e
  have hqA : q ∉ footH A := D.fresh nq
  have fB : ∀ x ∈ foot { B with c := q }, x ∈ foot B ∨ x = q := by
   intro x hx
   have hx' : x ∈ B.p :: B.mp :: q :: B.ib :: B.ob :: B.pp :: B.bk :: B.bs := hx
   simp only [List.mem_cons] at hx'
   rcases hx' with e | e | e | e | e | e | e | e
   ·rw [e]; exact .inl f_p
   ·rw [e]; exact .inl f_mp
   ·exact .inr e
   ·rw [e]; exact .inl f_ib
   ·rw [e]; exact .inl f_ob
   ·rw [e]; exact .inl f_pp
   ·rw [e]; exact .inl f_bk
   ·exact .inl (f_bs e)
  have get : ∀ {j : Nat} {C : PAd}, (A.ps.set u { B with c := q })[j]? = some C → (j = u ∧ C = { B with c := q }) ∨ (j ≠ u ∧ A.ps[j]? = some C) := by
   intro j C e
   by_cases g : j = u
   ·subst g
    rw [List.getElem?_set_self hpl] at e
    cases e
    exact .inl ⟨rfl, rfl⟩
   ·rw [List.getElem?_set_ne (Ne.symm g)] at e
    exact .inr ⟨g, e⟩
  have inF : ∀ {j : Nat} {C : PAd}, (A.ps.set u { B with c := q })[j]? = some C → ∀ x ∈ foot C, (∃ D, A.ps[j]? = some D ∧ x ∈ foot D) ∨ (j = u ∧ x = q) := by
   intro j C e x hx
   rcases get e with ⟨g, rfl⟩ | ⟨g, e⟩
   ·rcases fB x hx with z | z
    ·exact .inl ⟨B, by rw [g]; exact hp, z⟩
    ·exact .inr ⟨g, z⟩
   ·exact .inl ⟨C, e, hx⟩
  refine k { A with ps := A.ps.set u { B with c := q } } _ rfl ⟨?_, ?_, ?_, ?_, ?_, ?_, fun j C v e1 e2 => ?_, D.dl, fun j d ev e1 e2 => ?_, D.nd0, fun j C e x hx => ?_, fun i j C E g e1 e2 x hx => ?_⟩ F2 (fun x hx => ?_)
  ·rw [upd_ne (hmc _ c_h)]; exact D1.o
  ·rw [upd_ne (hmc _ c_lp), D1.lp]
   show some (HO.lst (A.ps.map fun B => V.ref B.p)) = some (HO.lst ((A.ps.set u { B with c := q }).map fun B => V.ref B.p))
   rw [List.map_set]
   congr 2
   refine (set_self ?_).symm
   rw [List.getElem?_map, hp]
   rfl
  ·rw [upd_ne (hmc _ c_ld)]; exact D1.ld
  ·rw [upd_ne (hmc _ c_lr)]; exact D1.lr
  ·rw [upd_ne (hmc _ c_lw)]; exact D1.lw
  ·show (A.ps.set u _).length = (s.us.set u _).length
   rw [List.length_set, List.length_set]
   exact D.ul
  ·rcases get e1 with ⟨g, rfl⟩ | ⟨g, e1⟩
   ·subst g
    have e2' : (s.us.set j _)[j]? = some v := e2
    rw [List.getElem?_set_self hu] at e2'
    cases e2'
    exact DB2
   ·have e2' : (s.us.set u _)[j]? = some v := e2
    rw [List.getElem?_set_ne (Ne.symm g)] at e2'
    exact (D1.us j C v e1 e2').move fun x hx o e => by rw [upd_ne (fun z => D.nd2 j u C B g e1 hp x hx (by rw [z]; exact f_mp))]; exact e
  ·obtain ⟨rs, E⟩ := D1.di j d ev e1 e2
   exact ⟨rs, EvsAt.oth E (hmc _ (c_ds (List.mem_of_getElem? e1))) (DB1.kind f_mp)⟩
  ·rcases inF e x hx with ⟨C2, e2, hx2⟩ | ⟨_, z⟩
   ·exact D.nd1 j C2 e2 x hx2
   ·rw [z]; exact fun y => hqA (h_core y)
  ·rcases inF e1 x hx with ⟨C2, h1, hx2⟩ | ⟨g1, z⟩
   ·intro hy
    rcases inF e2 x hy with ⟨C3, h3, hx3⟩ | ⟨g2, z⟩
    ·exact D.nd2 i j C2 C3 g h1 h3 x hx2 hx3
    ·exact hqA (by rw [← z]; exact h_foot h1 hx2)
   ·intro hy
    rcases inF e2 x hy with ⟨C3, h3, hx3⟩ | ⟨g2, _⟩
    ·exact hqA (by rw [← z]; exact h_foot h3 hx3)
    ·exact g (g1.trans g2.symm)
  ·rcases h_cases hx with z | ⟨i, C, e, z⟩
   ·exact .inl (h_core z)
   ·rcases inF e x z with ⟨C2, h1, hx2⟩ | ⟨_, y⟩
    ·exact .inl (h_foot h1 hx2)
    ·exact .inr (by rw [y]; exact nq)
end
end Hs
namespace Hs
open PySem L2 Mir Pr Tx Lw Dm Us Du Pp
section
variable {P : Program} {w : World} {K : PySem.W.Frag} {mg : Str → Option Value} {base : Heap} {CH CP CM : Addr}
def sp_seen (K : PySem.W.Frag) (CH CP CM : Addr) : Sp := fun vs H Q _ => ∃ A s M u, vs = [.ref A.h, .int ((u : Nat) : Int)] ∧ HAt CH CP CM H A s ∧ Bd s M ∧ u < s.us.length ∧ ∀ t tc ti to_ tp tb tbs H', PicAt K H' t tc ti to_ tp tb tbs (usr s u) → Same H H' → Q (.ref t) H'
theorem ok_seen (R : Raw K mg "seen" s_seen) (T : TxtH K mg CH CP CM) (G_picture : GF P w K mg base "picture" ["person"] 1 (sp_picP K CP CM)) : GF P w K mg base "seen" ["house", "user"] 2 (sp_seen K CH CP CM) := by
 refine GF.mk R sc_seen (by wtm_at "2") (fun vs H Q E h => ?_) (fun f cdv A outer s H vs Q E hr h => ?_)
 ·obtain ⟨A, s, M, u, rfl, _⟩ := h; rfl
 ·obtain ⟨A, s, M, u, rfl, D, hB, hu, k⟩ := h
  obtain ⟨B, hp, DB, hix⟩ := D.at hu
  have hbl := (hB.ru _ (usr_mem hu)).bl
  refine ⟨_, (@pss_one _ _ _ (@ps_ret _ _ _ _ (@pe_gcallN _ _ _ _ _ _ _ _ _ _ G_picture (hr.mono (by decide)) rfl (@pa_c _ _ _ _ _ (@pe_ix _ _ _ _ _ _ _ (ix_listK (K := K) rfl) (@pe_fldK _ (K) _ _ _ _ rfl (pv 0) rfl) (pv 1) (fun _ _ => rfl)) pa_nil rfl) (by decide) rfl))), ?_⟩
  wtm_at "vv"
  refine Sx.ixL D.lp hix ?_
  wtm_at "vv"
  exact ⟨B, _, rfl, DB, by omega, k⟩
end
end Hs
namespace Hs
open PySem L2 Mir Pr Tx Lw Dm Us Du Pp
section
variable {P : Program} {w : World} {K : PySem.W.Frag} {mg : Str → Option Value} {base : Heap} {CH CP CM : Addr}
def sp_keyH (CH CP CM : Addr) : Sp := fun vs H Q _ => ∃ A s M u p, vs = [.ref A.h, .int ((u : Nat) : Int), .int p] ∧ HAt CH CP CM H A s ∧ Bd s M ∧ M < 900000 ∧ u < s.us.length ∧ EvOk (.key p) ∧ ∀ H', HAt CH CP CM H' A (keyH s u p) → FrL H H' (footH A) → Q .non H'
theorem ok_keyH (R : Raw K mg "key" s_key) (T : TxtH K mg CH CP CM) (G_happen_in : GF P w K mg base "happen_in" ["house", "user", "event"] 8 (sp_hin CH CP CM)) (G_let_next_run : GF P w K mg base "let_next_run" ["house"] 3 (spH CH CP CM (fun s => ∃ M, Bd s M) letNext)) : GF P w K mg base "key" ["house", "user", "letter"] 9 (sp_keyH CH CP CM) := by
 refine GF.mk R sc_key (by wtm_at "3") (fun vs H Q E h => ?_) (fun f cdv A outer s H vs Q E hr h => ?_)
 ·obtain ⟨A, s, M, u, p, rfl, _⟩ := h; rfl
 ·obtain ⟨A, s, M, u, p, rfl, D, hB, hM, hu, hE, k⟩ := h
  refine ⟨_, (@pss_cons _ _ _ _ _ (@ps_expr _ _ _ _ (@pe_gcallN _ _ _ _ _ _ _ _ _ _ G_happen_in (hr.mono (by decide)) rfl (@pa_c _ _ _ _ _ (pv 0) (@pa_c _ _ _ _ _ (pv 1) (@pa_c _ _ _ _ _ (@pe_tup _ _ _ _ _ (@pa_c _ _ _ _ _ pe_str (@pa_c _ _ _ _ _ (pv 2) pa_nil rfl) rfl)) pa_nil rfl) rfl) rfl) (by decide) rfl) rfl) (@pss_one _ _ _ (@ps_expr _ _ _ _ (@pe_gcallN _ _ _ _ _ _ _ _ _ _ G_let_next_run (hr.mono (by decide)) rfl (@pa_c _ _ _ _ _ (pv 0) pa_nil rfl) (by decide) rfl) rfl))), ?_⟩
  wtm_at "vv"
  refine Sx.newT (by show 2 ≤ sizeLine; decide) fun e H1 ne he s1 => ?_
  have he' : H1 e = some (.tup (evV (.key p))) := he
  wtm_at "vv"
  refine ⟨A, s, M, u, e, .key p, rfl, D.keep s1, hB, hM, hu, he', fun H2 D2 F2 => ?_⟩
  wtm_at "vv"
  exact ⟨A, _, rfl, D2, ⟨_, hB.happen hu hE hM⟩, fun H3 D3 F3 => k H3 D3 (fun b o x n => F3 b o (F2 b o (s1 b o x) n) n)⟩
end
end Hs
namespace Hs
open PySem L2 Mir Pr Tx Lw Dm Us Du Pp
section
variable {P : Program} {w : World} {K : PySem.W.Frag} {mg : Str → Option Value} {base : Heap} {CH CP CM : Addr}
def sp_sw (CH CP CM : Addr) : Sp := fun vs H Q _ => ∃ A s u w, vs = [.ref A.h, .int ((u : Nat) : Int), .int w] ∧ HAt CH CP CM H A s ∧ u < s.us.length ∧ ∀ H', HAt CH CP CM H' A (switchH s u w) → FrL H H' (footH A) → Q .non H'
theorem ok_sw (R : Raw K mg "set_switches" s_set_switches) (T : TxtH K mg CH CP CM) : GF P w K mg base "set_switches" ["house", "user", "word"] 1 (sp_sw CH CP CM) := by
 refine GF.mk R sc_set_switches (by wtm_at "3") (fun vs H Q E h => ?_) (fun f cdv A outer s H vs Q E hr h => ?_)
 ·obtain ⟨A, s, u, w, rfl, _⟩ := h; rfl
 ·obtain ⟨A, s, u, w, rfl, D, hu, k⟩ := h
  have TP := T.toTxtP
  obtain ⟨B, hp, DB, hix⟩ := D.at hu
  refine ⟨_, (@pss_cons _ _ _ _ _ (@ps_set _ _ (3) _ _ _ _ sc_set_switches.nd rfl (Or.inl rfl) (@pe_ix _ _ _ _ _ _ _ (ix_listK (K := K) rfl) (@pe_fldK _ (K) _ _ _ _ rfl (pv 0) rfl) (pv 1) (fun _ _ => rfl)) rfl (by first | exact .inl rfl | exact .inr rfl | assumption)) (@pss_one _ _ _ (@ps_fldK _ (K) _ _ _ _ _ _ _ rfl (pv 3) (pv 2) rfl))), ?_⟩
  wtm_at "vv"
  refine Sx.ixL D.lp hix ?_
  wtm_at "vv"
  refine w_switches TP DB fun H1 DB1 F1 => ?_
  exact k H1 (D.setU hp DB1 F1 (fun x hx => DB.kind hx)) (F1.mono fun x hx => h_foot hp hx)
end
end Hs
namespace Hs
open PySem L2 Mir Pr Tx Lw Dm Us Du Pp
section
variable {P : Program} {w : World} {K : PySem.W.Frag} {mg : Str → Option Value} {base : Heap} {CH CP CM : Addr}
def sp_diary (CH CP CM : Addr) : Sp := fun vs H Q _ => ∃ A s u, vs = [.ref A.h, .int ((u : Nat) : Int)] ∧ HAt CH CP CM H A s ∧ u < s.di.length ∧ ∀ l rs H', H l = none → EvsAt H' l rs (s.di.getD u []) → Same H H' → Q (.ref l) H'
theorem ok_diary (R : Raw K mg "diary" s_diary) (T : TxtH K mg CH CP CM) : GF P w K mg base "diary" ["house", "user"] 1 (sp_diary CH CP CM) := by
 refine GF.mk R sc_diary (by wtm_at "2") (fun vs H Q E h => ?_) (fun f cdv A outer s H vs Q E hr h => ?_)
 ·obtain ⟨A, s, u, rfl, _⟩ := h; rfl
 ·obtain ⟨A, s, u, rfl, D, hu, k⟩ := h
  obtain ⟨d, rs, hd, Ed, hdx⟩ := D.dat hu
  refine ⟨_, (@pss_one _ _ _ (@ps_ret _ _ _ _ (@pe_callTyN _ _ _ _ _ _ _ _ _ (call_list_ofN (K := K) rfl) (by rfl) T.list_ bo_list (@pa_c _ _ _ _ _ (@pe_ix _ _ _ _ _ _ _ (ix_listK (K := K) rfl) (@pe_fldK _ (K) _ _ _ _ rfl (pv 0) rfl) (pv 1) (fun _ _ => rfl)) pa_nil rfl) (by decide) (by decide) rfl))), ?_⟩
  wtm_at "vv"
  refine Sx.ixL D.ld hdx ?_
  wtm_at "vv"
  refine Sx.listOf (.inl (SqL.of Ed.1)) fun l H1 nl hl s1 => ?_
  exact k l rs H1 nl ⟨hl, Ed.2.1, fun i r e g1 g2 => s1 _ _ (Ed.2.2 i r e g1 g2)⟩ s1
end
end Hs
namespace Hs
open PySem L2 Mir Pr Tx Lw Dm Us Du Pp
section
variable {P : Program} {w : World} {K : PySem.W.Frag} {mg : Str → Option Value} {base : Heap} {CH CP CM : Addr}
def sp_room (CH CP CM : Addr) : Sp := fun vs H Q _ => ∃ A s u, vs = [.ref A.h, .int ((u : Nat) : Int)] ∧ HAt CH CP CM H A s ∧ s.rooms.length ≤ 1000 ∧ ∀ H', Same H H' → Q (vU (findR u s.rooms)) H'
theorem ok_room (R : Raw K mg "room_of" s_room_of) (T : TxtH K mg CH CP CM) (G_room_with : GF P w K mg base "room_with" ["rooms", "user"] 1 sp_rw) : GF P w K mg base "room_of" ["house", "user"] 2 (sp_room CH CP CM) := by
 refine GF.mk R sc_room_of (by wtm_at "2") (fun vs H Q E h => ?_) (fun f cdv A outer s H vs Q E hr h => ?_)
 ·obtain ⟨A, s, u, rfl, _⟩ := h; rfl
 ·obtain ⟨A, s, u, rfl, D, hl, k⟩ := h
  refine ⟨_, (@pss_one _ _ _ (@ps_ret _ _ _ _ (@pe_gcallN _ _ _ _ _ _ _ _ _ _ G_room_with (hr.mono (by decide)) rfl (@pa_c _ _ _ _ _ (@pe_fldK _ (K) _ _ _ _ rfl (pv 0) rfl) (@pa_c _ _ _ _ _ (pv 1) pa_nil rfl) rfl) (by decide) rfl))), ?_⟩
  wtm_at "vv"
  exact ⟨A.lr, s.rooms, u, rfl, D.lr, hl, k⟩
end
end Hs
namespace Du
open PySem L2 Mir Pr Tx Lw
def mixV (x p n : Int) : Int := x * 48271 % p % n
def menuL (x : Int) : List (List Int) := [[769, 771, 640], [276, 149, 772, 640], [900, 771, 640], [928, 774, mixV x 9973 1024, 928, 773, 40, 286, 640], [768, 644, 769, 640, 296, 770, 775, 640], [776, 771, 262, 640], [900, 640]]
def someL (x : Int) : List Int := (menuL x).getD (mixV x 9967 7).toNat []
def fill0 (x : Int) : List Int := fillL x 1024
def progL (x : Int) : List Int :=
 if mixV x 9949 8 = 0 then fill0 x
 else if mixV x 9949 8 = 1 then (fill0 x).map fun n => if n % 3 = 0 then 768 + n % 10 else n
 else someL x ++ ((fill0 x).set 21 (1 + x % 3)).drop (someL x).length
theorem mixV_in {x p n : Int} (hn : 0 < n) : 0 ≤ mixV x p n ∧ mixV x p n < n := ⟨Int.emod_nonneg _ (by omega), Int.emod_lt_of_pos _ hn⟩
theorem someL_ok (x : Int) : (someL x).length ≤ 8 ∧ ∀ v ∈ someL x, 0 ≤ v ∧ v < 1024 := by
 have h := mixV_in (x := x) (p := 9967) (n := 7) (by decide)
 have hz := mixV_in (x := x) (p := 9973) (n := 1024) (by decide)
 unfold someL menuL
 generalize mixV x 9973 1024 = z at hz
 have hi : (mixV x 9967 7).toNat < 7 := by omega
 generalize (mixV x 9967 7).toNat = i at hi
 match i, hi with
 | 0, _ => exact (show ([769, 771, 640] : List Int).length ≤ 8 ∧ ∀ v ∈ ([769, 771, 640] : List Int), 0 ≤ v ∧ v < 1024 by decide)
 | 1, _ => exact (show ([276, 149, 772, 640] : List Int).length ≤ 8 ∧ ∀ v ∈ ([276, 149, 772, 640] : List Int), 0 ≤ v ∧ v < 1024 by decide)
 | 2, _ => exact (show ([900, 771, 640] : List Int).length ≤ 8 ∧ ∀ v ∈ ([900, 771, 640] : List Int), 0 ≤ v ∧ v < 1024 by decide)
 | 3, _ =>
  refine ⟨by show 8 ≤ 8; decide, ?_⟩
  show ∀ v ∈ [928, 774, z, 928, 773, 40, 286, 640], 0 ≤ v ∧ v < 1024
  intro v hv
  simp only [List.mem_cons, List.not_mem_nil, or_false] at hv
  omega
 | 4, _ => exact (show ([768, 644, 769, 640, 296, 770, 775, 640] : List Int).length ≤ 8 ∧ ∀ v ∈ ([768, 644, 769, 640, 296, 770, 775, 640] : List Int), 0 ≤ v ∧ v < 1024 by decide)
 | 5, _ => exact (show ([776, 771, 262, 640] : List Int).length ≤ 8 ∧ ∀ v ∈ ([776, 771, 262, 640] : List Int), 0 ≤ v ∧ v < 1024 by decide)
 | 6, _ => exact (show ([900, 640] : List Int).length ≤ 8 ∧ ∀ v ∈ ([900, 640] : List Int), 0 ≤ v ∧ v < 1024 by decide)
theorem progL_len (x : Int) : (progL x).length = 64 := by
 have h := someL_ok x
 unfold progL
 split
 ·exact fillL_len _ _
 split
 ·rw [List.length_map]; exact fillL_len _ _
 ·rw [List.length_append, List.length_drop, List.length_set]
  have := fillL_len x 1024
  unfold fill0
  omega
theorem progL_in (x : Int) : ∀ v ∈ progL x, 0 ≤ v ∧ v < 1024 := by
 have h := someL_ok x
 have hf : ∀ v ∈ fill0 x, 0 ≤ v ∧ v < 1024 := fillL_in (by decide)
 unfold progL
 split
 ·exact hf
 split
 ·intro v hv
  obtain ⟨n, hn, rfl⟩ := List.mem_map.mp hv
  have := hf n hn
  split <;> omega
 ·intro v hv
  rcases List.mem_append.mp hv with z | z
  ·exact h.2 v z
  ·exact mem_set hf ⟨by omega, by omega⟩ (List.mem_of_mem_drop z)
end Du
namespace Du
open PySem L2 Mir Pr Tx Lw
def sp_some : Sp := fun vs H Q _ => ∃ x : Int, vs = [.int x] ∧ ∀ p H', H p = none → H' p = some (.lst ((someL x).map V.int)) → Same H H' → Q (.ref p) H'
def sp_prog : Sp := fun vs H Q _ => ∃ x : Int, vs = [.int x] ∧ ∀ p H', H p = none → H' p = some (.lst ((progL x).map V.int)) → Same H H' → Q (.ref p) H'
section
variable {P : Program} {w : World} {K : PySem.W.Frag} {mg : Str → Option Value} {base : Heap}
theorem ok_some (R : Raw K mg "_law_some" s_law_some) (T : TxtL K mg) (G_law_mix : GF P w K mg base "_law_mix" ["_law_cell_here", "_law_prime", "_law_many"] 1 sp_mix) : GF P w K mg base "_law_some" ["_law_cell_here"] 2 sp_some := by
 refine GF.mk R sc_law_some (by wtm_at "1") (fun vs H Q E h => ?_) (fun f cdv A outer s H vs Q E hr h => ?_)
 ·obtain ⟨x, rfl, _⟩ := h; rfl
 ·obtain ⟨x, rfl, k⟩ := h
  refine ⟨_, (@pss_cons _ _ _ _ _ (@ps_set _ _ (1) _ _ _ _ sc_law_some.nd rfl (Or.inl rfl) (@pe_lst _ _ _ _ (@pa_c _ _ _ _ _ (@pe_lst _ _ _ _ (@pa_c _ _ _ _ _ pe_int (@pa_c _ _ _ _ _ pe_int (@pa_c _ _ _ _ _ pe_int pa_nil rfl) rfl) rfl)) (@pa_c _ _ _ _ _ (@pe_lst _ _ _ _ (@pa_c _ _ _ _ _ pe_int (@pa_c _ _ _ _ _ pe_int (@pa_c _ _ _ _ _ pe_int (@pa_c _ _ _ _ _ pe_int pa_nil rfl) rfl) rfl) rfl)) (@pa_c _ _ _ _ _ (@pe_lst _ _ _ _ (@pa_c _ _ _ _ _ pe_int (@pa_c _ _ _ _ _ pe_int (@pa_c _ _ _ _ _ pe_int pa_nil rfl) rfl) rfl)) pa_nil rfl) rfl) rfl)) rfl (by first | exact .inl rfl | exact .inr rfl | assumption)) (@pss_cons _ _ _ _ _ (@ps_set _ _ (1) _ _ _ _ sc_law_some.nd rfl (Or.inl rfl) (@pe_op _ _ _ _ _ _ _ _ op_cat (pv 1) (@pe_lst _ _ _ _ (@pa_c _ _ _ _ _ (@pe_lst _ _ _ _ (@pa_c _ _ _ _ _ pe_int (@pa_c _ _ _ _ _ pe_int (@pa_c _ _ _ _ _ (@pe_gcallN _ _ _ _ _ _ _ _ _ _ G_law_mix (hr.mono (by decide)) rfl (@pa_c _ _ _ _ _ (pv 0) (@pa_c _ _ _ _ _ pe_int (@pa_c _ _ _ _ _ pe_int pa_nil rfl) rfl) rfl) (by decide) rfl) (@pa_c _ _ _ _ _ pe_int (@pa_c _ _ _ _ _ pe_int (@pa_c _ _ _ _ _ pe_int (@pa_c _ _ _ _ _ pe_int (@pa_c _ _ _ _ _ pe_int pa_nil rfl) rfl) rfl) rfl) rfl) rfl) rfl) rfl)) pa_nil rfl))) rfl (by first | exact .inl rfl | exact .inr rfl | assumption)) (@pss_cons _ _ _ _ _ (@ps_set _ _ (1) _ _ _ _ sc_law_some.nd rfl (Or.inl rfl) (@pe_op _ _ _ _ _ _ _ _ op_cat (pv 1) (@pe_lst _ _ _ _ (@pa_c _ _ _ _ _ (@pe_lst _ _ _ _ (@pa_ints _ _ ([768, 644, 769, 640, 296, 770, 775, 640]) rfl)) (@pa_c _ _ _ _ _ (@pe_lst _ _ _ _ (@pa_c _ _ _ _ _ pe_int (@pa_c _ _ _ _ _ pe_int (@pa_c _ _ _ _ _ pe_int (@pa_c _ _ _ _ _ pe_int pa_nil rfl) rfl) rfl) rfl)) (@pa_c _ _ _ _ _ (@pe_lst _ _ _ _ (@pa_c _ _ _ _ _ pe_int (@pa_c _ _ _ _ _ pe_int pa_nil rfl) rfl)) pa_nil rfl) rfl) rfl))) rfl (by first | exact .inl rfl | exact .inr rfl | assumption)) (@pss_one _ _ _ (@ps_ret _ _ _ _ (@pe_ix _ _ _ _ _ _ _ (ix_listK (K := K) rfl) (pv 1) (@pe_gcallN _ _ _ _ _ _ _ _ _ _ G_law_mix (hr.mono (by decide)) rfl (@pa_c _ _ _ _ _ (pv 0) (@pa_c _ _ _ _ _ pe_int (@pa_c _ _ _ _ _ (@pe_callBN _ _ _ _ _ _ _ _ _ (call_len_seqK (K := K) rfl) (by rfl) T.len_ bo_len (@pa_c _ _ _ _ _ (pv 1) pa_nil rfl) (by decide) (by decide) rfl) pa_nil rfl) rfl) rfl) (by decide) rfl) (fun _ _ => rfl))))))), ?_⟩
  wtm_at "uu"
  refine ⟨by show 3 ≤ sizeLine; decide, fun a1 na1 => ?_⟩
  have s1 : Same H (upd H a1 (.lst [.int 769, .int 771, .int 640])) := Same.new na1
  have ha1 : (upd H a1 (.lst [.int 769, .int 771, .int 640])) a1 = some (.lst (([769, 771, 640] : List Int).map V.int)) := upd_same
  generalize upd H a1 (.lst [.int 769, .int 771, .int 640]) = H1 at s1 ha1 ⊢
  wtm_at "uu"
  refine ⟨by show 4 ≤ sizeLine; decide, fun a2 na2 => ?_⟩
  have s2 : Same H1 (upd H1 a2 (.lst [.int 276, .int 149, .int 772, .int 640])) := Same.new na2
  have ha2 : (upd H1 a2 (.lst [.int 276, .int 149, .int 772, .int 640])) a2 = some (.lst (([276, 149, 772, 640] : List Int).map V.int)) := upd_same
  generalize upd H1 a2 (.lst [.int 276, .int 149, .int 772, .int 640]) = H2 at s2 ha2 ⊢
  wtm_at "uu"
  refine ⟨by show 3 ≤ sizeLine; decide, fun a3 na3 => ?_⟩
  have s3 : Same H2 (upd H2 a3 (.lst [.int 900, .int 771, .int 640])) := Same.new na3
  have ha3 : (upd H2 a3 (.lst [.int 900, .int 771, .int 640])) a3 = some (.lst (([900, 771, 640] : List Int).map V.int)) := upd_same
  generalize upd H2 a3 (.lst [.int 900, .int 771, .int 640]) = H3 at s3 ha3 ⊢
  wtm_at "uu"
  refine ⟨by show 3 ≤ sizeLine; decide, fun o1 no1 => ?_⟩
  have s4 : Same H3 (upd H3 o1 (.lst [.ref a1, .ref a2, .ref a3])) := Same.new no1
  have ho1 : (upd H3 o1 (.lst [.ref a1, .ref a2, .ref a3])) o1 = some (.lst [.ref a1, .ref a2, .ref a3]) := upd_same
  generalize upd H3 o1 (.lst [.ref a1, .ref a2, .ref a3]) = H4 at s4 ho1 ⊢
  wtm_at "uu"
  refine ⟨by show 8 ≤ sizeLine; decide, fun a4 na4 => ?_⟩
  have s5 : Same H4 (upd H4 a4 (.lst [.int 928, .int 774, .int (x * 48271 % 9973 % 1024), .int 928, .int 773, .int 40, .int 286, .int 640])) := Same.new na4
  have ha4 : (upd H4 a4 (.lst [.int 928, .int 774, .int (x * 48271 % 9973 % 1024), .int 928, .int 773, .int 40, .int 286, .int 640])) a4 = some (.lst (([928, 774, mixV x 9973 1024, 928, 773, 40, 286, 640] : List Int).map V.int)) := upd_same
  generalize upd H4 a4 (.lst [.int 928, .int 774, .int (x * 48271 % 9973 % 1024), .int 928, .int 773, .int 40, .int 286, .int 640]) = H5 at s5 ha4 ⊢
  wtm_at "uu"
  refine ⟨by show 1 ≤ sizeLine; decide, fun o2 no2 => ?_⟩
  have s6 : Same H5 (upd H5 o2 (.lst [.ref a4])) := Same.new no2
  have ho2 : (upd H5 o2 (.lst [.ref a4])) o2 = some (.lst [.ref a4]) := upd_same
  generalize upd H5 o2 (.lst [.ref a4]) = H6 at s6 ho2 ⊢
  wtm_at "uu"
  refine Sx.cat ((s5.trans (s6)) _ _ ho1) ho2 (by show 4 ≤ sizeLine; decide) fun o3 no3 => ?_
  have s7 : Same H6 (upd H6 o3 (.lst ([.ref a1, .ref a2, .ref a3] ++ [.ref a4]))) := Same.new no3
  have ho3 : (upd H6 o3 (.lst ([.ref a1, .ref a2, .ref a3] ++ [.ref a4]))) o3 = some (.lst [.ref a1, .ref a2, .ref a3, .ref a4]) := upd_same
  generalize upd H6 o3 (.lst ([.ref a1, .ref a2, .ref a3] ++ [.ref a4])) = H7 at s7 ho3 ⊢
  wtm_at "uu"
  refine ⟨by show 8 ≤ sizeLine; decide, fun a5 na5 => ?_⟩
  have s8 : Same H7 (upd H7 a5 (.lst (([768, 644, 769, 640, 296, 770, 775, 640] : List Int).map V.int))) := Same.new na5
  have ha5 : (upd H7 a5 (.lst (([768, 644, 769, 640, 296, 770, 775, 640] : List Int).map V.int))) a5 = some (.lst (([768, 644, 769, 640, 296, 770, 775, 640] : List Int).map V.int)) := upd_same
  generalize upd H7 a5 (.lst (([768, 644, 769, 640, 296, 770, 775, 640] : List Int).map V.int)) = H8 at s8 ha5 ⊢
  wtm_at "uu"
  refine ⟨by show 4 ≤ sizeLine; decide, fun a6 na6 => ?_⟩
  have s9 : Same H8 (upd H8 a6 (.lst [.int 776, .int 771, .int 262, .int 640])) := Same.new na6
  have ha6 : (upd H8 a6 (.lst [.int 776, .int 771, .int 262, .int 640])) a6 = some (.lst (([776, 771, 262, 640] : List Int).map V.int)) := upd_same
  generalize upd H8 a6 (.lst [.int 776, .int 771, .int 262, .int 640]) = H9 at s9 ha6 ⊢
  wtm_at "uu"
  refine ⟨by show 2 ≤ sizeLine; decide, fun a7 na7 => ?_⟩
  have s10 : Same H9 (upd H9 a7 (.lst [.int 900, .int 640])) := Same.new na7
  have ha7 : (upd H9 a7 (.lst [.int 900, .int 640])) a7 = some (.lst (([900, 640] : List Int).map V.int)) := upd_same
  generalize upd H9 a7 (.lst [.int 900, .int 640]) = H10 at s10 ha7 ⊢
  wtm_at "uu"
  refine ⟨by show 3 ≤ sizeLine; decide, fun o4 no4 => ?_⟩
  have s11 : Same H10 (upd H10 o4 (.lst [.ref a5, .ref a6, .ref a7])) := Same.new no4
  have ho4 : (upd H10 o4 (.lst [.ref a5, .ref a6, .ref a7])) o4 = some (.lst [.ref a5, .ref a6, .ref a7]) := upd_same
  generalize upd H10 o4 (.lst [.ref a5, .ref a6, .ref a7]) = H11 at s11 ho4 ⊢
  wtm_at "uu"
  refine Sx.cat ((s8.trans (s9.trans (s10.trans (s11)))) _ _ ho3) ho4 (by show 7 ≤ sizeLine; decide) fun o5 no5 => ?_
  have s12 : Same H11 (upd H11 o5 (.lst ([.ref a1, .ref a2, .ref a3, .ref a4] ++ [.ref a5, .ref a6, .ref a7]))) := Same.new no5
  have ho5 : (upd H11 o5 (.lst ([.ref a1, .ref a2, .ref a3, .ref a4] ++ [.ref a5, .ref a6, .ref a7]))) o5 = some (.lst [.ref a1, .ref a2, .ref a3, .ref a4, .ref a5, .ref a6, .ref a7]) := upd_same
  generalize upd H11 o5 (.lst ([.ref a1, .ref a2, .ref a3, .ref a4] ++ [.ref a5, .ref a6, .ref a7])) = H12 at s12 ho5 ⊢
  wtm_at "uu"
  refine ⟨o5, _, rfl, .inl (SqL.of ho5), ?_⟩
  wtm_at "uu"
  refine c_mix (by decide) (by show (0 : Int) < 7; decide) ?_
  have hi := mixV_in (x := x) (p := 9967) (n := 7) (by decide)
  have es : someL x = (menuL x).getD (mixV x 9967 7).toNat [] := rfl
  have em : x * 48271 % 9967 % ((([.ref a1, .ref a2, .ref a3, .ref a4, .ref a5, .ref a6, .ref a7] : List V).length : Nat) : Int) = mixV x 9967 7 := rfl
  rw [em]
  generalize mixV x 9967 7 = i at hi es
  obtain ⟨j, rfl⟩ := Int.eq_ofNat_of_zero_le hi.1
  have hj : j < 7 := by omega
  have es' : someL x = (menuL x).getD j [] := es
  have all : Same H H12 := s1.trans (s2.trans (s3.trans (s4.trans (s5.trans (s6.trans (s7.trans (s8.trans (s9.trans (s10.trans (s11.trans (s12)))))))))))
  have fin : ∀ (q : Addr) (l : List Int), H q = none → H12 q = some (.lst (l.map V.int)) → someL x = l → Q (.ref q) H12 := fun q l nq hq e => k q _ nq (by rw [e]; exact hq) all
  clear hi em es
  match j, hj, es' with
  | 0, _, es => exact Sx.ixL ho5 (v := .ref a1) (show atI _ ((0 : Nat) : Int) = _ from atI_nat rfl) (fin a1 [769, 771, 640] na1 ((s2.trans (s3.trans (s4.trans (s5.trans (s6.trans (s7.trans (s8.trans (s9.trans (s10.trans (s11.trans (s12))))))))))) _ _ ha1) es)
  | 1, _, es => exact Sx.ixL ho5 (v := .ref a2) (show atI _ ((1 : Nat) : Int) = _ from atI_nat rfl) (fin a2 [276, 149, 772, 640] ((s1).free na2) ((s3.trans (s4.trans (s5.trans (s6.trans (s7.trans (s8.trans (s9.trans (s10.trans (s11.trans (s12)))))))))) _ _ ha2) es)
  | 2, _, es => exact Sx.ixL ho5 (v := .ref a3) (show atI _ ((2 : Nat) : Int) = _ from atI_nat rfl) (fin a3 [900, 771, 640] ((s1.trans (s2)).free na3) ((s4.trans (s5.trans (s6.trans (s7.trans (s8.trans (s9.trans (s10.trans (s11.trans (s12))))))))) _ _ ha3) es)
  | 3, _, es => exact Sx.ixL ho5 (v := .ref a4) (show atI _ ((3 : Nat) : Int) = _ from atI_nat rfl) (fin a4 [928, 774, mixV x 9973 1024, 928, 773, 40, 286, 640] ((s1.trans (s2.trans (s3.trans (s4)))).free na4) ((s6.trans (s7.trans (s8.trans (s9.trans (s10.trans (s11.trans (s12))))))) _ _ ha4) es)
  | 4, _, es => exact Sx.ixL ho5 (v := .ref a5) (show atI _ ((4 : Nat) : Int) = _ from atI_nat rfl) (fin a5 [768, 644, 769, 640, 296, 770, 775, 640] ((s1.trans (s2.trans (s3.trans (s4.trans (s5.trans (s6.trans (s7))))))).free na5) ((s9.trans (s10.trans (s11.trans (s12)))) _ _ ha5) es)
  | 5, _, es => exact Sx.ixL ho5 (v := .ref a6) (show atI _ ((5 : Nat) : Int) = _ from atI_nat rfl) (fin a6 [776, 771, 262, 640] ((s1.trans (s2.trans (s3.trans (s4.trans (s5.trans (s6.trans (s7.trans (s8)))))))).free na6) ((s10.trans (s11.trans (s12))) _ _ ha6) es)
  | 6, _, es => exact Sx.ixL ho5 (v := .ref a7) (show atI _ ((6 : Nat) : Int) = _ from atI_nat rfl) (fin a7 [900, 640] ((s1.trans (s2.trans (s3.trans (s4.trans (s5.trans (s6.trans (s7.trans (s8.trans (s9))))))))).free na7) ((s11.trans (s12)) _ _ ha7) es)
theorem ok_prog (R : Raw K mg "_law_program" s_law_program) (T : TxtL K mg) (G_law_mix : GF P w K mg base "_law_mix" ["_law_cell_here", "_law_prime", "_law_many"] 1 sp_mix) (G_law_some : GF P w K mg base "_law_some" ["_law_cell_here"] 2 sp_some) : GF P w K mg base "_law_program" ["_law_cell_here"] 3 sp_prog := by
 refine GF.mk R sc_law_program (by wtm_at "1") (fun vs H Q E h => ?_) (fun f cdv A outer s H vs Q E hr h => ?_)
 ·obtain ⟨x, rfl, _⟩ := h; rfl
 ·obtain ⟨x, rfl, k⟩ := h
  refine ⟨_, (@pss_cons _ _ _ _ _ (@ps_setLC _ _ _ _ _ _ _ _ _ _ _ _ ([("_law_cell_here" , 0)]) (1) _ _ _ sc_law_program.nd rfl (Or.inl rfl) rfl rfl (@pi_range1 _ _ _ _ _ _ rfl T.range_ (@pa_c _ _ _ _ _ pe_int pa_nil rfl) rfl) ⟨rfl, rfl, by decide +kernel, by decide +kernel, rfl, by decide +kernel, ⟨rfl, trivial⟩ , rfl, ⟨⟨rfl, .inl rfl, .inl rfl, _, rfl, rfl⟩ , trivial⟩⟩ (fun _ _ _ _ => pts_nil) (fun _ _ _ _ => (@pe_gcallN _ _ _ _ _ _ _ _ _ _ G_law_mix (hr.mono (by decide)) rfl (@pa_c _ _ _ _ _ (@pe_op _ _ _ _ _ _ _ _ op_add (pv 1) (@pe_op _ _ _ _ _ _ _ _ op_mul pe_int (pv 0))) (@pa_c _ _ _ _ _ pe_int (@pa_c _ _ _ _ _ pe_int pa_nil rfl) rfl) rfl) (by decide) rfl)) (fun _ => rfl) (by first | exact .inl rfl | exact .inr rfl | assumption)) (@pss_cons _ _ _ _ _ (@ps_set _ _ (2) _ _ _ _ sc_law_program.nd rfl (Or.inl rfl) (@pe_gcallN _ _ _ _ _ _ _ _ _ _ G_law_mix (hr.mono (by decide)) rfl (@pa_c _ _ _ _ _ (pv 0) (@pa_c _ _ _ _ _ pe_int (@pa_c _ _ _ _ _ pe_int pa_nil rfl) rfl) rfl) (by decide) rfl) rfl (by first | exact .inl rfl | exact .inr rfl | assumption)) (@pss_cons _ _ _ _ _ (@ps_if _ _ _ _ _ _ _ _ (@pt_cmpR _ _ _ _ _ _ _ _ op_eq (pv 2) pe_int (nomark _)) (@pss_one _ _ _ (@ps_ret _ _ _ _ (pv 1))) pss_nil) (@pss_cons _ _ _ _ _ (@ps_if _ _ _ _ _ _ _ _ (@pt_cmpR _ _ _ _ _ _ _ _ op_eq (pv 2) pe_int (nomark _)) (@pss_one _ _ _ (@ps_ret _ _ _ _ (@pe_lcomp _ _ _ _ _ _ _ _ _ _ _ _ ([]) rfl (@pi_listK _ (K) _ _ _ rfl (pv 1)) ⟨rfl, rfl, by decide +kernel, by decide +kernel, rfl, by decide +kernel, trivial, rfl, trivial⟩ (fun _ _ _ _ => pts_nil) (fun _ _ _ _ => (@pe_ifExp _ _ _ _ _ _ _ _ (@pt_cmpR _ _ _ _ _ _ _ _ op_eq (@pe_op _ _ _ _ _ _ _ _ op_mod (pv 0) pe_int) pe_int (nomark _)) (@pe_op _ _ _ _ _ _ _ _ op_add pe_int (@pe_op _ _ _ _ _ _ _ _ op_mod (pv 0) pe_int)) (pv 0))) (fun _ => rfl)))) pss_nil) (@pss_cons _ _ _ _ _ (@ps_set _ _ (3) _ _ _ _ sc_law_program.nd rfl (Or.inl rfl) (@pe_gcallN _ _ _ _ _ _ _ _ _ _ G_law_some (hr.mono (by decide)) rfl (@pa_c _ _ _ _ _ (pv 0) pa_nil rfl) (by decide) rfl) rfl (by first | exact .inl rfl | exact .inr rfl | assumption)) (@pss_cons _ _ _ _ _ (ps_asg (@pe_op _ _ _ _ _ _ _ _ op_add pe_int (@pe_op _ _ _ _ _ _ _ _ op_mod (pv 0) pe_int)) (pg_sub (pv 1) pe_int set_list)) (@pss_one _ _ _ (@ps_ret _ _ _ _ (@pe_op _ _ _ _ _ _ _ _ op_cat (pv 3) (@pe_slice _ _ _ _ _ _ _ _ _ _ (sl_listK (K := K) rfl) (pv 1) (@po_some _ _ _ (@pe_callBN _ _ _ _ _ _ _ _ _ (call_len_seqK (K := K) rfl) (by rfl) T.len_ bo_len (@pa_c _ _ _ _ _ (pv 3) pa_nil rfl) (by decide) (by decide) rfl)) po_none)))))))))), ?_⟩
  wtm_at "uu"
  refine ⟨64, rfl, by decide, by decide, lc_range (lo := 0) (n := 64) (fun i => .int ((x + 977 * (i : Int)) * 48271 % 10007 % 1024)) (by decide) (fun i hi Q' q' => ?_) (fun l hl => ?_)⟩
  ·wtm_at "uu"
   rw [Int.zero_add]
   exact q'
  have e : (List.range 64).map (fun i : Nat => V.int ((x + 977 * (i : Int)) * 48271 % 10007 % 1024)) = (fill0 x).map V.int := by
   unfold fill0 fillL
   rw [List.map_map]
   rfl
  rw [e]
  have hl1 : (upd H l (.lst ((fill0 x).map V.int))) l = some (.lst ((fill0 x).map V.int)) := upd_same
  have s1 : Same H (upd H l (.lst ((fill0 x).map V.int))) := Same.new hl
  have hfl : (fill0 x).length = 64 := fillL_len _ _
  have hpr : progL x = if mixV x 9949 8 = 0 then fill0 x else if mixV x 9949 8 = 1 then (fill0 x).map fun n => if n % 3 = 0 then 768 + n % 10 else n else someL x ++ ((fill0 x).set 21 (1 + x % 3)).drop (someL x).length := rfl
  generalize fill0 x = c0 at hl1 s1 hfl hpr ⊢
  generalize upd H l (.lst (c0.map V.int)) = H1 at hl1 s1 ⊢
  wtm_at "uu"
  refine iteD (fun g => ?_) (fun g => ?_)
  ·have g' : mixV x 9949 8 = 0 := g
   rw [if_pos g'] at hpr
   wtm_at "uu"
   exact k l H1 hl (by rw [hpr]; exact hl1) s1
  have g' : ¬ mixV x 9949 8 = 0 := g
  rw [if_neg g'] at hpr
  wtm_at "uu"
  refine iteD (fun g2 => ?_) (fun g2 => ?_)
  ·have g2' : mixV x 9949 8 = 1 := g2
   rw [if_pos g2'] at hpr
   wtm_at "uu"
   refine ⟨l, rfl, ⟨_, SqL.of hl1⟩, lc_list (fun _ => true) (fun v => match v with | .int n => .int (if n % 3 = 0 then 768 + n % 10 else n) | v => v) (SqL.of hl1) (by rw [List.length_map, hfl]; decide) (fun v hv Q' q' => q') (fun v hv _ Q' q' => ?_) (fun p hp => ?_)⟩
   ·obtain ⟨n, _, rfl⟩ := List.mem_map.mp hv
    wtm_at "uu"
    refine iteD (fun g3 => ?_) (fun g3 => ?_)
    ·wtm_at "uu"
     dsimp only at q'
     rw [if_pos g3] at q'
     exact q'
    ·wtm_at "uu"
     dsimp only at q'
     rw [if_neg g3] at q'
     exact q'
   ·refine k p _ (s1.free hp) ?_ (s1.new' hp)
    rw [upd_same, hpr, List.map_map, List.filter_eq_self.mpr (by simp), List.map_map]
    rfl
  have g2' : ¬ mixV x 9949 8 = 1 := g2
  rw [if_neg g2'] at hpr
  wtm_at "uu"
  refine ⟨x, rfl, fun q H2 nq hq2 s2 => ?_⟩
  have hl2 := s2 _ _ hl1
  have hso := someL_ok x
  generalize someL x = so at hpr hso hq2
  have nlq := ne_of_none hl1 nq
  wtm_at "uu"
  refine Sx.setN hl2 (by decide) (by rw [hfl]; decide) ?_
  have e21 : (21 : Int).toNat = 21 := rfl
  rw [e21]
  have hl3 : (upd H2 l (.lst ((c0.set 21 (1 + x % 3)).map V.int))) l = some (.lst ((c0.set 21 (1 + x % 3)).map V.int)) := upd_same
  have hq3 : (upd H2 l (.lst ((c0.set 21 (1 + x % 3)).map V.int))) q = some (.lst (so.map V.int)) := by rw [upd_ne nlq.symm]; exact hq2
  have s3 : Same H (upd H2 l (.lst ((c0.set 21 (1 + x % 3)).map V.int))) := (s1.trans s2).upd hl
  have hcl : (c0.set 21 (1 + x % 3)).length = 64 := by rw [List.length_set]; exact hfl
  generalize c0.set 21 (1 + x % 3) = c1 at hpr hl3 hq3 s3 hcl ⊢
  generalize upd H2 l (.lst (c1.map V.int)) = H3 at hl3 hq3 s3 ⊢
  wtm_at "uu"
  refine ⟨q, _, rfl, .inl (SqL.of hq3), ?_⟩
  wtm_at "uu"
  refine Sx.slL hl3 fun r hr => ?_
  have ec : cutV (c1.map V.int) (some ((so.map V.int).length : Int)) none = (c1.drop so.length).map V.int := by
   unfold cutV
   rw [List.length_map, List.length_map, HT.sIx_nat, HT.sIx_none, Nat.min_eq_left (by omega), List.map_drop]
   exact List.take_of_length_le (by simp)
  rw [ec]
  have hq4 : (upd H3 r (.lst ((c1.drop so.length).map V.int))) q = some (.lst (so.map V.int)) := by rw [upd_ne (ne_of_none hq3 hr)]; exact hq3
  refine Sx.cat hq4 upd_same (by rw [List.length_map, List.length_map, List.length_drop, sizeLine_eq]; omega) fun z hz => ?_
  refine k z _ ((s3.new' hr).free hz) ?_ ((s3.new' hr).new' hz)
  rw [upd_same, hpr, List.map_append]
end
end Du
namespace Lh
open PySem L2 Mir Pr Tx Lw Dm Us Du Pp Hs
structure HFr (A A' : HAd) (H H' : Hp) : Prop where
 h : A'.h = A.h
 f : FrL H H' (footH A)
 n : ∀ x ∈ footH A', x ∈ footH A ∨ H x = none
section
variable {A A' A'' : HAd} {H H' H'' H0 : Hp} {x : Addr} {o : HO}
theorem HFr.of (F : FrL H H' (footH A)) : HFr A A H H' := ⟨rfl, F, fun _ hx => .inl hx⟩
theorem HFr.refl : HFr A A H H := .of FrL.refl
theorem HFr.ofS (s : Same H H') : HFr A A H H' := .of fun b o e _ => s b o e
theorem HFr.safe (F : HFr A A' H H') (e : H x = some o) (n : x ∉ footH A) : H' x = some o ∧ x ∉ footH A' := ⟨F.f _ _ e n, fun z => (F.n x z).elim n fun y => by rw [y] at e; cases e⟩
theorem HFr.trans (F : HFr A A' H H') (G : HFr A' A'' H' H'') : HFr A A'' H H'' := by
 refine ⟨G.h.trans F.h, fun b o e n => G.f b o (F.f b o e n) (F.safe e n).2, fun x hx => ?_⟩
 rcases G.n x hx with z | z
 ·exact F.n x z
 ·by_cases y : x ∈ footH A
  ·exact .inl y
  ·refine .inr ?_
   cases e : H x with
   | none => rfl
   | some o => have := F.f x o e y; rw [z] at this; cases this
theorem HFr.base (F : HFr A A' H H') (s : Same H0 H) (n : ∀ x ∈ footH A, H0 x = none) : Same H0 H' ∧ ∀ x ∈ footH A', H0 x = none :=
 ⟨(fun b o e => F.f b o (s b o e) (fun z => by rw [n b z] at e; cases e)), fun x hx => (F.n x hx).elim (n x) fun z => s.free z⟩
end
theorem _root_.Hs.HAt.other {CH CP CM : Addr} {H : Hp} {A : HAd} {s : Hse} {l : Addr} {xs : List V} {o : HO} (h : HAt CH CP CM H A s) (hl : H l = some (.lst xs)) (n : l ∉ footH A) : HAt CH CP CM (upd H l o) A s :=
 h.move (fun x hx v e => by rw [upd_ne (fun z => n (by rw [← z]; exact hx))]; exact e) (fun x ys e => by rw [upd_ne (fun z => by rw [z, hl] at e; cases e)]; exact e)
theorem setU_len (s : Hse) (u : Nat) (x : Usr) : (setU s u x).us.length = s.us.length := List.length_set
theorem Bd.setUsr {s : Hse} {M : Nat} (h : Bd s M) {u : Nat} {x : Usr} (hx : RgU x) (hp : x.pap.length ≤ M) : Bd (setU s u x) M :=
 ⟨fun y hy => mem_setL h.ru hx hy, fun y hy => mem_setL (P := fun y => y.pap.length ≤ M) h.pa hp hy, h.dl, h.rl, by rw [setU_len]; exact h.n1, by rw [setU_len]; exact h.n2, fun v hv => by rw [setU_len]; exact h.rr v hv, fun v hv => by rw [setU_len]; exact h.rn v hv, h.ro, h.tu, h.be⟩
theorem Bd.loadB {s : Hse} {M : Nat} (h : Bd s M) {u : Nat} (hu : u < s.us.length) {c : List Int} (hl : c.length = 64) (hr : ∀ v ∈ c, 0 ≤ v ∧ v < 1024) : Bd (loadH s u c) M := by
 have hx := h.ru _ (usr_mem hu)
 exact Bd.setUsr h ⟨⟨hl, hr, hx.rm.t0, hx.rm.t1, hx.rm.k0, hx.rm.k1, hx.rm.a0, hx.rm.a1⟩, hx.inl, hx.inr, hx.outl, hx.papl, hx.bl, hx.bw, hx.br, hx.s0, hx.s1⟩ (show (usr s u).pap.length ≤ M from h.pa _ (usr_mem hu))
theorem Bd.swB {s : Hse} {M : Nat} (h : Bd s M) {u : Nat} (hu : u < s.us.length) {w : Int} (h0 : 0 ≤ w) (h1 : w < 1024) : Bd (switchH s u w) M := by
 have hx := h.ru _ (usr_mem hu)
 exact Bd.setUsr h ⟨hx.rm, hx.inl, hx.inr, hx.outl, hx.papl, hx.bl, hx.bw, hx.br, h0, h1⟩ (show (usr s u).pap.length ≤ M from h.pa _ (usr_mem hu))
theorem bring_len (s : Hse) (u : Nat) : (bringIn s u).us.length = s.us.length := by unfold bringIn; split <;> rfl
theorem next_len (s : Hse) : (letNext s).us.length = s.us.length := by
 unfold letNext
 split
 ·rw [bring_len]
 ·rfl
theorem doTick_len (s : Hse) : (doTick s).us.length = s.us.length := by
 unfold doTick lastT
 have e := ticksN_len ({ s with ticks := s.ticks + 1 } : Hse) s.us.length
 split
 ·exact e
 ·unfold shorten
  split
  ·exact e
  ·exact e
theorem doStep_len (s : Hse) : (doStep s).us.length = s.us.length := by
 unfold doStep
 rw [next_len]
 have e1 : (step1 s).us.length = s.us.length := by
  unfold step1
  split
  ·rfl
  ·unfold stepWho
   split
   ·exact happenIn_len _ _ _
   ·exact happenIn_len _ _ _
 unfold step2
 split
 ·rw [doTick_len, e1]
 ·exact e1
theorem runN_len (s : Hse) : ∀ n, (runN n s).us.length = s.us.length
 | 0 => rfl
 | n + 1 => by rw [Hs.runN, doStep_len, runN_len s n]
theorem app_get {α β : Type} {R : α → β → Prop} {rs : List α} {cs : List β} {r : α} {c : β} (hl : rs.length = cs.length) (h : ∀ (i : Nat) x y, rs[i]? = some x → cs[i]? = some y → R x y) (hr : R r c) : ∀ (i : Nat) x y, (rs ++ [r])[i]? = some x → (cs ++ [c])[i]? = some y → R x y := by
 intro i x y g1 g2
 rcases Nat.lt_or_ge i rs.length with z | z
 ·rw [List.getElem?_append_left z] at g1
  rw [List.getElem?_append_left (by rw [← hl]; exact z)] at g2
  exact h i x y g1 g2
 ·rw [List.getElem?_append_right z] at g1
  rw [List.getElem?_append_right (by rw [← hl]; exact z), ← hl] at g2
  have ei : i - rs.length = 0 := by
   rcases Nat.lt_or_ge (i - rs.length) 1 with z2 | z2
   ·omega
   ·rw [List.getElem?_eq_none (by simpa using z2)] at g1; cases g1
  rw [ei] at g1 g2
  cases g1
  cases g2
  exact hr
end Lh
namespace Lh
open PySem L2 Mir Pr Tx Lw Dm Us Du Pp Hs
def usersN (ns : List Int) : Nat := if 63 < (ns.length : Int) ∨ mixV (ns.getD 2 0) 9479 7 = 3 then 8 else (1 + mixV (ns.getD 0 0) 9941 5).toNat
def roomsN (ns : List Int) : Nat := (1 + mixV (ns.getD 1 0) 9931 (usersN ns : Int)).toNat
def quaN (ns : List Int) : Int := 1 + mixV (ns.getD 2 0) 9929 4
def beaN (ns : List Int) : Int := 1 + mixV (ns.getD 3 0) 9923 6
theorem users_in (ns : List Int) : 1 ≤ usersN ns ∧ usersN ns ≤ 8 := by
 have := mixV_in (x := ns.getD 0 0) (p := 9941) (n := 5) (by decide)
 unfold usersN
 split <;> omega
theorem rooms_in (ns : List Int) : 1 ≤ roomsN ns ∧ roomsN ns ≤ usersN ns := by
 have hu := users_in ns
 have := mixV_in (x := ns.getD 1 0) (p := 9931) (n := (usersN ns : Int)) (by omega)
 unfold roomsN
 omega
theorem bea_in (ns : List Int) : 1 ≤ beaN ns ∧ beaN ns ≤ 6 := by
 have := mixV_in (x := ns.getD 3 0) (p := 9923) (n := 6) (by decide)
 unfold beaN; omega
def hallV (n r : Nat) (q b : Int) : List V := [.int (n : Int), .int (r : Int), .int q, .int b]
def sp_hall (K : PySem.W.Frag) : Sp := fun vs H Q _ => ∃ (a : Addr) (ns : List Int), vs = [.ref a] ∧ SqL K H a (ns.map V.int) ∧ ∀ t H', H' t = some (.tup (hallV (usersN ns) (roomsN ns) (quaN ns) (beaN ns))) → Same H H' → Q (.ref t) H'
section
variable {P : Program} {w : World} {K : PySem.W.Frag} {mg : Str → Option Value} {base : Heap} {CH CP CM : Addr}
theorem ok_hall (R : Raw K mg "_law_hall" s_law_hall) (T : TxtL K mg) (G_law_cell : GF P w K mg base "_law_cell" ["_law_script", "_law_k"] 1 (sp_cell K)) (G_law_mix : GF P w K mg base "_law_mix" ["_law_cell_here", "_law_prime", "_law_many"] 1 sp_mix) : GF P w K mg base "_law_hall" ["_law_script"] 2 (sp_hall K) := by
 refine GF.mk R sc_law_hall (by wtm_at "1") (fun vs H Q E h => ?_) (fun f cdv A outer s H vs Q E hr h => ?_)
 ·obtain ⟨a, ns, rfl, _⟩ := h; rfl
 ·obtain ⟨a, ns, rfl, hS, k⟩ := h
  have hu := users_in ns
  have hr0 := rooms_in ns
  have em : mixV (ns.getD 0 0) 9941 5 = ns.getD (Int.toNat 0) 0 * 48271 % 9941 % 5 := rfl
  have hm := mixV_in (x := ns.getD 0 0) (p := 9941) (n := 5) (by decide)
  refine ⟨_, (@pss_cons _ _ _ _ _ (@ps_set _ _ (1) _ _ _ _ sc_law_hall.nd rfl (Or.inl rfl) (@pe_op _ _ _ _ _ _ _ _ op_add pe_int (@pe_gcallN _ _ _ _ _ _ _ _ _ _ G_law_mix (hr.mono (by decide)) rfl (@pa_c _ _ _ _ _ (@pe_gcallN _ _ _ _ _ _ _ _ _ _ G_law_cell (hr.mono (by decide)) rfl (@pa_c _ _ _ _ _ (pv 0) (@pa_c _ _ _ _ _ pe_int pa_nil rfl) rfl) (by decide) rfl) (@pa_c _ _ _ _ _ pe_int (@pa_c _ _ _ _ _ pe_int pa_nil rfl) rfl) rfl) (by decide) rfl)) rfl (by first | exact .inl rfl | exact .inr rfl | assumption)) (@pss_cons _ _ _ _ _ (@ps_cut _ _ _ (@ps_if _ _ _ _ _ _ _ _ (@PW.pt _ _ _ (@pw_or _ _ _ _ _ _ _ (@pt_cmpR _ _ _ _ _ _ _ _ op_gt (@pe_callBN _ _ _ _ _ _ _ _ _ (call_len_seqN (K := K) rfl) (by rfl) T.len_ bo_len (@pa_c _ _ _ _ _ (pv 0) pa_nil rfl) (by decide) (by decide) rfl) pe_int (nomark _)) (@pw_or1 _ _ _ _ (@pt_cmpR _ _ _ _ _ _ _ _ op_eq (@pe_gcallN _ _ _ _ _ _ _ _ _ _ G_law_mix (hr.mono (by decide)) rfl (@pa_c _ _ _ _ _ (@pe_gcallN _ _ _ _ _ _ _ _ _ _ G_law_cell (hr.mono (by decide)) rfl (@pa_c _ _ _ _ _ (pv 0) (@pa_c _ _ _ _ _ pe_int pa_nil rfl) rfl) (by decide) rfl) (@pa_c _ _ _ _ _ pe_int (@pa_c _ _ _ _ _ pe_int pa_nil rfl) rfl) rfl) (by decide) rfl) pe_int (nomark _))))) (@pss_one _ _ _ (@ps_set _ _ (1) _ _ _ _ sc_law_hall.nd rfl (Or.inl rfl) pe_int rfl (by first | exact .inl rfl | exact .inr rfl | assumption))) pss_nil)) (@pss_cons _ _ _ _ _ (@ps_set _ _ (2) _ _ _ _ sc_law_hall.nd rfl (Or.inl rfl) (@pe_op _ _ _ _ _ _ _ _ op_add pe_int (@pe_gcallN _ _ _ _ _ _ _ _ _ _ G_law_mix (hr.mono (by decide)) rfl (@pa_c _ _ _ _ _ (@pe_gcallN _ _ _ _ _ _ _ _ _ _ G_law_cell (hr.mono (by decide)) rfl (@pa_c _ _ _ _ _ (pv 0) (@pa_c _ _ _ _ _ pe_int pa_nil rfl) rfl) (by decide) rfl) (@pa_c _ _ _ _ _ pe_int (@pa_c _ _ _ _ _ (pv 1) pa_nil rfl) rfl) rfl) (by decide) rfl)) rfl (by first | exact .inl rfl | exact .inr rfl | assumption)) (@pss_cons _ _ _ _ _ (@ps_set _ _ (3) _ _ _ _ sc_law_hall.nd rfl (Or.inl rfl) (@pe_op _ _ _ _ _ _ _ _ op_add pe_int (@pe_gcallN _ _ _ _ _ _ _ _ _ _ G_law_mix (hr.mono (by decide)) rfl (@pa_c _ _ _ _ _ (@pe_gcallN _ _ _ _ _ _ _ _ _ _ G_law_cell (hr.mono (by decide)) rfl (@pa_c _ _ _ _ _ (pv 0) (@pa_c _ _ _ _ _ pe_int pa_nil rfl) rfl) (by decide) rfl) (@pa_c _ _ _ _ _ pe_int (@pa_c _ _ _ _ _ pe_int pa_nil rfl) rfl) rfl) (by decide) rfl)) rfl (by first | exact .inl rfl | exact .inr rfl | assumption)) (@pss_cons _ _ _ _ _ (@ps_set _ _ (4) _ _ _ _ sc_law_hall.nd rfl (Or.inl rfl) (@pe_op _ _ _ _ _ _ _ _ op_add pe_int (@pe_gcallN _ _ _ _ _ _ _ _ _ _ G_law_mix (hr.mono (by decide)) rfl (@pa_c _ _ _ _ _ (@pe_gcallN _ _ _ _ _ _ _ _ _ _ G_law_cell (hr.mono (by decide)) rfl (@pa_c _ _ _ _ _ (pv 0) (@pa_c _ _ _ _ _ pe_int pa_nil rfl) rfl) (by decide) rfl) (@pa_c _ _ _ _ _ pe_int (@pa_c _ _ _ _ _ pe_int pa_nil rfl) rfl) rfl) (by decide) rfl)) rfl (by first | exact .inl rfl | exact .inr rfl | assumption)) (@pss_one _ _ _ (@ps_ret _ _ _ _ (@pe_tup _ _ _ _ _ (@pa_c _ _ _ _ _ (pv 1) (@pa_c _ _ _ _ _ (pv 2) (@pa_c _ _ _ _ _ (pv 3) (@pa_c _ _ _ _ _ (pv 4) pa_nil rfl) rfl) rfl) rfl))))))))), ?_⟩
  wtm_at "vv"
  refine Sx.cut (fun σ' H' => σ' = [some (.ref a), some (.int (usersN ns : Nat)), none, none, none] ∧ H' = H) ?_ ?_
  ·wtm_at "vv"
   refine Sx.lenS hS ?_
   rw [List.length_map]
   wtm_at "vv"
   refine iteD (fun g => ?_) (fun g => ?_)
   ·wtm_at "vv"
    exact ⟨by unfold usersN; rw [if_pos (.inl g)]; rfl, rfl⟩
   wtm_at "vv"
   refine iteD (fun g2 => ?_) (fun g2 => ?_)
   ·wtm_at "vv"
    exact ⟨by unfold usersN; rw [if_pos (show 63 < (ns.length : Int) ∨ mixV (ns.getD 2 0) 9479 7 = 3 from .inr g2)]; rfl, rfl⟩
   ·refine ⟨?_, rfl⟩
    unfold usersN
    rw [if_neg (show ¬ (63 < (ns.length : Int) ∨ mixV (ns.getD 2 0) 9479 7 = 3) from fun z => z.elim g g2), Int.toNat_of_nonneg (by omega)]
    rfl
  rintro _ H1 ⟨rfl, e1⟩
  subst e1
  have er : 1 + ns.getD (Int.toNat 1) 0 * 48271 % 9931 % ((usersN ns : Nat) : Int) = ((roomsN ns : Nat) : Int) := by
   have := mixV_in (x := ns.getD 1 0) (p := 9931) (n := (usersN ns : Int)) (by omega)
   unfold roomsN
   rw [Int.toNat_of_nonneg (by omega)]
   rfl
  wtm_at "vv"
  refine Lw.c_mix (by decide) (by omega) ?_
  wtm_at "vv"
  rw [er]
  refine Sx.newT (by show 4 ≤ sizeLine; decide) fun t H2 nt ht s2 => ?_
  exact k t H2 ht s2
end
end Lh
namespace Lh
open PySem L2 Mir Pr Tx Lw Dm Us Du Pp Hs
def madeN (n r : Nat) (q b : Int) (ns : List Int) : Nat → Hse
 | 0 => newH n r q b
 | i + 1 => switchH (loadH (madeN n r q b ns i) i (progL (ns.getD (4 + i) 0))) i (mixV (ns.getD (4 + i) 0) 9907 1024)
theorem made_len (n r : Nat) (q b : Int) (ns : List Int) : ∀ i, (madeN n r q b ns i).us.length = n
 | 0 => List.length_replicate
 | i + 1 => by
  show (setU (setU _ _ _) _ _).us.length = n
  rw [setU_len, setU_len, made_len n r q b ns i]
theorem made_bd {n r : Nat} {q b : Int} (hn : n ≤ 8) (hr : 1 ≤ r ∧ r ≤ 8) (hb : 0 < b) (ns : List Int) : ∀ i, i ≤ n → Bd (madeN n r q b ns i) 0
 | 0, _ => by
  refine ⟨fun u hu => ?_, fun u hu => ?_, fun d hd => ?_, Nat.le_refl _, by rw [made_len]; exact hn, ?_, fun u hu => ?_, fun u hu => ?_, ?_, ?_, hb⟩
  ·rw [List.eq_of_mem_replicate hu]
   exact RgU.new rfl (fun v hv => by rw [List.eq_of_mem_replicate hv]; decide) (by decide) (by decide)
  ·rw [List.eq_of_mem_replicate hu]; exact Nat.le_refl _
  ·rw [List.eq_of_mem_replicate hd]; exact Nat.le_refl _
  ·exact List.length_replicate.trans List.length_replicate.symm
  ·have hu' : u ∈ ([] : List Nat) := hu
   simp at hu'
  ·cases hu
  ·show 0 < (List.replicate r none).length ∧ (List.replicate r none).length ≤ 8
   rw [List.length_replicate]; omega
  ·show 0 ≤ (0 : Int) ∧ (0 : Int) < ((List.replicate r none).length : Int)
   rw [List.length_replicate]; omega
 | i + 1, hi => by
  have h := made_bd (q := q) hn hr hb ns i (by omega)
  have hm := mixV_in (x := ns.getD (4 + i) 0) (p := 9907) (n := 1024) (by decide)
  have hlen := made_len n r q b ns i
  exact Bd.swB (Bd.loadB h (by omega) (progL_len _) (progL_in _)) (by show i < (setU _ _ _).us.length; rw [setU_len]; omega) hm.1 hm.2
def sp_made (K : PySem.W.Frag) (CH CP CM : Addr) : Sp := fun vs H Q _ => ∃ (t a : Addr) (n r : Nat) (q b : Int) (ns : List Int), vs = [.ref t, .ref a] ∧ H t = some (.tup (hallV n r q b)) ∧ SqL K H a (ns.map V.int) ∧ n ≤ 8 ∧ (1 ≤ r ∧ r ≤ 8) ∧ 0 < b ∧
 ∀ A H', (∀ x ∈ footH A, H x = none) → HAt CH CP CM H' A (madeN n r q b ns n) → Same H H' → Q (.ref A.h) H'
inductive Act where
 | start (u : Nat) (p : Int)
 | key (u : Nat) (l : Int)
 | load (u : Nat) (x : Int)
 | sw (u : Nat) (w : Int)
 | run (n : Nat)
def actV : Act → List V
 | .start u p => [.str "start", .int (u : Int), .int p]
 | .key u l => [.str "key", .int (u : Int), .int l]
 | .load u x => [.str "load", .int (u : Int), .int x]
 | .sw u w => [.str "switches", .int (u : Int), .int w]
 | .run n => [.str "run", .int 0, .int (n : Int)]
def ActOk (n : Nat) : Act → Prop
 | .start u p => u < n ∧ 0 ≤ p ∧ p < 64
 | .key u l => u < n ∧ 0 ≤ l ∧ l < 256
 | .load u _ => u < n
 | .sw u w => u < n ∧ 0 ≤ w ∧ w < 1024
 | .run m => m ≤ 8
def doA (s : Hse) : Act → Hse
 | .start u p => startH s u p
 | .key u l => keyH s u l
 | .load u x => loadH s u (progL x)
 | .sw u w => switchH s u w
 | .run n => runN n s
def actOf (n : Nat) (x : Int) : Act :=
 if mixV x 9883 8 = 0 then .start (mixV x 9887 (n : Int)).toNat (mixV x 9871 64)
 else if 5 < mixV x 9883 8 then (if mixV x 9883 8 = 6 then .load (mixV x 9887 (n : Int)).toNat (mixV x 9853 1024) else .sw (mixV x 9887 (n : Int)).toNat (mixV x 9853 1024))
 else if mixV x 9883 8 < 3 then .key (mixV x 9887 (n : Int)).toNat (mixV x 9859 256) else .run (mixV x 9857 9).toNat
def firstL (ns : List Int) (i : Nat) : List Act := ((List.range i).filter fun k => decide (0 < mixV (ns.getD (4 + k) 0) 9901 5)).map fun k => .start k 0
def actsL (n : Nat) (ns : List Int) : List Act := firstL ns n ++ ((ns.drop 12).take 16).map (actOf n)
theorem actOf_ok {n : Nat} (hn : 0 < n) (x : Int) : ActOk n (actOf n x) := by
 have h1 := mixV_in (x := x) (p := 9887) (n := (n : Int)) (by omega)
 have h2 := mixV_in (x := x) (p := 9871) (n := 64) (by decide)
 have h3 := mixV_in (x := x) (p := 9853) (n := 1024) (by decide)
 have h4 := mixV_in (x := x) (p := 9859) (n := 256) (by decide)
 have h5 := mixV_in (x := x) (p := 9857) (n := 9) (by decide)
 unfold actOf
 split
 ·exact ⟨by omega, h2⟩
 split
 ·split
  ·show _ < n; omega
  ·exact ⟨by omega, h3⟩
 split
 ·exact ⟨by omega, h4⟩
 ·show _ ≤ 8; omega
theorem acts_ok {n : Nat} (hn : 0 < n) (ns : List Int) : ∀ c ∈ actsL n ns, ActOk n c := by
 intro c hc
 rcases List.mem_append.mp hc with z | z
 ·obtain ⟨k, hk, rfl⟩ := List.mem_map.mp z
  have := List.mem_range.mp (List.mem_filter.mp hk).1
  exact ⟨this, by decide, by decide⟩
 ·obtain ⟨x, _, rfl⟩ := List.mem_map.mp z
  exact actOf_ok hn x
theorem first_len (ns : List Int) (i : Nat) : (firstL ns i).length ≤ i := by
 unfold firstL
 rw [List.length_map]
 exact Nat.le_trans (List.length_filter_le _ _) (by rw [List.length_range]; exact Nat.le_refl _)
theorem acts_len {n : Nat} (hn : n ≤ 8) (ns : List Int) : (actsL n ns).length ≤ 24 := by
 have := first_len ns n
 unfold actsL
 rw [List.length_append, List.length_map, List.length_take]
 omega
theorem Bd.act {s : Hse} {M : Nat} (h : Bd s M) {c : Act} (hc : ActOk s.us.length c) (hM : M < 700000) : Bd (doA s c) (M + 100) := by
 cases c with
 | start u p => exact ((h.happen hc.1 (e := .start p) hc.2 (by omega)).next).mono (by omega)
 | key u l => exact ((h.happen hc.1 (e := .key l) hc.2 (by omega)).next).mono (by omega)
 | load u x => exact (Bd.loadB h hc (progL_len _) (progL_in _)).mono (by omega)
 | sw u w => exact (Bd.swB h hc.1 hc.2.1 hc.2.2).mono (by omega)
 | run n =>
  have hn : n ≤ 8 := hc
  exact (h.run n (by omega)).mono (by omega)
theorem doA_len (s : Hse) (c : Act) : (doA s c).us.length = s.us.length := by
 cases c with
 | start u p => show (letNext _).us.length = _; rw [next_len, happenIn_len]
 | key u l => show (letNext _).us.length = _; rw [next_len, happenIn_len]
 | load u x => exact setU_len _ _ _
 | sw u w => exact setU_len _ _ _
 | run n => exact runN_len s n
def ActsAt (H : Hp) (l : Addr) (rs : List Addr) (cs : List Act) : Prop := H l = some (.lst (rs.map V.ref)) ∧ rs.length = cs.length ∧ ∀ (i : Nat) r c, rs[i]? = some r → cs[i]? = some c → H r = some (.tup (actV c))
theorem ActsAt.keep {H H' : Hp} {l : Addr} {rs : List Addr} {cs : List Act} (h : ActsAt H l rs cs) (s : Same H H') : ActsAt H' l rs cs := ⟨s _ _ h.1, h.2.1, fun i r e g1 g2 => s _ _ (h.2.2 i r e g1 g2)⟩
theorem ActsAt.far {H H' : Hp} {l : Addr} {rs F : List Addr} {cs : List Act} (h : ActsAt H l rs cs) (f : FrL H H' F) (nl : l ∉ F) (nt : ∀ x ∈ F, ∀ xs, H x ≠ some (.tup xs)) : ActsAt H' l rs cs :=
 ⟨f _ _ h.1 nl, h.2.1, fun i r e g1 g2 => f _ _ (h.2.2 i r e g1 g2) fun z => nt r z _ (h.2.2 i r e g1 g2)⟩
theorem ActsAt.app {H : Hp} {l p : Addr} {rs : List Addr} {cs : List Act} {c : Act} (h : ActsAt H l rs cs) (hp : H p = some (.tup (actV c))) : ActsAt (upd H l (.lst ((rs ++ [p]).map V.ref))) l (rs ++ [p]) (cs ++ [c]) := by
 have nt : ∀ {x : Addr} {xs : List V}, H x = some (.tup xs) → (upd H l (.lst ((rs ++ [p]).map V.ref))) x = some (.tup xs) := fun {x xs} e => by rw [upd_ne (fun z => by rw [z, h.1] at e; cases e)]; exact e
 exact ⟨upd_same, by rw [List.length_append, List.length_append, h.2.1]; rfl, app_get h.2.1 (fun i r e g1 g2 => nt (h.2.2 i r e g1 g2)) (nt hp)⟩
def sp_acts (K : PySem.W.Frag) : Sp := fun vs H Q _ => ∃ (t a : Addr) (n r : Nat) (q b : Int) (ns : List Int), vs = [.ref t, .ref a] ∧ H t = some (.tup (hallV n r q b)) ∧ SqL K H a (ns.map V.int) ∧ 1 ≤ n ∧ n ≤ 8 ∧ ∀ l rs H', H l = none → ActsAt H' l rs (actsL n ns) → Same H H' → Q (.ref l) H'
def sp_do (CH CP CM : Addr) : Sp := fun vs H Q _ => ∃ A s M r c, vs = [.ref A.h, .ref r] ∧ HAt CH CP CM H A s ∧ Bd s M ∧ M < 700000 ∧ H r = some (.tup (actV c)) ∧ ActOk s.us.length c ∧ ∀ A' H', HAt CH CP CM H' A' (doA s c) → HFr A A' H H' → Q .non H'
section
variable {P : Program} {w : World} {K : PySem.W.Frag} {mg : Str → Option Value} {base : Heap} {CH CP CM : Addr}
theorem ok_made (R : Raw K mg "_law_made" s_law_made) (T : TxtL K mg) (TH : TxtH K mg CH CP CM) (G_law_cell : GF P w K mg base "_law_cell" ["_law_script", "_law_k"] 1 (sp_cell K)) (G_law_mix : GF P w K mg base "_law_mix" ["_law_cell_here", "_law_prime", "_law_many"] 1 sp_mix) (G_law_program : GF P w K mg base "_law_program" ["_law_cell_here"] 3 sp_prog)
  (M_House : GC P w K mg base "House" CH ["self", "users", "rooms", "quantum", "beat"] 5 (sp_initH CH CP CM)) (G_load : GF P w K mg base "load" ["house", "user", "cells"] 1 (sp_load K CH CP CM)) (G_set_switches : GF P w K mg base "set_switches" ["house", "user", "word"] 1 (sp_sw CH CP CM)) : GF P w K mg base "_law_made" ["_law_hall_here", "_law_script"] 7 (sp_made K CH CP CM) := by
 refine GF.mk R sc_law_made (by wtm_at "2") (fun vs H Q E h => ?_) (fun f cdv A outer s H vs Q E hr h => ?_)
 ·obtain ⟨t, a, n, r, q, b, ns, rfl, _⟩ := h; rfl
 ·obtain ⟨t, a, n, r, q, b, ns, rfl, ht, hS, hn, hr1, hb, k⟩ := h
  refine ⟨_, (@pss_cons _ _ _ _ _ (@ps_set _ _ (2) _ _ _ _ sc_law_made.nd rfl (Or.inl rfl) (@pe_gmakeN _ _ _ _ _ _ _ _ _ _ _ M_House (hr.mono (by decide)) rfl (@pa_c _ _ _ _ _ (@pe_ix _ _ _ _ _ _ _ (ix_tupK (K := K) rfl) (pv 0) pe_int (fun _ _ => rfl)) (@pa_c _ _ _ _ _ (@pe_ix _ _ _ _ _ _ _ (ix_tupK (K := K) rfl) (pv 0) pe_int (fun _ _ => rfl)) (@pa_c _ _ _ _ _ (@pe_ix _ _ _ _ _ _ _ (ix_tupK (K := K) rfl) (pv 0) pe_int (fun _ _ => rfl)) (@pa_c _ _ _ _ _ (@pe_ix _ _ _ _ _ _ _ (ix_tupK (K := K) rfl) (pv 0) pe_int (fun _ _ => rfl)) pa_nil rfl) rfl) rfl) rfl) (by decide) rfl) rfl (by first | exact .inl rfl | exact .inr rfl | assumption)) (@pss_cons _ _ _ _ _ (@ps_for _ _ _ _ _ _ _ _ PassesOwn.never rfl (@pi_range1 _ _ _ _ _ _ rfl T.range_ (@pa_c _ _ _ _ _ (@pe_ix _ _ _ _ _ _ _ (ix_tupK (K := K) rfl) (pv 0) pe_int (fun _ _ => rfl)) pa_nil rfl) rfl) (@pg_name _ _ (3) _ sc_law_made.nd rfl (Or.inl rfl) (by first | exact .inl rfl | exact .inr rfl | assumption)) (@pss_cons _ _ _ _ _ (@ps_set _ _ (4) _ _ _ _ sc_law_made.nd rfl (Or.inl rfl) (@pe_gcallN _ _ _ _ _ _ _ _ _ _ G_law_program (hr.mono (by decide)) rfl (@pa_c _ _ _ _ _ (@pe_gcallN _ _ _ _ _ _ _ _ _ _ G_law_cell (hr.mono (by decide)) rfl (@pa_c _ _ _ _ _ (pv 1) (@pa_c _ _ _ _ _ (@pe_op _ _ _ _ _ _ _ _ op_add pe_int (pv 3)) pa_nil rfl) rfl) (by decide) rfl) pa_nil rfl) (by decide) rfl) rfl (by first | exact .inl rfl | exact .inr rfl | assumption)) (@pss_cons _ _ _ _ _ (@ps_expr _ _ _ _ (@pe_gcallN _ _ _ _ _ _ _ _ _ _ G_load (hr.mono (by decide)) rfl (@pa_c _ _ _ _ _ (pv 2) (@pa_c _ _ _ _ _ (pv 3) (@pa_c _ _ _ _ _ (pv 4) pa_nil rfl) rfl) rfl) (by decide) rfl) rfl) (@pss_cons _ _ _ _ _ (ps_asg pe_int (pg_sub (pv 4) (pv 3) set_list)) (@pss_one _ _ _ (@ps_expr _ _ _ _ (@pe_gcallN _ _ _ _ _ _ _ _ _ _ G_set_switches (hr.mono (by decide)) rfl (@pa_c _ _ _ _ _ (pv 2) (@pa_c _ _ _ _ _ (pv 3) (@pa_c _ _ _ _ _ (@pe_gcallN _ _ _ _ _ _ _ _ _ _ G_law_mix (hr.mono (by decide)) rfl (@pa_c _ _ _ _ _ (@pe_gcallN _ _ _ _ _ _ _ _ _ _ G_law_cell (hr.mono (by decide)) rfl (@pa_c _ _ _ _ _ (pv 1) (@pa_c _ _ _ _ _ (@pe_op _ _ _ _ _ _ _ _ op_add pe_int (pv 3)) pa_nil rfl) rfl) (by decide) rfl) (@pa_c _ _ _ _ _ pe_int (@pa_c _ _ _ _ _ pe_int pa_nil rfl) rfl) rfl) (by decide) rfl) pa_nil rfl) rfl) rfl) (by decide) rfl) rfl))))) (fun _ => rfl)) (@pss_one _ _ _ (@ps_ret _ _ _ _ (pv 2))))), ?_⟩
  wtm_at "vv"
  refine ixTS (i := 0) (SqT.of ht) rfl ?_
  wtm_at "vv"
  refine ixTS (i := 1) (SqT.of ht) rfl ?_
  wtm_at "vv"
  refine ixTS (i := 2) (SqT.of ht) rfl ?_
  wtm_at "vv"
  refine ixTS (i := 3) (SqT.of ht) rfl ?_
  wtm_at "vv"
  refine make_h hn hr1.2 fun A H1 nA D1 s1 => ?_
  wtm_at "vv"
  refine ixTS (i := 0) (SqT.of (s1 _ _ ht)) rfl ?_
  wtm_at "vv"
  generalize hA0 : A.h = h0
  refine ⟨_, rfl, by omega, by omega, for_range (n := n) (fun i σ' H' => ∃ A v3 v4, σ' = [some (.ref t), some (.ref a), some (.ref h0), v3, v4] ∧ A.h = h0 ∧ HAt CH CP CM H' A (madeN n r q b ns i) ∧ Same H H' ∧ ∀ x ∈ footH A, H x = none) ⟨A, _, _, rfl, hA0, D1, s1, nA⟩ ?_ ?_⟩
  ·rintro i _ H2 hi ⟨A, v3, v4, rfl, hA, D2, s2, nA⟩
   subst hA
   have hS2 := s2.seq hS
   have hlen := made_len n r q b ns i
   rw [Int.zero_add]
   wtm_at "vv"
   refine ⟨a, 4 + i, ns, by rw [Int.natCast_add]; rfl, hS2, ?_⟩
   wtm_at "vv"
   refine ⟨_, rfl, fun l H3 nl hl s3 => ?_⟩
   have D3 := D2.keep s3
   have nlA : l ∉ footH A := D2.fresh nl
   wtm_at "vv"
   refine ⟨A, _, i, l, _, rfl, D3, by rw [hlen]; exact hi, SqL.of hl, fun A' H4 eA D4 F4 n4 => ?_⟩
   have G4 : HFr A A' H3 H4 := ⟨eA, F4, n4⟩
   obtain ⟨hl4, nl4⟩ := G4.safe hl nlA
   have nlH : H l = none := s2.free nl
   obtain ⟨s4, nA4⟩ := G4.base (s2.trans s3) nA
   have hcl := progL_len (ns.getD (4 + i) 0)
   wtm_at "vv"
   refine Sx.setN hl4 (by omega) (by omega) ?_
   have D5 := D4.other (o := .lst (((progL (ns.getD (4 + i) 0)).set (i : Int).toNat 775).map V.int)) hl4 nl4
   have s5 : Same H (upd H4 l (.lst (((progL (ns.getD (4 + i) 0)).set (i : Int).toNat 775).map V.int))) := s4.upd nlH
   generalize upd H4 l (.lst (((progL (ns.getD (4 + i) 0)).set (i : Int).toNat 775).map V.int)) = H5 at D5 s5 ⊢
   have hS5 := s5.seq hS
   wtm_at "vv"
   refine ⟨a, 4 + i, ns, by rw [Int.natCast_add]; rfl, hS5, ?_⟩
   wtm_at "vv"
   rw [← eA]
   refine ⟨A', _, i, _, rfl, D5, by show i < (setU _ _ _).us.length; rw [setU_len, hlen]; exact hi, fun H6 D6 F6 => ?_⟩
   obtain ⟨s6, nA6⟩ := (HFr.of F6).base s5 nA4
   exact ⟨A', _, _, rfl, rfl, D6, s6, nA6⟩
  ·rintro _ H2 ⟨A, v3, v4, rfl, hA, D2, s2, nA⟩
   wtm_at "vv"
   rw [← hA]
   exact k A H2 nA D2 s2
theorem ok_do (R : Raw K mg "_law_do" s_law_do) (T : TxtL K mg) (TH : TxtH K mg CH CP CM) (G_law_program : GF P w K mg base "_law_program" ["_law_cell_here"] 3 sp_prog) (G_start : GF P w K mg base "start" ["house", "user", "place"] 9 (sp_startH CH CP CM)) (G_key : GF P w K mg base "key" ["house", "user", "letter"] 9 (sp_keyH CH CP CM)) (G_load : GF P w K mg base "load" ["house", "user", "cells"] 1 (sp_load K CH CP CM)) (G_set_switches : GF P w K mg base "set_switches" ["house", "user", "word"] 1 (sp_sw CH CP CM))
  (G_run : GF P w K mg base "run" ["house", "count"] 11 (spHu CH CP CM (fun s n => ∃ M, Bd s M ∧ M + 10 * n < 790000) (fun s n => runN n s))) : GF P w K mg base "_law_do" ["_law_made_here", "_law_act"] 12 (sp_do CH CP CM) := by
 refine GF.mk R sc_law_do (by wtm_at "2") (fun vs H Q E h => ?_) (fun f cdv A outer s H vs Q E hr h => ?_)
 ·obtain ⟨A, s, M, r, c, rfl, _⟩ := h; rfl
 ·obtain ⟨A, s, M, r, c, rfl, D, hB, hM, hr1, hc, k⟩ := h
  have n1 : ¬ ("key" : Str) = "start" := by decide +kernel
  have n2 : ¬ ("load" : Str) = "start" := by decide +kernel
  have n3 : ¬ ("load" : Str) = "key" := by decide +kernel
  have n4 : ¬ ("switches" : Str) = "start" := by decide +kernel
  have n5 : ¬ ("switches" : Str) = "key" := by decide +kernel
  have n6 : ¬ ("switches" : Str) = "load" := by decide +kernel
  have n7 : ¬ ("run" : Str) = "start" := by decide +kernel
  have n8 : ¬ ("run" : Str) = "key" := by decide +kernel
  have n9 : ¬ ("run" : Str) = "load" := by decide +kernel
  have n0 : ¬ ("run" : Str) = "switches" := by decide +kernel
  refine ⟨_, (@pss_one _ _ _ (@ps_if _ _ _ _ _ _ _ _ (@pt_cmpR _ _ _ _ _ _ _ _ op_eq (@pe_ix _ _ _ _ _ _ _ (ix_tupK (K := K) rfl) (pv 1) pe_int (fun _ _ => rfl)) pe_str (nomark _)) (@pss_one _ _ _ (@ps_expr _ _ _ _ (@pe_gcallN _ _ _ _ _ _ _ _ _ _ G_start (hr.mono (by decide)) rfl (@pa_c _ _ _ _ _ (pv 0) (@pa_c _ _ _ _ _ (@pe_ix _ _ _ _ _ _ _ (ix_tupK (K := K) rfl) (pv 1) pe_int (fun _ _ => rfl)) (@pa_c _ _ _ _ _ (@pe_ix _ _ _ _ _ _ _ (ix_tupK (K := K) rfl) (pv 1) pe_int (fun _ _ => rfl)) pa_nil rfl) rfl) rfl) (by decide) rfl) rfl)) (@pss_one _ _ _ (@ps_if _ _ _ _ _ _ _ _ (@pt_cmpR _ _ _ _ _ _ _ _ op_eq (@pe_ix _ _ _ _ _ _ _ (ix_tupK (K := K) rfl) (pv 1) pe_int (fun _ _ => rfl)) pe_str (nomark _)) (@pss_one _ _ _ (@ps_expr _ _ _ _ (@pe_gcallN _ _ _ _ _ _ _ _ _ _ G_key (hr.mono (by decide)) rfl (@pa_c _ _ _ _ _ (pv 0) (@pa_c _ _ _ _ _ (@pe_ix _ _ _ _ _ _ _ (ix_tupK (K := K) rfl) (pv 1) pe_int (fun _ _ => rfl)) (@pa_c _ _ _ _ _ (@pe_ix _ _ _ _ _ _ _ (ix_tupK (K := K) rfl) (pv 1) pe_int (fun _ _ => rfl)) pa_nil rfl) rfl) rfl) (by decide) rfl) rfl)) (@pss_one _ _ _ (@ps_if _ _ _ _ _ _ _ _ (@pt_cmpR _ _ _ _ _ _ _ _ op_eq (@pe_ix _ _ _ _ _ _ _ (ix_tupK (K := K) rfl) (pv 1) pe_int (fun _ _ => rfl)) pe_str (nomark _)) (@pss_cons _ _ _ _ _ (@ps_set _ _ (2) _ _ _ _ sc_law_do.nd rfl (Or.inl rfl) (@pe_gcallN _ _ _ _ _ _ _ _ _ _ G_law_program (hr.mono (by decide)) rfl (@pa_c _ _ _ _ _ (@pe_ix _ _ _ _ _ _ _ (ix_tupK (K := K) rfl) (pv 1) pe_int (fun _ _ => rfl)) pa_nil rfl) (by decide) rfl) rfl (by first | exact .inl rfl | exact .inr rfl | assumption)) (@pss_cons _ _ _ _ _ (@ps_expr _ _ _ _ (@pe_gcallN _ _ _ _ _ _ _ _ _ _ G_load (hr.mono (by decide)) rfl (@pa_c _ _ _ _ _ (pv 0) (@pa_c _ _ _ _ _ (@pe_ix _ _ _ _ _ _ _ (ix_tupK (K := K) rfl) (pv 1) pe_int (fun _ _ => rfl)) (@pa_c _ _ _ _ _ (pv 2) pa_nil rfl) rfl) rfl) (by decide) rfl) rfl) (@pss_one _ _ _ (ps_asg pe_int (pg_sub (pv 2) pe_int set_list))))) (@pss_one _ _ _ (@ps_if _ _ _ _ _ _ _ _ (@pt_cmpR _ _ _ _ _ _ _ _ op_eq (@pe_ix _ _ _ _ _ _ _ (ix_tupK (K := K) rfl) (pv 1) pe_int (fun _ _ => rfl)) pe_str (nomark _)) (@pss_one _ _ _ (@ps_expr _ _ _ _ (@pe_gcallN _ _ _ _ _ _ _ _ _ _ G_set_switches (hr.mono (by decide)) rfl (@pa_c _ _ _ _ _ (pv 0) (@pa_c _ _ _ _ _ (@pe_ix _ _ _ _ _ _ _ (ix_tupK (K := K) rfl) (pv 1) pe_int (fun _ _ => rfl)) (@pa_c _ _ _ _ _ (@pe_ix _ _ _ _ _ _ _ (ix_tupK (K := K) rfl) (pv 1) pe_int (fun _ _ => rfl)) pa_nil rfl) rfl) rfl) (by decide) rfl) rfl)) (@pss_one _ _ _ (@ps_expr _ _ _ _ (@pe_gcallN _ _ _ _ _ _ _ _ _ _ G_run (hr.mono (by decide)) rfl (@pa_c _ _ _ _ _ (pv 0) (@pa_c _ _ _ _ _ (@pe_ix _ _ _ _ _ _ _ (ix_tupK (K := K) rfl) (pv 1) pe_int (fun _ _ => rfl)) pa_nil rfl) rfl) (by decide) rfl) rfl)))))))))), ?_⟩
  wtm_at "vv"
  have hT := SqT.of (K := K) hr1
  cases c with
  | start u p =>
   refine ixTS (i := 0) hT rfl ?_
   wtm_at "vv"
   refine ixTS (i := 1) hT rfl ?_
   wtm_at "vv"
   refine ixTS (i := 2) hT rfl ?_
   wtm_at "vv"
   exact ⟨A, s, M, u, p, rfl, D, hB, by omega, hc.1, hc.2, fun H1 D1 F1 => k A H1 D1 (.of F1)⟩
  | key u l =>
   refine ixTS (i := 0) hT rfl ?_
   wtm_at "vv"
   refine iteD (fun z => (n1 z).elim) (fun _ => ?_)
   wtm_at "vv"
   refine ixTS (i := 0) hT rfl ?_
   wtm_at "vv"
   refine ixTS (i := 1) hT rfl ?_
   wtm_at "vv"
   refine ixTS (i := 2) hT rfl ?_
   wtm_at "vv"
   exact ⟨A, s, M, u, l, rfl, D, hB, by omega, hc.1, hc.2, fun H1 D1 F1 => k A H1 D1 (.of F1)⟩
  | load u x =>
   refine ixTS (i := 0) hT rfl ?_
   wtm_at "vv"
   refine iteD (fun z => (n2 z).elim) (fun _ => ?_)
   wtm_at "vv"
   refine ixTS (i := 0) hT rfl ?_
   wtm_at "vv"
   refine iteD (fun z => (n3 z).elim) (fun _ => ?_)
   wtm_at "vv"
   refine ixTS (i := 0) hT rfl ?_
   wtm_at "vv"
   refine ixTS (i := 2) hT rfl ?_
   wtm_at "vv"
   refine ⟨x, rfl, fun l H1 nl hl s1 => ?_⟩
   have D1 := D.keep s1
   have nlA : l ∉ footH A := D.fresh nl
   wtm_at "vv"
   refine ixTS (i := 1) (SqT.of (s1 _ _ hr1)) rfl ?_
   wtm_at "vv"
   refine ⟨A, s, u, l, _, rfl, D1, hc, SqL.of hl, fun A' H2 eA D2 F2 n2 => ?_⟩
   have G2 : HFr A A' H1 H2 := ⟨eA, F2, n2⟩
   obtain ⟨hl2, nl2⟩ := G2.safe hl nlA
   have hcl := progL_len x
   wtm_at "vv"
   refine Sx.setN hl2 (by decide) (by omega) ?_
   have G02 : HFr A A' H H2 := (HFr.ofS s1).trans G2
   refine k A' _ (D2.other hl2 nl2) ⟨eA, fun b o e n => ?_, G02.n⟩
   rw [upd_ne (ne_of_none e nl)]
   exact G02.f b o e n
  | sw u w =>
   refine ixTS (i := 0) hT rfl ?_
   wtm_at "vv"
   refine iteD (fun z => (n4 z).elim) (fun _ => ?_)
   wtm_at "vv"
   refine ixTS (i := 0) hT rfl ?_
   wtm_at "vv"
   refine iteD (fun z => (n5 z).elim) (fun _ => ?_)
   wtm_at "vv"
   refine ixTS (i := 0) hT rfl ?_
   wtm_at "vv"
   refine iteD (fun z => (n6 z).elim) (fun _ => ?_)
   wtm_at "vv"
   refine ixTS (i := 0) hT rfl ?_
   wtm_at "vv"
   refine ixTS (i := 1) hT rfl ?_
   wtm_at "vv"
   refine ixTS (i := 2) hT rfl ?_
   wtm_at "vv"
   exact ⟨A, s, u, w, rfl, D, hc.1, fun H1 D1 F1 => k A H1 D1 (.of F1)⟩
  | run m =>
   have hm : m ≤ 8 := hc
   refine ixTS (i := 0) hT rfl ?_
   wtm_at "vv"
   refine iteD (fun z => (n7 z).elim) (fun _ => ?_)
   wtm_at "vv"
   refine ixTS (i := 0) hT rfl ?_
   wtm_at "vv"
   refine iteD (fun z => (n8 z).elim) (fun _ => ?_)
   wtm_at "vv"
   refine ixTS (i := 0) hT rfl ?_
   wtm_at "vv"
   refine iteD (fun z => (n9 z).elim) (fun _ => ?_)
   wtm_at "vv"
   refine ixTS (i := 0) hT rfl ?_
   wtm_at "vv"
   refine iteD (fun z => (n0 z).elim) (fun _ => ?_)
   wtm_at "vv"
   refine ixTS (i := 2) hT rfl ?_
   wtm_at "vv"
   exact ⟨A, s, m, rfl, D, ⟨M, hB, by omega⟩, fun H1 D1 F1 => k A H1 D1 (.of F1)⟩
end
end Lh
namespace Lh
open PySem L2 Mir Pr Tx Lw Dm Us Du Pp Hs
theorem first_succ (ns : List Int) (i : Nat) : firstL ns (i + 1) = firstL ns i ++ (if 0 < mixV (ns.getD (4 + i) 0) 9901 5 then [.start i 0] else []) := by
 unfold firstL
 rw [List.range_succ, List.filter_append, List.map_append]
 by_cases g : 0 < mixV (ns.getD (4 + i) 0) 9901 5
 ·rw [if_pos g, List.filter_cons_of_pos (by simpa using g)]; rfl
 ·rw [if_neg g, List.filter_cons_of_neg (by simpa using g)]; rfl
section
variable {P : Program} {w : World} {K : PySem.W.Frag} {mg : Str → Option Value} {base : Heap} {CH CP CM : Addr}
theorem ok_acts (R : Raw K mg "_law_acts" s_law_acts) (T : TxtL K mg) (G_law_cell : GF P w K mg base "_law_cell" ["_law_script", "_law_k"] 1 (sp_cell K)) (G_law_mix : GF P w K mg base "_law_mix" ["_law_cell_here", "_law_prime", "_law_many"] 1 sp_mix) : GF P w K mg base "_law_acts" ["_law_hall_here", "_law_script"] 2 (sp_acts K) := by
 refine GF.mk R sc_law_acts (by wtm_at "2") (fun vs H Q E h => ?_) (fun f cdv A outer s H vs Q E hr h => ?_)
 ·obtain ⟨t, a, n, r, q, b, ns, rfl, _⟩ := h; rfl
 ·obtain ⟨t, a, n, r, q, b, ns, rfl, ht, hS, hn1, hn8, k⟩ := h
  refine ⟨_, (@pss_cons _ _ _ _ _ (@ps_setLC _ _ _ _ _ _ _ _ _ _ _ _ ([("_law_script" , 1)]) (2) _ _ _ sc_law_acts.nd rfl (Or.inl rfl) rfl rfl (@pi_range1 _ _ _ _ _ _ rfl T.range_ (@pa_c _ _ _ _ _ (@pe_ix _ _ _ _ _ _ _ (ix_tupK (K := K) rfl) (pv 0) pe_int (fun _ _ => rfl)) pa_nil rfl) rfl) ⟨rfl, rfl, by decide +kernel, by decide +kernel, rfl, by decide +kernel, ⟨rfl, trivial⟩ , rfl, ⟨⟨rfl, .inl rfl, .inl rfl, _, rfl, rfl⟩ , trivial⟩⟩ (fun _ _ _ _ => (@pts_one _ _ _ (@pt_cmpR _ _ _ _ _ _ _ _ op_gt (@pe_gcallN _ _ _ _ _ _ _ _ _ _ G_law_mix (hr.mono (by decide)) rfl (@pa_c _ _ _ _ _ (@pe_gcallN _ _ _ _ _ _ _ _ _ _ G_law_cell (hr.mono (by decide)) rfl (@pa_c _ _ _ _ _ (pv 1) (@pa_c _ _ _ _ _ (@pe_op _ _ _ _ _ _ _ _ op_add pe_int (pv 0)) pa_nil rfl) rfl) (by decide) rfl) (@pa_c _ _ _ _ _ pe_int (@pa_c _ _ _ _ _ pe_int pa_nil rfl) rfl) rfl) (by decide) rfl) pe_int (nomark _)))) (fun _ _ _ _ => (@pe_tup _ _ _ _ _ (@pa_c _ _ _ _ _ pe_str (@pa_c _ _ _ _ _ (pv 0) (@pa_c _ _ _ _ _ pe_int pa_nil rfl) rfl) rfl))) (fun _ => rfl) (by first | exact .inl rfl | exact .inr rfl | assumption)) (@pss_cons _ _ _ _ _ (@ps_for _ _ _ _ _ _ _ _ PassesOwn.never rfl (@pi_listK _ (K) _ _ _ rfl (@pe_slice _ _ _ _ _ _ _ _ _ _ (sl_listK (K := K) rfl) (pv 1) (@po_some _ _ _ pe_int) (@po_some _ _ _ pe_int))) (@pg_name _ _ (3) _ sc_law_acts.nd rfl (Or.inl rfl) (by first | exact .inl rfl | exact .inr rfl | assumption)) (@pss_cons _ _ _ _ _ (@ps_set _ _ (4) _ _ _ _ sc_law_acts.nd rfl (Or.inl rfl) (@pe_gcallN _ _ _ _ _ _ _ _ _ _ G_law_mix (hr.mono (by decide)) rfl (@pa_c _ _ _ _ _ (pv 3) (@pa_c _ _ _ _ _ pe_int (@pa_c _ _ _ _ _ (@pe_ix _ _ _ _ _ _ _ (ix_tupK (K := K) rfl) (pv 0) pe_int (fun _ _ => rfl)) pa_nil rfl) rfl) rfl) (by decide) rfl) rfl (by first | exact .inl rfl | exact .inr rfl | assumption)) (@pss_cons _ _ _ _ _ (@ps_set _ _ (5) _ _ _ _ sc_law_acts.nd rfl (Or.inl rfl) (@pe_gcallN _ _ _ _ _ _ _ _ _ _ G_law_mix (hr.mono (by decide)) rfl (@pa_c _ _ _ _ _ (pv 3) (@pa_c _ _ _ _ _ pe_int (@pa_c _ _ _ _ _ pe_int pa_nil rfl) rfl) rfl) (by decide) rfl) rfl (by first | exact .inl rfl | exact .inr rfl | assumption)) (@pss_one _ _ _ (@ps_if _ _ _ _ _ _ _ _ (@pt_cmpR _ _ _ _ _ _ _ _ op_eq (pv 5) pe_int (nomark _)) (@pss_one _ _ _ (@ps_expr _ _ _ _ (pe_bm PySem.F.plainAttrs_list PySem.F.slot_list_append PySem.F.type_list_append mt_append (pv 2) (@pa_c _ _ _ _ _ (@pe_tup _ _ _ _ _ (@pa_c _ _ _ _ _ pe_str (@pa_c _ _ _ _ _ (pv 4) (@pa_c _ _ _ _ _ (@pe_gcallN _ _ _ _ _ _ _ _ _ _ G_law_mix (hr.mono (by decide)) rfl (@pa_c _ _ _ _ _ (pv 3) (@pa_c _ _ _ _ _ pe_int (@pa_c _ _ _ _ _ pe_int pa_nil rfl) rfl) rfl) (by decide) rfl) pa_nil rfl) rfl) rfl)) pa_nil rfl)) rfl)) (@pss_one _ _ _ (@ps_if _ _ _ _ _ _ _ _ (@pt_cmpR _ _ _ _ _ _ _ _ op_gt (pv 5) pe_int (nomark _)) (@pss_one _ _ _ (@ps_expr _ _ _ _ (pe_bm PySem.F.plainAttrs_list PySem.F.slot_list_append PySem.F.type_list_append mt_append (pv 2) (@pa_c _ _ _ _ _ (@pe_tup _ _ _ _ _ (@pa_c _ _ _ _ _ (@pe_ix _ _ _ _ _ _ _ (ix_listK (K := K) rfl) (@pe_lst _ _ _ _ (@pa_c _ _ _ _ _ pe_str (@pa_c _ _ _ _ _ pe_str pa_nil rfl) rfl)) (@pe_op _ _ _ _ _ _ _ _ op_sub (pv 5) pe_int) (fun _ _ => rfl)) (@pa_c _ _ _ _ _ (pv 4) (@pa_c _ _ _ _ _ (@pe_gcallN _ _ _ _ _ _ _ _ _ _ G_law_mix (hr.mono (by decide)) rfl (@pa_c _ _ _ _ _ (pv 3) (@pa_c _ _ _ _ _ pe_int (@pa_c _ _ _ _ _ pe_int pa_nil rfl) rfl) rfl) (by decide) rfl) pa_nil rfl) rfl) rfl)) pa_nil rfl)) rfl)) (@pss_one _ _ _ (@ps_if _ _ _ _ _ _ _ _ (@pt_cmpR _ _ _ _ _ _ _ _ op_lt (pv 5) pe_int (nomark _)) (@pss_one _ _ _ (@ps_expr _ _ _ _ (pe_bm PySem.F.plainAttrs_list PySem.F.slot_list_append PySem.F.type_list_append mt_append (pv 2) (@pa_c _ _ _ _ _ (@pe_tup _ _ _ _ _ (@pa_c _ _ _ _ _ pe_str (@pa_c _ _ _ _ _ (pv 4) (@pa_c _ _ _ _ _ (@pe_gcallN _ _ _ _ _ _ _ _ _ _ G_law_mix (hr.mono (by decide)) rfl (@pa_c _ _ _ _ _ (pv 3) (@pa_c _ _ _ _ _ pe_int (@pa_c _ _ _ _ _ pe_int pa_nil rfl) rfl) rfl) (by decide) rfl) pa_nil rfl) rfl) rfl)) pa_nil rfl)) rfl)) (@pss_one _ _ _ (@ps_expr _ _ _ _ (pe_bm PySem.F.plainAttrs_list PySem.F.slot_list_append PySem.F.type_list_append mt_append (pv 2) (@pa_c _ _ _ _ _ (@pe_tup _ _ _ _ _ (@pa_c _ _ _ _ _ pe_str (@pa_c _ _ _ _ _ pe_int (@pa_c _ _ _ _ _ (@pe_gcallN _ _ _ _ _ _ _ _ _ _ G_law_mix (hr.mono (by decide)) rfl (@pa_c _ _ _ _ _ (pv 3) (@pa_c _ _ _ _ _ pe_int (@pa_c _ _ _ _ _ pe_int pa_nil rfl) rfl) rfl) (by decide) rfl) pa_nil rfl) rfl) rfl)) pa_nil rfl)) rfl)))))))))) (fun _ => rfl)) (@pss_one _ _ _ (@ps_ret _ _ _ _ (pv 2))))), ?_⟩
  wtm_at "vv"
  refine ixTS (i := 0) (SqT.of ht) rfl ?_
  wtm_at "vv"
  refine ⟨_, rfl, by omega, by omega, lc_rangeF (lo := 0) (n := n) (fun i acc H' => Same H H' ∧ ∃ rs : List Addr, acc = rs.map V.ref ∧ rs.length = (firstL ns i).length ∧ ∀ (j : Nat) r c, rs[j]? = some r → (firstL ns i)[j]? = some c → H' r = some (.tup (actV c))) (by rw [sizeLine_eq]; omega) ⟨Same.refl _, [], rfl, rfl, by simp⟩ (fun i acc H' h => ?_) (fun i acc H' hi h QT qt qf => ?_) (fun acc H1 h l nl => ?_)⟩
  ·obtain ⟨_, rs, rfl, hl, _⟩ := h
   rw [List.length_map, hl]
   exact first_len ns i
  ·obtain ⟨sm, rs, rfl, hl, hR⟩ := h
   have hS1 := sm.seq hS
   rw [Int.zero_add]
   wtm_at "vv"
   refine ⟨a, 4 + i, ns, by rw [Int.natCast_add]; rfl, hS1, ?_⟩
   wtm_at "vv"
   by_cases g : 0 < mixV (ns.getD (4 + i) 0) 9901 5
   ·rw [show decide (0 < ns.getD (4 + i) 0 * 48271 % 9901 % 5) = true from decide_eq_true g]
    refine qt H' fun Q' q' => ?_
    rw [Int.zero_add]
    wtm_at "vv"
    refine Sx.newT (by show 3 ≤ sizeLine; decide) fun p H2 np hp s2 => ?_
    refine q' _ _ ⟨sm.trans s2, rs ++ [p], by rw [List.map_append]; rfl, ?_, ?_⟩
    ·rw [first_succ, if_pos g, List.length_append, List.length_append, hl]; rfl
    ·rw [first_succ, if_pos g]
     exact app_get hl (fun j r c g1 g2 => s2 _ _ (hR j r c g1 g2)) hp
   ·rw [show decide (0 < ns.getD (4 + i) 0 * 48271 % 9901 % 5) = false from decide_eq_false g]
    refine qf H' ⟨sm, rs, rfl, ?_, ?_⟩
    ·rw [first_succ, if_neg g, List.append_nil]; exact hl
    ·rw [first_succ, if_neg g, List.append_nil]; exact hR
  obtain ⟨s1, rs, rfl, hrl, hR⟩ := h
  have nlH := s1.free nl
  have s2 : Same H1 (upd H1 l (.lst (rs.map V.ref))) := Same.newH nl
  have E2 : ActsAt (upd H1 l (.lst (rs.map V.ref))) l rs (firstL ns n) := ⟨upd_same, hrl, fun j r c g1 g2 => s2 _ _ (hR j r c g1 g2)⟩
  generalize upd H1 l (.lst (rs.map V.ref)) = H2 at s2 E2 ⊢
  have s02 := s1.trans s2
  have hS2 := s02.seq hS
  wtm_at "vv"
  refine Sx.slN hS2 fun z H3 nz hz s3 => ?_
  rw [show cutV (ns.map V.int) (some 12) (some 28) = ((ns.drop 12).take 16).map V.int from (cutMid _ 12 28).trans (by rw [List.map_take, List.map_drop])] at hz
  have evl : actsL n ns = firstL ns n ++ ((ns.drop 12).take 16).map (actOf n) := rfl
  have hxl : ((ns.drop 12).take 16).length ≤ 16 := by rw [List.length_take]; omega
  have hfl := first_len ns n
  generalize (ns.drop 12).take 16 = xs at evl hxl hz
  have E3 := E2.keep s3
  have s03 := s02.trans s3
  have nzl : l ≠ z := ne_of_none E2.1 nz
  refine ⟨z, rfl, ⟨_, SqL.of hz⟩, for_list (xs := xs.map V.int) (fun i σ' H' => ∃ v3 v4 v5 rs, σ' = [some (.ref t), some (.ref a), some (.ref l), v3, v4, v5] ∧ ActsAt H' l rs (firstL ns n ++ (xs.take i).map (actOf n)) ∧ H' z = some (.lst (xs.map V.int)) ∧ Same H H') ?_ ?_ ?_ ?_⟩
  ·exact ⟨_, _, _, rs, rfl, by rw [List.take_zero, List.map_nil, List.append_nil]; exact E3, hz, s03⟩
  ·rintro i _ H4 _ ⟨v3, v4, v5, rs, rfl, _, hz4, _⟩; exact SqL.of hz4
  ·rintro i v _ H4 hv ⟨v3, v4, v5, rs, rfl, E4, hz4, s4⟩
   rw [List.getElem?_map] at hv
   cases hx : xs[i]? with
   | none => rw [hx] at hv; cases hv
   | some x =>
    rw [hx] at hv
    cases hv
    have hi : i < xs.length := by
     rcases Nat.lt_or_ge i xs.length with h | h
     ·exact h
     ·rw [List.getElem?_eq_none h] at hx; cases hx
    have et : firstL ns n ++ (xs.take (i + 1)).map (actOf n) = (firstL ns n ++ (xs.take i).map (actOf n)) ++ [actOf n x] := by
     rw [List.take_succ, hx, Option.toList_some, List.map_append, List.append_assoc]
     rfl
    have hrl4 : rs.length ≤ 24 := by
     rw [E4.2.1, List.length_append, List.length_map, List.length_take]
     omega
    have hu := mixV_in (x := x) (p := 9887) (n := (n : Int)) (by omega)
    have hun : (((mixV x 9887 (n : Int)).toNat : Nat) : Int) = mixV x 9887 (n : Int) := Int.toNat_of_nonneg hu.1
    have ht4 := s4 _ _ ht
    have fin : ∀ (c : Act) (q : Addr) (H5 : Hp) (v4' v5' : Option V), actOf n x = c → H5 q = some (.tup (actV c)) → Same H4 H5 → rAppend (.ref l) [.ref q] H5 (fun _ H1 => ∃ v3 v4 v5 rs, [some (V.ref t), some (.ref a), some (.ref l), some (.int x), v4', v5'] = [some (V.ref t), some (.ref a), some (.ref l), v3, v4, v5] ∧ ActsAt H1 l rs (firstL ns n ++ (xs.take (i + 1)).map (actOf n)) ∧ H1 z = some (.lst (xs.map V.int)) ∧ Same H H1) := by
     intro c q H5 v4' v5' he hq s5
     have E5 := E4.keep s5
     refine Sx.app E5.1 (by rw [List.length_map]; omega) ⟨_, _, _, rs ++ [q], rfl, ?_, ?_, (s4.trans s5).upd nlH⟩
     ·rw [et, he]
      have := E5.app hq
      rw [List.map_append] at this
      exact this
     ·rw [upd_ne nzl.symm]; exact s5 _ _ hz4
    wtm_at "vv"
    refine ixTS (i := 0) (SqT.of ht4) rfl ?_
    wtm_at "vv"
    refine Lw.c_mix (by decide) (by omega) ?_
    rw [show x * 48271 % 9887 % ((n : Nat) : Int) = mixV x 9887 (n : Int) from rfl, ← hun]
    wtm_at "vv"
    refine iteD (fun g => ?_) (fun g => ?_)
    ·have he : actOf n x = .start (mixV x 9887 (n : Int)).toNat (mixV x 9871 64) := by unfold actOf; rw [if_pos (show mixV x 9883 8 = 0 from g)]
     wtm_at "vv"
     refine ⟨Sx.tyL E4.1, ?_⟩
     wtm_at "vv"
     refine Sx.newT (by show 3 ≤ sizeLine; decide) fun q H5 nq hq s5 => ?_
     wtm_at "vv"
     exact fin _ q H5 _ _ he hq s5
    wtm_at "vv"
    refine iteD (fun g2 => ?_) (fun g2 => ?_)
    ·have g2' : 5 < mixV x 9883 8 := g2
     have ht8 := mixV_in (x := x) (p := 9883) (n := 8) (by decide)
     wtm_at "vv"
     refine ⟨Sx.tyL E4.1, ?_⟩
     wtm_at "vv"
     refine Sx.newL (by show 2 ≤ sizeLine; decide) fun ll H5 nll hll s5 => ?_
     wtm_at "vv"
     by_cases g6 : mixV x 9883 8 = 6
     ·have he : actOf n x = .load (mixV x 9887 (n : Int)).toNat (mixV x 9853 1024) := by unfold actOf; rw [if_neg (show ¬ mixV x 9883 8 = 0 from g), if_pos g2', if_pos g6]
      refine Sx.ixL hll (v := .str "load") (by show atI [V.str "load", .str "switches"] (mixV x 9883 8 - 6) = _; rw [g6]; rfl) ?_
      wtm_at "vv"
      refine Sx.newT (by show 3 ≤ sizeLine; decide) fun q H6 nq hq s6 => ?_
      wtm_at "vv"
      exact fin _ q H6 _ _ he hq (s5.trans s6)
     ·have he : actOf n x = .sw (mixV x 9887 (n : Int)).toNat (mixV x 9853 1024) := by unfold actOf; rw [if_neg (show ¬ mixV x 9883 8 = 0 from g), if_pos g2', if_neg g6]
      refine Sx.ixL hll (v := .str "switches") (by show atI [V.str "load", .str "switches"] (mixV x 9883 8 - 6) = _; rw [show mixV x 9883 8 - 6 = 1 by omega]; rfl) ?_
      wtm_at "vv"
      refine Sx.newT (by show 3 ≤ sizeLine; decide) fun q H6 nq hq s6 => ?_
      wtm_at "vv"
      exact fin _ q H6 _ _ he hq (s5.trans s6)
    have g2' : ¬ 5 < mixV x 9883 8 := g2
    wtm_at "vv"
    refine iteD (fun g3 => ?_) (fun g3 => ?_)
    ·have he : actOf n x = .key (mixV x 9887 (n : Int)).toNat (mixV x 9859 256) := by unfold actOf; rw [if_neg (show ¬ mixV x 9883 8 = 0 from g), if_neg g2', if_pos (show mixV x 9883 8 < 3 from g3)]
     wtm_at "vv"
     refine ⟨Sx.tyL E4.1, ?_⟩
     wtm_at "vv"
     refine Sx.newT (by show 3 ≤ sizeLine; decide) fun q H5 nq hq s5 => ?_
     wtm_at "vv"
     exact fin _ q H5 _ _ he hq s5
    ·have he : actOf n x = .run (mixV x 9857 9).toNat := by unfold actOf; rw [if_neg (show ¬ mixV x 9883 8 = 0 from g), if_neg g2', if_neg (show ¬ mixV x 9883 8 < 3 from g3)]
     have hm := mixV_in (x := x) (p := 9857) (n := 9) (by decide)
     wtm_at "vv"
     refine ⟨Sx.tyL E4.1, ?_⟩
     wtm_at "vv"
     refine Sx.newT (by show 3 ≤ sizeLine; decide) fun q H5 nq hq s5 => ?_
     have hq' : H5 q = some (.tup (actV (.run (mixV x 9857 9).toNat))) := by
      rw [hq]
      show some (HO.tup [V.str "run", .int 0, .int (mixV x 9857 9)]) = some (HO.tup [V.str "run", .int 0, .int ((mixV x 9857 9).toNat : Int)])
      rw [Int.toNat_of_nonneg hm.1]
     wtm_at "vv"
     exact fin _ q H5 _ _ he hq' s5
  ·rintro _ H4 ⟨v3, v4, v5, rs, rfl, E4, hz4, s4⟩
   wtm_at "vv"
   rw [List.length_map, List.take_length, ← evl] at E4
   exact k l rs H4 nlH E4 s4
end
end Lh
namespace Lh
open PySem L2 Mir Pr Tx Lw Dm Us Du Pp Hs PySem.Spec
def uD : Option Nat → PyData
 | none => .none
 | some n => .int (n : Int)
def rowI (r : List Nat) : List Int := r.map fun (n : Nat) => (n : Int)
theorem rowV_eq (r : List Nat) : rowV r = (rowI r).map V.int := by unfold rowV rowI; rw [List.map_map]; rfl
theorem drd_u {K : PySem.W.Frag} {H : Hp} (ru : Option Nat) : DRd K H (vU ru) (uD ru) := by cases ru <;> constructor
theorem HAt.far {CH CP CM : Addr} {H H' : Hp} {A A' B : HAd} {s t : Hse} (hB : HAt CH CP CM H B t) (F : HFr A A' H H') (hA : HAt CH CP CM H A s) (dis : ∀ x ∈ footH B, x ∉ footH A) : HAt CH CP CM H' B t :=
 hB.move (fun x hx o e => F.f x o e (dis x hx)) (fun x xs e => F.f x _ e fun z => hA.kind z xs e)
theorem dis_of {CH CP CM : Addr} {H H' : Hp} {A A' B : HAd} {t : Hse} (hB : HAt CH CP CM H B t) (F : HFr A A' H H') (dis : ∀ x ∈ footH B, x ∉ footH A) : ∀ x ∈ footH B, x ∉ footH A' := fun x hx z => (F.n x z).elim (dis x hx) fun y => by
 obtain ⟨o, e⟩ := hB.there hx
 rw [y] at e; cases e
mutual
theorem drd_keep {K : PySem.W.Frag} {H H' : Hp} (s : Same H H') : ∀ {x : V} {d : PyData}, DRd K H x d → DRd K H' x d
 | _, _, .non => .non
 | _, _, .bl b => .bl b
 | _, _, .int i => .int i
 | _, _, .str x => .str x
 | _, _, .lst h r => .lst (s.seq h) (drds_keep s r)
 | _, _, .tup h r => .tup (s.seqT h) (drds_keep s r)
theorem drds_keep {K : PySem.W.Frag} {H H' : Hp} (s : Same H H') : ∀ {xs : List V} {ds : List PyData}, DRds K H xs ds → DRds K H' xs ds
 | _, _, .nil => .nil
 | _, _, .cons h r => .cons (drd_keep s h) (drds_keep s r)
end
theorem drds_app {K : PySem.W.Frag} {H : Hp} {x : V} {d : PyData} (h : DRd K H x d) : ∀ {xs : List V} {ds : List PyData}, DRds K H xs ds → DRds K H (xs ++ [x]) (ds ++ [d])
 | _, _, .nil => .cons h .nil
 | _, _, .cons h1 r => .cons h1 (drds_app h r)
theorem drds_len {K : PySem.W.Frag} {H : Hp} : ∀ {xs : List V} {ds : List PyData}, DRds K H xs ds → xs.length = ds.length
 | _, _, .nil => rfl
 | _, _, .cons _ r => congrArg (· + 1) (drds_len r)
theorem pic_lay (u : Usr) : PyData.canLay0 (picD u) = true := (Bool.and_eq_true_iff.mp (pic_shaped u)).1
theorem pic_dep (u : Usr) : PyData.depth (picD u) ≤ 3 := by
 have hb := dep_blk u.blk
 show max (PyData.depthAll (u.m.cells.map PyData.int) + 1) (max 0 (max 0 (max 0 (max (PyData.depthAll (u.inb.map PyData.int) + 1) (max (PyData.depthAll (u.outb.map PyData.int) + 1) (max (PyData.depthAll (u.pap.map PyData.int) + 1) (max (PyData.depthAll (u.blk.map intsD) + 1) (max 0 (max 0 (max 0 (max 0 (max 0 0)))))))))))) + 1 ≤ 3
 rw [dep_ints, dep_ints, dep_ints, dep_ints]
 omega
end Lh
namespace Lw
open PySem L2 Mir Pr Tx
section
variable {P : Program} {w : World} {K : PySem.W.Frag} {mg : Str → Option Value} {base : Heap} {C : Addr}
theorem ok_whole (R : Raw K mg "_law_whole" s_law_whole) (T : TxtL K mg) : GF P w K mg base "_law_whole" ["_law_found"] 1 sp_whole := by
 refine GF.mk R sc_law_whole (by wtm_at "1") (fun vs H Q E h => ?_) (fun f cdv A outer s H vs Q E hr h => ?_)
 ·obtain ⟨x, rfl, _⟩ := h; rfl
 ·obtain ⟨x, rfl, q⟩ := h
  refine ⟨_, (pss_one (ps_ret (pe_and (pe_callB call_isinst (by rfl) T.isinstance_ bo_isinstance (pa_cons (pv 0) (pa_cons (pe_bltn (v := .ty "int") rfl T.int_ bo_int rfl) pa_nil))) (pe_one (pe_not (pe_callB call_isinst (by rfl) T.isinstance_ bo_isinstance (pa_cons (pv 0) (pa_cons (pe_bltn (v := .ty "bool") rfl T.bool_ bo_bool rfl) pa_nil)))))))), ?_⟩
  refine ⟨_, rfl, _, _, _, _, rfl, TyOf.int x, T.kii, _, rfl, iteT ?_⟩
  exact ⟨_, rfl, _, _, _, _, rfl, TyOf.int x, T.kib, _, rfl, q⟩
end
end Lw
namespace Hs
open PySem L2 Mir Pr Tx Lw Dm Us Du Pp PySem.Spec
structure SvA where
 t : Addr
 tp : Addr
 td : Addr
 tr : Addr
 tw : Addr
 ps : List Addr
 ds : List Addr
def svV (B : SvA) (s : Hse) : List V := [.ref B.tp, .ref B.td, .ref B.tr, .int s.quantum, .int s.beat, vU s.runs, .ref B.tw, .int s.steps, .int s.idle, .int s.ticks, .int s.swaps, .int s.turn, .int s.left]
def EvsT (H : Hp) (t : Addr) (rs : List Addr) (evs : List Ev) : Prop := H t = some (.tup (rs.map V.ref)) ∧ rs.length = evs.length ∧ ∀ (i : Nat) r e, rs[i]? = some r → evs[i]? = some e → H r = some (.tup (evV e))
structure SavAt (K : PySem.W.Frag) (H : Hp) (B : SvA) (s : Hse) : Prop where
 o : H B.t = some (.tup (svV B s))
 p : H B.tp = some (.tup (B.ps.map V.ref))
 pl : B.ps.length = s.us.length
 pc : ∀ (i : Nat) q u, B.ps[i]? = some q → s.us[i]? = some u → ∃ tc ti to_ tp tb tbs, PicAt K H q tc ti to_ tp tb tbs u
 d : H B.td = some (.tup (B.ds.map V.ref))
 dl : B.ds.length = s.di.length
 dd : ∀ (i : Nat) q e, B.ds[i]? = some q → s.di[i]? = some e → ∃ rs, EvsT H q rs e
 r : H B.tr = some (.tup (s.rooms.map vU))
 w : H B.tw = some (.tup (rowV s.row))
theorem SavAt.move {K : PySem.W.Frag} {H H' : Hp} {B : SvA} {s : Hse} (h : SavAt K H B s) (t : ∀ x xs, H x = some (.tup xs) → H' x = some (.tup xs)) : SavAt K H' B s :=
 ⟨t _ _ h.o, t _ _ h.p, h.pl, fun i q u e1 e2 => by
   obtain ⟨tc, ti, to_, tp, tb, tbs, p⟩ := h.pc i q u e1 e2
   exact ⟨tc, ti, to_, tp, tb, tbs, ⟨t _ _ p.all, t _ _ p.cel, t _ _ p.inb, t _ _ p.out, t _ _ p.pap, t _ _ p.blk, p.bln, fun i b w h1 h2 => t _ _ (p.bls i b w h1 h2)⟩⟩,
  t _ _ h.d, h.dl, fun i q e e1 e2 => by
   obtain ⟨rs, E⟩ := h.dd i q e e1 e2
   exact ⟨rs, t _ _ E.1, E.2.1, fun j r ev g1 g2 => t _ _ (E.2.2 j r ev g1 g2)⟩, t _ _ h.r, t _ _ h.w⟩
theorem SavAt.keep {K : PySem.W.Frag} {H H' : Hp} {B : SvA} {s : Hse} (h : SavAt K H B s) (sm : Same H H') : SavAt K H' B s := h.move fun _ _ e => sm _ _ e
theorem SavAt.far {K : PySem.W.Frag} {H H' : Hp} {B : SvA} {s : Hse} {G : List Addr} (h : SavAt K H B s) (F : FrL H H' G) (nt : ∀ x ∈ G, ∀ xs, H x ≠ some (.tup xs)) : SavAt K H' B s := h.move fun _ xs e => F _ _ e fun z => nt _ z xs e
theorem get_lt {α : Type} {l : List α} {i : Nat} {x : α} (e : l[i]? = some x) : i < l.length := (List.getElem?_eq_some_iff.mp e).1
theorem snoc_at {α : Type} {l : List α} {b x : α} {j : Nat} (e : (l ++ [b])[j]? = some x) : (l[j]? = some x ∧ j < l.length) ∨ (j = l.length ∧ x = b) := by
 rcases Nat.lt_or_ge j l.length with z | z
 ·rw [List.getElem?_append_left z] at e
  exact .inl ⟨e, z⟩
 ·rw [List.getElem?_append_right z] at e
  rcases Nat.lt_or_ge (j - l.length) 1 with z2 | z2
  ·have : j - l.length = 0 := by omega
   rw [this] at e
   cases e
   exact .inr ⟨by omega, rfl⟩
  ·rw [List.getElem?_eq_none (by simpa using z2)] at e; cases e
theorem pf_people (A : HAd) (s : Hse) (y : Addr) (ps : List PAd) : putF "people" (.ref y) (fldsH A s) = fldsH { A with lp := y, ps := ps } s := by
 unfold fldsH; rw [putF_hit]
theorem pf_diaries (A : HAd) (s : Hse) (y : Addr) (ds : List Addr) : putF "diaries" (.ref y) (fldsH A s) = fldsH { A with ld := y, ds := ds } s := by
 unfold fldsH; wtm_at "p"
theorem pf_rooms (A : HAd) (s : Hse) (y : Addr) : putF "rooms" (.ref y) (fldsH A s) = fldsH { A with lr := y } s := by
 unfold fldsH; wtm_at "p"
theorem pf_row (A : HAd) (s : Hse) (y : Addr) : putF "row" (.ref y) (fldsH A s) = fldsH { A with lw := y } s := by
 unfold fldsH; wtm_at "p"
theorem w_obj {K : PySem.W.Frag} {H : Hp} {CH h dx : Addr} {f : Str} {v : V} {A A' : HAd} {s s' : Hse} {PH : Hp → Prop} (o : H h = some (.ins CH dx (fldsH A s))) (cl : Cls K CH) (na : NoAttr K CH f) (e : putF f v (fldsH A s) = fldsH A' s')
  (k : ∀ H', H' h = some (.ins CH dx (fldsH A' s')) → FrL H H' [h] → PH H') : ∃ a C dx fs, V.ref h = .ref a ∧ H a = some (.ins C dx fs) ∧ Cls K C ∧ NoAttr K C f ∧ fs.length < 1000 ∧ PH (upd H a (.ins C dx (putF f v fs))) :=
 ⟨h, CH, dx, _, rfl, o, cl, na, len_fldsH _ _, by rw [e]; exact k _ upd_same (FrL.upd mem1)⟩
def sp_saved (K : PySem.W.Frag) (CH CP CM : Addr) : Sp := fun vs H Q _ => ∃ A s M, vs = [.ref A.h] ∧ HAt CH CP CM H A s ∧ Bd s M ∧ M ≤ 800000 ∧ ∀ B H', SavAt K H' B s → Same H H' → Q (.ref B.t) H'
def sp_taken (K : PySem.W.Frag) (CH CP CM : Addr) : Sp := fun vs H Q _ => ∃ B s M, vs = [.ref B.t] ∧ SavAt K H B s ∧ Bd s M ∧ M ≤ 800000 ∧ ∀ A H', (∀ x ∈ footH A, H x = none) → HAt CH CP CM H' A s → Same H H' → Q (.ref A.h) H'
section
variable {P : Program} {w : World} {K : PySem.W.Frag} {mg : Str → Option Value} {base : Heap} {CH CP CM : Addr}
theorem ok_saved (R : Raw K mg "saved" s_saved) (T : TxtH K mg CH CP CM) (G_picture : GF P w K mg base "picture" ["person"] 1 (sp_picP K CP CM)) : GF P w K mg base "saved" ["house"] 2 (sp_saved K CH CP CM) := by
 refine GF.mk R sc_saved (by wtm_at "1") (fun vs H Q E h => ?_) (fun f cdv A outer s H vs Q E hr h => ?_)
 ·obtain ⟨A, s, M, rfl, _⟩ := h; rfl
 ·obtain ⟨A, s, M, rfl, D, hB, hM, k⟩ := h
  have hn8 := hB.n1
  refine ⟨_, (@pss_one _ _ _ (@ps_ret _ _ _ _ (@pe_tup _ _ _ _ _ (@pa_c _ _ _ _ _ (@pe_callTyN _ _ _ _ _ _ _ _ _ (call_tuple_ofN (K := K) rfl) (by rfl) T.tuple_ bo_tuple (@pa_c _ _ _ _ _ (@pe_lcomp _ _ _ _ _ _ _ _ _ _ _ _ ([]) rfl (@pi_listK _ (K) _ _ _ rfl (@pe_fldK _ (K) _ _ _ _ rfl (pv 0) rfl)) ⟨rfl, rfl, by decide +kernel, by decide +kernel, rfl, by decide +kernel, trivial, rfl, trivial⟩ (fun _ _ _ _ => pts_nil) (fun _ _ _ _ => (@pe_gcallN _ _ _ _ _ _ _ _ _ _ G_picture (hr.mono (by decide)) rfl (@pa_c _ _ _ _ _ (pv 0) pa_nil rfl) (by decide) rfl)) (fun _ => rfl)) pa_nil rfl) (by decide) (by decide) rfl) (@pa_c _ _ _ _ _ (@pe_callTyN _ _ _ _ _ _ _ _ _ (call_tuple_ofN (K := K) rfl) (by rfl) T.tuple_ bo_tuple (@pa_c _ _ _ _ _ (@pe_lcomp _ _ _ _ _ _ _ _ _ _ _ _ ([]) rfl (@pi_listK _ (K) _ _ _ rfl (@pe_fldK _ (K) _ _ _ _ rfl (pv 0) rfl)) ⟨rfl, rfl, by decide +kernel, by decide +kernel, rfl, by decide +kernel, trivial, rfl, trivial⟩ (fun _ _ _ _ => pts_nil) (fun _ _ _ _ => (@pe_callTyN _ _ _ _ _ _ _ _ _ (call_tuple_ofN (K := K) rfl) (by rfl) T.tuple_ bo_tuple (@pa_c _ _ _ _ _ (pv 0) pa_nil rfl) (by decide) (by decide) rfl)) (fun _ => rfl)) pa_nil rfl) (by decide) (by decide) rfl) (@pa_c _ _ _ _ _ (@pe_callTyN _ _ _ _ _ _ _ _ _ (call_tuple_ofN (K := K) rfl) (by rfl) T.tuple_ bo_tuple (@pa_c _ _ _ _ _ (@pe_fldK _ (K) _ _ _ _ rfl (pv 0) rfl) pa_nil rfl) (by decide) (by decide) rfl) (@pa_c _ _ _ _ _ (@pe_fldK _ (K) _ _ _ _ rfl (pv 0) rfl) (@pa_c _ _ _ _ _ (@pe_fldK _ (K) _ _ _ _ rfl (pv 0) rfl) (@pa_c _ _ _ _ _ (@pe_fldK _ (K) _ _ _ _ rfl (pv 0) rfl) (@pa_c _ _ _ _ _ (@pe_callTyN _ _ _ _ _ _ _ _ _ (call_tuple_ofN (K := K) rfl) (by rfl) T.tuple_ bo_tuple (@pa_c _ _ _ _ _ (@pe_fldK _ (K) _ _ _ _ rfl (pv 0) rfl) pa_nil rfl) (by decide) (by decide) rfl) (@pa_c _ _ _ _ _ (@pe_fldK _ (K) _ _ _ _ rfl (pv 0) rfl) (@pa_c _ _ _ _ _ (@pe_fldK _ (K) _ _ _ _ rfl (pv 0) rfl) (@pa_c _ _ _ _ _ (@pe_fldK _ (K) _ _ _ _ rfl (pv 0) rfl) (@pa_c _ _ _ _ _ (@pe_fldK _ (K) _ _ _ _ rfl (pv 0) rfl) (@pa_c _ _ _ _ _ (@pe_fldK _ (K) _ _ _ _ rfl (pv 0) rfl) (@pa_c _ _ _ _ _ (@pe_fldK _ (K) _ _ _ _ rfl (pv 0) rfl) pa_nil rfl) rfl) rfl) rfl) rfl) rfl) rfl) rfl) rfl) rfl) rfl) rfl) rfl)))), ?_⟩
  wtm_at "vv"
  refine ⟨A.lp, rfl, ⟨_, SqL.of D.lp⟩, lc_listI (xs := A.ps.map fun B => V.ref B.p) (fun i acc H' => Same H H' ∧ ∃ ps : List Addr, ps.length = i ∧ acc = ps.map V.ref ∧ ∀ (j : Nat) q u, ps[j]? = some q → s.us[j]? = some u → ∃ tc ti to_ tp tb tbs, PicAt K H' q tc ti to_ tp tb tbs u) (by rw [List.length_map, sizeLine_eq, D.ul]; omega) ⟨Same.refl _, [], rfl, rfl, by simp⟩ (fun i acc H' h => ?_) (fun i acc H' h => SqL.of (h.1 _ _ D.lp)) (fun i x acc H' hx h Q' q' => ?_) (fun acc H1 h l1 nl1 => ?_)⟩
  ·obtain ⟨_, ps, hl, rfl, _⟩ := h
   rw [List.length_map]; exact hl
  ·obtain ⟨sm, ps, hl, rfl, hp⟩ := h
   rw [List.getElem?_map] at hx
   cases hbx : A.ps[i]? with
   | none => rw [hbx] at hx; cases hx
   | some B =>
    rw [hbx] at hx
    cases hx
    have hi : i < s.us.length := by rw [← D.ul]; exact get_lt hbx
    have hu := List.getElem?_eq_getElem hi
    have DB := (D.us i B _ hbx hu).keep sm
    have hbl := (hB.ru _ (List.getElem_mem hi)).bl
    wtm_at "vv"
    refine ⟨B, _, rfl, DB, by omega, fun t tc ti to_ tp tb tbs H2 P2 s2 => ?_⟩
    refine q' _ _ ⟨sm.trans s2, ps ++ [t], by rw [List.length_append, hl]; rfl, by rw [List.map_append]; rfl, fun j q u g1 g2 => ?_⟩
    rcases snoc_at g1 with ⟨g1, _⟩ | ⟨e, rfl⟩
    ·obtain ⟨a1, a2, a3, a4, a5, a6, p⟩ := hp j q u g1 g2
     exact ⟨a1, a2, a3, a4, a5, a6, p.keep s2⟩
    ·rw [e, hl, hu] at g2
     cases g2
     exact ⟨_, _, _, _, _, _, P2⟩
  obtain ⟨s1, ps, hpl, rfl, hps⟩ := h
  rw [List.length_map] at hpl
  have s2 : Same H1 (upd H1 l1 (.lst (ps.map V.ref))) := Same.newH nl1
  have hl1 : (upd H1 l1 (.lst (ps.map V.ref))) l1 = some (.lst (ps.map V.ref)) := upd_same
  generalize upd H1 l1 (.lst (ps.map V.ref)) = H2 at s2 hl1 ⊢
  wtm_at "vv"
  refine Sx.tupOfL hl1 fun tp H3 ntp htp s3 => ?_
  have s03 := s1.trans (s2.trans s3)
  have D3 := D.keep s03
  wtm_at "vv"
  refine ⟨A.ld, rfl, ⟨_, SqL.of D3.ld⟩, lc_listI (xs := A.ds.map V.ref) (fun i acc H' => Same H3 H' ∧ ∃ ds : List Addr, ds.length = i ∧ acc = ds.map V.ref ∧ ∀ (j : Nat) q e, ds[j]? = some q → s.di[j]? = some e → ∃ rs, EvsT H' q rs e) (by rw [List.length_map, sizeLine_eq, D.dl, hB.n2]; omega) ⟨Same.refl _, [], rfl, rfl, by simp⟩ (fun i acc H' h => ?_) (fun i acc H' h => SqL.of (h.1 _ _ D3.ld)) (fun i x acc H' hx h Q' q' => ?_) (fun acc H4 h l4 nl4 => ?_)⟩
  ·obtain ⟨_, ds, hl, rfl, _⟩ := h
   rw [List.length_map]; exact hl
  ·obtain ⟨sm, ds, hl, rfl, hp⟩ := h
   rw [List.getElem?_map] at hx
   cases hbx : A.ds[i]? with
   | none => rw [hbx] at hx; cases hx
   | some d =>
    rw [hbx] at hx
    cases hx
    have hi : i < s.di.length := by rw [← D.dl]; exact get_lt hbx
    have hu := List.getElem?_eq_getElem hi
    obtain ⟨rs, E⟩ := D3.di i d _ hbx hu
    have E := E.keep sm
    wtm_at "vv"
    refine Sx.tupOfL E.1 fun t H5 nt ht s5 => ?_
    refine q' _ _ ⟨sm.trans s5, ds ++ [t], by rw [List.length_append, hl]; rfl, by rw [List.map_append]; rfl, fun j q u g1 g2 => ?_⟩
    rcases snoc_at g1 with ⟨g1, _⟩ | ⟨e, rfl⟩
    ·obtain ⟨rs2, E2⟩ := hp j q u g1 g2
     exact ⟨rs2, s5 _ _ E2.1, E2.2.1, fun k r ev y1 y2 => s5 _ _ (E2.2.2 k r ev y1 y2)⟩
    ·rw [e, hl, hu] at g2
     cases g2
     exact ⟨rs, ht, E.2.1, fun k r ev y1 y2 => s5 _ _ (E.2.2 k r ev y1 y2)⟩
  obtain ⟨s4, ds, hdl, rfl, hds⟩ := h
  rw [List.length_map] at hdl
  have s5 : Same H4 (upd H4 l4 (.lst (ds.map V.ref))) := Same.newH nl4
  have hl4 : (upd H4 l4 (.lst (ds.map V.ref))) l4 = some (.lst (ds.map V.ref)) := upd_same
  generalize upd H4 l4 (.lst (ds.map V.ref)) = H5 at s5 hl4 ⊢
  wtm_at "vv"
  refine Sx.tupOfL hl4 fun td H6 ntd htd s6 => ?_
  have s36 := s4.trans (s5.trans s6)
  have D6 := D3.keep s36
  wtm_at "vv"
  refine Sx.tupOfL D6.lr fun tr H7 ntr htr s7 => ?_
  have D7 := D6.keep s7
  wtm_at "vv"
  refine Sx.tupOfL D7.lw fun tw H8 ntw htw s8 => ?_
  have D8 := D7.keep s8
  wtm_at "vv"
  refine Sx.newT (by show 13 ≤ sizeLine; decide) fun t H9 nt ht s9 => ?_
  have s79 := s8.trans s9
  have s69 := s7.trans s79
  refine k ⟨t, tp, td, tr, tw, ps, ds⟩ H9 ⟨ht, (s36.trans s69) _ _ htp, by rw [hpl]; exact D.ul, fun i q u g1 g2 => ?_, s69 _ _ htd, by rw [hdl]; exact D.dl, fun i q e g1 g2 => ?_, s79 _ _ htr, s9 _ _ htw⟩ (s03.trans (s36.trans s69))
  ·obtain ⟨a1, a2, a3, a4, a5, a6, p⟩ := hps i q u g1 g2
   exact ⟨a1, a2, a3, a4, a5, a6, p.keep (s2.trans (s3.trans (s36.trans s69)))⟩
  ·obtain ⟨rs, E⟩ := hds i q e g1 g2
   have sx := s5.trans (s6.trans s69)
   exact ⟨rs, sx _ _ E.1, E.2.1, fun k r ev y1 y2 => sx _ _ (E.2.2 k r ev y1 y2)⟩
theorem ok_taken (R : Raw K mg "taken" s_taken) (T : TxtH K mg CH CP CM) (M_House : GC P w K mg base "House" CH ["self", "users", "rooms", "quantum", "beat"] 5 (sp_initH CH CP CM)) (G_person_of : GF P w K mg base "person_of" ["told"] 5 (sp_of K CP CM)) : GF P w K mg base "taken" ["told"] 7 (sp_taken K CH CP CM) := by
 refine GF.mk R sc_taken (by wtm_at "1") (fun vs H Q E h => ?_) (fun f cdv A outer s H vs Q E hr h => ?_)
 ·obtain ⟨B, s, M, rfl, _⟩ := h; rfl
 ·obtain ⟨B, s, M, rfl, S, hB, hM, k⟩ := h
  have hn8 := hB.n1
  have hro := hB.ro
  refine ⟨_, (@pss_cons _ _ _ _ _ (@ps_set _ _ (1) _ _ _ _ sc_taken.nd rfl (Or.inl rfl) (@pe_gmakeN _ _ _ _ _ _ _ _ _ _ _ M_House (hr.mono (by decide)) rfl (@pa_c _ _ _ _ _ (@pe_callBN _ _ _ _ _ _ _ _ _ (call_len_seqN (K := K) rfl) (by rfl) T.len_ bo_len (@pa_c _ _ _ _ _ (@pe_ix _ _ _ _ _ _ _ (ix_tupK (K := K) rfl) (pv 0) pe_int (fun _ _ => rfl)) pa_nil rfl) (by decide) (by decide) rfl) (@pa_c _ _ _ _ _ (@pe_callBN _ _ _ _ _ _ _ _ _ (call_len_seqN (K := K) rfl) (by rfl) T.len_ bo_len (@pa_c _ _ _ _ _ (@pe_ix _ _ _ _ _ _ _ (ix_tupK (K := K) rfl) (pv 0) pe_int (fun _ _ => rfl)) pa_nil rfl) (by decide) (by decide) rfl) (@pa_c _ _ _ _ _ (@pe_ix _ _ _ _ _ _ _ (ix_tupK (K := K) rfl) (pv 0) pe_int (fun _ _ => rfl)) (@pa_c _ _ _ _ _ (@pe_ix _ _ _ _ _ _ _ (ix_tupK (K := K) rfl) (pv 0) pe_int (fun _ _ => rfl)) pa_nil rfl) rfl) rfl) rfl) (by decide) rfl) rfl (by first | exact .inl rfl | exact .inr rfl | assumption)) (@pss_cons _ _ _ _ _ (@ps_fldK _ (K) _ _ _ _ _ _ _ rfl (pv 1) (@pe_lcomp _ _ _ _ _ _ _ _ _ _ _ _ ([]) rfl (@pi_tupK _ (K) _ _ _ rfl (@pe_ix _ _ _ _ _ _ _ (ix_tupK (K := K) rfl) (pv 0) pe_int (fun _ _ => rfl))) ⟨rfl, rfl, by decide +kernel, by decide +kernel, rfl, by decide +kernel, trivial, rfl, trivial⟩ (fun _ _ _ _ => pts_nil) (fun _ _ _ _ => (@pe_gcallN _ _ _ _ _ _ _ _ _ _ G_person_of (hr.mono (by decide)) rfl (@pa_c _ _ _ _ _ (pv 0) pa_nil rfl) (by decide) rfl)) (fun _ => rfl)) rfl) (@pss_cons _ _ _ _ _ (@ps_fldK _ (K) _ _ _ _ _ _ _ rfl (pv 1) (@pe_lcomp _ _ _ _ _ _ _ _ _ _ _ _ ([]) rfl (@pi_tupK _ (K) _ _ _ rfl (@pe_ix _ _ _ _ _ _ _ (ix_tupK (K := K) rfl) (pv 0) pe_int (fun _ _ => rfl))) ⟨rfl, rfl, by decide +kernel, by decide +kernel, rfl, by decide +kernel, trivial, rfl, trivial⟩ (fun _ _ _ _ => pts_nil) (fun _ _ _ _ => (@pe_callTyN _ _ _ _ _ _ _ _ _ (call_list_ofN (K := K) rfl) (by rfl) T.list_ bo_list (@pa_c _ _ _ _ _ (pv 0) pa_nil rfl) (by decide) (by decide) rfl)) (fun _ => rfl)) rfl) (@pss_cons _ _ _ _ _ (@ps_fldK _ (K) _ _ _ _ _ _ _ rfl (pv 1) (@pe_callTyN _ _ _ _ _ _ _ _ _ (call_list_ofN (K := K) rfl) (by rfl) T.list_ bo_list (@pa_c _ _ _ _ _ (@pe_ix _ _ _ _ _ _ _ (ix_tupK (K := K) rfl) (pv 0) pe_int (fun _ _ => rfl)) pa_nil rfl) (by decide) (by decide) rfl) rfl) (@pss_cons _ _ _ _ _ (@ps_fldK _ (K) _ _ _ _ _ _ _ rfl (pv 1) (@pe_ix _ _ _ _ _ _ _ (ix_tupK (K := K) rfl) (pv 0) pe_int (fun _ _ => rfl)) rfl) (@pss_cons _ _ _ _ _ (@ps_fldK _ (K) _ _ _ _ _ _ _ rfl (pv 1) (@pe_callTyN _ _ _ _ _ _ _ _ _ (call_list_ofN (K := K) rfl) (by rfl) T.list_ bo_list (@pa_c _ _ _ _ _ (@pe_ix _ _ _ _ _ _ _ (ix_tupK (K := K) rfl) (pv 0) pe_int (fun _ _ => rfl)) pa_nil rfl) (by decide) (by decide) rfl) rfl) (@pss_cons _ _ _ _ _ (@ps_fldK _ (K) _ _ _ _ _ _ _ rfl (pv 1) (@pe_ix _ _ _ _ _ _ _ (ix_tupK (K := K) rfl) (pv 0) pe_int (fun _ _ => rfl)) rfl) (@pss_cons _ _ _ _ _ (@ps_fldK _ (K) _ _ _ _ _ _ _ rfl (pv 1) (@pe_ix _ _ _ _ _ _ _ (ix_tupK (K := K) rfl) (pv 0) pe_int (fun _ _ => rfl)) rfl) (@pss_cons _ _ _ _ _ (@ps_fldK _ (K) _ _ _ _ _ _ _ rfl (pv 1) (@pe_ix _ _ _ _ _ _ _ (ix_tupK (K := K) rfl) (pv 0) pe_int (fun _ _ => rfl)) rfl) (@pss_cons _ _ _ _ _ (@ps_fldK _ (K) _ _ _ _ _ _ _ rfl (pv 1) (@pe_ix _ _ _ _ _ _ _ (ix_tupK (K := K) rfl) (pv 0) pe_int (fun _ _ => rfl)) rfl) (@pss_cons _ _ _ _ _ (@ps_fldK _ (K) _ _ _ _ _ _ _ rfl (pv 1) (@pe_ix _ _ _ _ _ _ _ (ix_tupK (K := K) rfl) (pv 0) pe_int (fun _ _ => rfl)) rfl) (@pss_cons _ _ _ _ _ (@ps_fldK _ (K) _ _ _ _ _ _ _ rfl (pv 1) (@pe_ix _ _ _ _ _ _ _ (ix_tupK (K := K) rfl) (pv 0) pe_int (fun _ _ => rfl)) rfl) (@pss_one _ _ _ (@ps_ret _ _ _ _ (pv 1))))))))))))))), ?_⟩
  wtm_at "vv"
  refine ixTS (i := 0) (SqT.of S.o) rfl ?_
  wtm_at "vv"
  refine Sx.lenT (SqT.of S.p) ?_
  wtm_at "vv"
  refine ixTS (i := 2) (SqT.of S.o) rfl ?_
  wtm_at "vv"
  refine Sx.lenT (SqT.of S.r) ?_
  wtm_at "vv"
  refine ixTS (i := 3) (SqT.of S.o) rfl ?_
  wtm_at "vv"
  refine ixTS (i := 4) (SqT.of S.o) rfl ?_
  wtm_at "vv"
  refine make_h (by rw [List.length_map, S.pl]; exact hn8) (by rw [List.length_map]; exact hro.2) fun A H1 nA D1 s1 => ?_
  have S1 := S.keep s1
  have o1 := D1.o
  have nh : H A.h = none := nA _ (h_core c_h)
  generalize hAh : A.h = h at o1 nh ⊢
  generalize hAd : A.dx = dx at o1
  clear D1 nA
  have nth : ∀ {Hx : Hp} {fs : List (Str × V)}, Hx h = some (.ins CH dx fs) → ∀ x ∈ [h], ∀ xs, Hx x ≠ some (.tup xs) := fun e x hx xs z => by rw [List.mem_singleton.mp hx, e] at z; cases z
  wtm_at "vv"
  refine ixTS (i := 0) (SqT.of S1.o) rfl ?_
  refine ⟨B.tp, rfl, ⟨_, SqT.of S1.p⟩, lc_tupI (xs := B.ps.map V.ref) (fun i acc H' => Same H1 H' ∧ ∃ Bs : List PAd, Bs.length = i ∧ acc = (Bs.map fun C => V.ref C.p) ∧ (∀ (j : Nat) C u, Bs[j]? = some C → s.us[j]? = some u → PAt CP CM H' C u) ∧ (∀ C ∈ Bs, ∀ x ∈ foot C, H1 x = none) ∧ (∀ (i j : Nat) C E, i ≠ j → Bs[i]? = some C → Bs[j]? = some E → ∀ x ∈ foot C, x ∉ foot E) ∧ ∀ C ∈ Bs, ∀ x ∈ foot C, ∃ o, H' x = some o) (by rw [List.length_map, sizeLine_eq, S.pl]; omega) ⟨Same.refl _, [], rfl, rfl, by simp, by simp, by simp, by simp⟩ (fun i acc H' h => ?_) (fun i acc H' h => SqT.of (h.1 _ _ S1.p)) (fun i x acc H' hx h Q' q' => ?_) (fun acc Ha h lp nlp => ?_)⟩
  ·obtain ⟨_, Bs, hl, rfl, _⟩ := h
   rw [List.length_map]; exact hl
  ·obtain ⟨sm, Bs, hl, rfl, hP, hf, hd, ha⟩ := h
   rw [List.getElem?_map] at hx
   cases hbx : B.ps[i]? with
   | none => rw [hbx] at hx; cases hx
   | some q =>
    rw [hbx] at hx
    cases hx
    have hi : i < s.us.length := by rw [← S.pl]; exact get_lt hbx
    have hu := List.getElem?_eq_getElem hi
    obtain ⟨tc, ti, to_, tp, tb, tbs, p⟩ := S1.pc i q _ hbx hu
    have rg := hB.ru _ (List.getElem_mem hi)
    have hbl := rg.bl
    have hcl := rg.rm.len
    wtm_at "vv"
    refine ⟨q, tc, ti, to_, tp, tb, tbs, s.us[i], rfl, Pp.PicAt.s (p.keep sm), by omega, by omega, fun C H2 nC DC s2 => ?_⟩
    have dis : ∀ (j : Nat) E, Bs[j]? = some E → ∀ x ∈ foot E, x ∉ foot C := fun j E e x hx hy => by
     obtain ⟨o, z⟩ := ha E (List.mem_of_getElem? e) x hx
     rw [nC x hy] at z
     cases z
    refine q' _ _ ⟨sm.trans s2, Bs ++ [C], by rw [List.length_append, hl]; rfl, by rw [List.map_append]; rfl, fun j E u g1 g2 => ?_, fun E hE x hx => ?_, fun i j E G g e1 e2 x hx => ?_, fun E hE x hx => ?_⟩
    ·rcases snoc_at g1 with ⟨g1, _⟩ | ⟨e, rfl⟩
     ·exact (hP j E u g1 g2).keep s2
     ·rw [e, hl, hu] at g2
      cases g2
      exact DC
    ·rcases List.mem_append.mp hE with z | z
     ·exact hf E z x hx
     ·rw [List.mem_singleton.mp z] at hx; exact sm.free (nC x hx)
    ·rcases snoc_at e1 with ⟨f1, z1⟩ | ⟨z1, y1⟩ <;> rcases snoc_at e2 with ⟨f2, z2⟩ | ⟨z2, y2⟩
     ·exact hd i j E G g f1 f2 x hx
     ·rw [y2]; exact dis i E f1 x hx
     ·rw [y1] at hx; exact fun y => dis j G f2 x y hx
     ·exact (g (z1.trans z2.symm)).elim
    ·rcases List.mem_append.mp hE with z | z
     ·obtain ⟨o, e⟩ := ha E z x hx
      exact ⟨o, s2 _ _ e⟩
     ·rw [List.mem_singleton.mp z] at hx; exact DC.there hx
  obtain ⟨sa, Bs, hBl, rfl, hP, hf, hd, ha⟩ := h
  rw [List.length_map] at hBl
  have s2 : Same Ha (upd Ha lp (.lst (Bs.map fun C => V.ref C.p))) := Same.newH nlp
  have hlp : (upd Ha lp (.lst (Bs.map fun C => V.ref C.p))) lp = some (.lst (Bs.map fun C => V.ref C.p)) := upd_same
  generalize upd Ha lp (.lst (Bs.map fun C => V.ref C.p)) = H2 at s2 hlp ⊢
  have o2 := (sa.trans s2) _ _ o1
  have nhp : lp ≠ h := fun z => by rw [z, o2] at hlp; cases hlp
  wtm_at "vv"
  refine w_obj o2 T.clH T.n_people (pf_people _ _ lp Bs) fun H3 o3 F3 => ?_
  have S3 := (S1.keep (sa.trans s2)).far F3 (nth o2)
  have fh : ∀ C ∈ Bs, ∀ x ∈ foot C, x ≠ h := fun C hC x hx z => by have := hf C hC x hx; rw [z, o1] at this; cases this
  have hP3 : ∀ (j : Nat) C u, Bs[j]? = some C → s.us[j]? = some u → PAt CP CM H3 C u := fun j C u g1 g2 => ((hP j C u g1 g2).keep s2).far F3 fun x hx => nmem1 (fh C (List.mem_of_getElem? g1) x hx)
  have hlp3 := F3 _ _ hlp (nmem1 nhp)
  have sm3 : Same H H3 := FrL.toSame (s1.trans (sa.trans s2)) F3 fun x hx => by rw [List.mem_singleton.mp hx]; exact nh
  wtm_at "vv"
  refine ixTS (i := 1) (SqT.of S3.o) rfl ?_
  refine ⟨B.td, rfl, ⟨_, SqT.of S3.d⟩, lc_tupI (xs := B.ds.map V.ref) (fun i acc H' => Same H3 H' ∧ ∃ ds : List Addr, ds.length = i ∧ acc = ds.map V.ref ∧ (∀ (j : Nat) d e, ds[j]? = some d → s.di[j]? = some e → ∃ rs, EvsAt H' d rs e) ∧ ds.Nodup ∧ (∀ d ∈ ds, H3 d = none) ∧ ∀ d ∈ ds, ∃ xs, H' d = some (.lst xs)) (by rw [List.length_map, sizeLine_eq, S.dl, hB.n2]; omega) ⟨Same.refl _, [], rfl, rfl, by simp, List.nodup_nil, by simp, by simp⟩ (fun i acc H' h => ?_) (fun i acc H' h => SqT.of (h.1 _ _ S3.d)) (fun i x acc H' hx h Q' q' => ?_) (fun acc Hb h ld nld => ?_)⟩
  ·obtain ⟨_, ds, hl, rfl, _⟩ := h
   rw [List.length_map]; exact hl
  ·obtain ⟨sm, ds, hl, rfl, hp, hnn, hfr, hal⟩ := h
   rw [List.getElem?_map] at hx
   cases hbx : B.ds[i]? with
   | none => rw [hbx] at hx; cases hx
   | some d =>
    rw [hbx] at hx
    cases hx
    have hi : i < s.di.length := by rw [← S.dl]; exact get_lt hbx
    have hu := List.getElem?_eq_getElem hi
    obtain ⟨rs, E1, E2, E3⟩ := S3.dd i d _ hbx hu
    wtm_at "vv"
    refine Sx.listOf (.inr (SqT.of (sm _ _ E1))) fun q H5 nq hq s5 => ?_
    have nqd : q ∉ ds := fun z => by obtain ⟨xs, e⟩ := hal q z; rw [nq] at e; cases e
    refine q' _ _ ⟨sm.trans s5, ds ++ [q], by rw [List.length_append, hl]; rfl, by rw [List.map_append]; rfl, fun j d2 e g1 g2 => ?_, ?_, fun d2 h2 => ?_, fun d2 h2 => ?_⟩
    ·rcases snoc_at g1 with ⟨g1, _⟩ | ⟨e, rfl⟩
     ·obtain ⟨rs2, E⟩ := hp j d2 e g1 g2
      exact ⟨rs2, E.keep s5⟩
     ·rw [e, hl, hu] at g2
      cases g2
      exact ⟨rs, hq, E2, fun k r ev y1 y2 => (sm.trans s5) _ _ (E3 k r ev y1 y2)⟩
    ·rw [List.nodup_append]
     exact ⟨hnn, by simp, fun x hx y hy => by rw [List.mem_singleton.mp hy]; exact fun e => nqd (by rw [← e]; exact hx)⟩
    ·rcases List.mem_append.mp h2 with z | z
     ·exact hfr d2 z
     ·rw [List.mem_singleton.mp z]; exact sm.free nq
    ·rcases List.mem_append.mp h2 with z | z
     ·obtain ⟨xs, e⟩ := hal d2 z
      exact ⟨xs, s5 _ _ e⟩
     ·rw [List.mem_singleton.mp z]; exact ⟨_, hq⟩
  obtain ⟨sb, ds, hdl, rfl, hds, hdn, hdf, hda⟩ := h
  rw [List.length_map] at hdl
  have s4 : Same Hb (upd Hb ld (.lst (ds.map V.ref))) := Same.newH nld
  have hld : (upd Hb ld (.lst (ds.map V.ref))) ld = some (.lst (ds.map V.ref)) := upd_same
  generalize upd Hb ld (.lst (ds.map V.ref)) = H4 at s4 hld ⊢
  have s34 := sb.trans s4
  have o4 := s34 _ _ o3
  have nhd : ld ≠ h := fun z => by rw [z, o4] at hld; cases hld
  have ndh : h ∉ ds := fun z => by have := hdf h z; rw [o3] at this; cases this
  wtm_at "vv"
  refine w_obj o4 T.clH T.n_diaries (pf_diaries _ _ ld ds) fun H5 o5 F5 => ?_
  have S5 := (S3.keep s34).far F5 (nth o4)
  have F35 : FrL H3 H5 [h] := FrL.trans (fun b o e _ => s34 b o e) F5
  have hP5 : ∀ (j : Nat) C u, Bs[j]? = some C → s.us[j]? = some u → PAt CP CM H5 C u := fun j C u g1 g2 => (hP3 j C u g1 g2).far F35 fun x hx => nmem1 (fh C (List.mem_of_getElem? g1) x hx)
  have hlp5 := F35 _ _ hlp3 (nmem1 nhp)
  have hld5 := F5 _ _ hld (nmem1 nhd)
  have hds5 : ∀ (j : Nat) d e, ds[j]? = some d → s.di[j]? = some e → ∃ rs, EvsAt H5 d rs e := fun j d e g1 g2 => by
   obtain ⟨rs, E⟩ := hds j d e g1 g2
   exact ⟨rs, (E.keep s4).far F5 (nmem1 fun z => ndh (by rw [← z]; exact List.mem_of_getElem? g1)) (nth o4)⟩
  have sm5 : Same H H5 := FrL.toSame (sm3.trans s34) F5 fun x hx => by rw [List.mem_singleton.mp hx]; exact nh
  wtm_at "vv"
  refine ixTS (i := 2) (SqT.of S5.o) rfl ?_
  wtm_at "vv"
  refine Sx.listOf (.inr (SqT.of S5.r)) fun lr H6 nlr hlr s6 => ?_
  have o6 := s6 _ _ o5
  have nhr : lr ≠ h := fun z => by rw [z, o6] at hlr; cases hlr
  wtm_at "vv"
  refine w_obj o6 T.clH T.n_rooms (pf_rooms _ _ lr) fun H7 o7 F7 => ?_
  have S7 := (S5.keep s6).far F7 (nth o6)
  have F57 : FrL H5 H7 [h] := FrL.trans (fun b o e _ => s6 b o e) F7
  have hlr7 := F7 _ _ hlr (nmem1 nhr)
  have sm7 : Same H H7 := FrL.toSame (sm5.trans s6) F7 fun x hx => by rw [List.mem_singleton.mp hx]; exact nh
  wtm_at "vv"
  refine ixTS (i := 5) (SqT.of S7.o) rfl ?_
  wtm_at "vv"
  refine w_obj o7 T.clH T.n_runs (pf_runs _ _ s.runs) fun H8 o8 F8 => ?_
  have S8 := S7.far F8 (nth o7)
  have sm8 : Same H H8 := FrL.toSame sm7 F8 fun x hx => by rw [List.mem_singleton.mp hx]; exact nh
  wtm_at "vv"
  refine ixTS (i := 6) (SqT.of S8.o) rfl ?_
  wtm_at "vv"
  refine Sx.listOf (.inr (SqT.of S8.w)) fun lw H9 nlw hlw s9 => ?_
  have o9 := s9 _ _ o8
  have nhw : lw ≠ h := fun z => by rw [z, o9] at hlw; cases hlw
  wtm_at "vv"
  refine w_obj o9 T.clH T.n_row (pf_row _ _ lw) fun Ha1 oa Fa => ?_
  have Sa := (S8.keep s9).far Fa (nth o9)
  have F79 : FrL H7 Ha1 [h] := F8.trans (FrL.trans (fun b o e _ => s9 b o e) Fa)
  have hlwa := Fa _ _ hlw (nmem1 nhw)
  have sma : Same H Ha1 := FrL.toSame (sm8.trans s9) Fa fun x hx => by rw [List.mem_singleton.mp hx]; exact nh
  wtm_at "vv"
  refine ixTS (i := 7) (SqT.of Sa.o) rfl ?_
  wtm_at "vv"
  refine w_obj oa T.clH T.n_steps (pf_steps _ _ s.steps) fun Hc oc Fc => ?_
  have Sc := Sa.far Fc (nth oa)
  wtm_at "vv"
  refine ixTS (i := 8) (SqT.of Sc.o) rfl ?_
  wtm_at "vv"
  refine w_obj oc T.clH T.n_idle (pf_idle _ _ s.idle) fun Hd od Fd => ?_
  have Sd := Sc.far Fd (nth oc)
  wtm_at "vv"
  refine ixTS (i := 9) (SqT.of Sd.o) rfl ?_
  wtm_at "vv"
  refine w_obj od T.clH T.n_ticks (pf_ticks _ _ s.ticks) fun He oe Fe => ?_
  have Se := Sd.far Fe (nth od)
  wtm_at "vv"
  refine ixTS (i := 10) (SqT.of Se.o) rfl ?_
  wtm_at "vv"
  refine w_obj oe T.clH T.n_swaps (pf_swaps _ _ s.swaps) fun Hf of Ff => ?_
  have Sf := Se.far Ff (nth oe)
  wtm_at "vv"
  refine ixTS (i := 11) (SqT.of Sf.o) rfl ?_
  wtm_at "vv"
  refine w_obj of T.clH T.n_turn (pf_turn _ _ s.turn) fun Hg og Fg => ?_
  have Sg := Sf.far Fg (nth of)
  wtm_at "vv"
  refine ixTS (i := 12) (SqT.of Sg.o) rfl ?_
  wtm_at "vv"
  refine w_obj og T.clH T.n_left (pf_left _ _ s.left) fun Hz oz Fz => ?_
  have Faz : FrL Ha1 Hz [h] := Fc.trans (Fd.trans (Fe.trans (Ff.trans (Fg.trans Fz))))
  have smz : Same H Hz := FrL.toSame sma Faz fun x hx => by rw [List.mem_singleton.mp hx]; exact nh
  have F7z : FrL H7 Hz [h] := F79.trans Faz
  have F5z : FrL H5 Hz [h] := F57.trans F7z
  wtm_at "vv"
  have g8 : ∀ {x : Addr}, H8 x = none → x ≠ h → H7 x = none := fun {x} z e => by
   cases y : H7 x with
   | none => rfl
   | some o => have := F8 _ _ y (nmem1 e); rw [z] at this; cases this
  have lw7 : H7 lw = none := g8 nlw nhw
  have lw5 : H5 lw = none := by
   cases y : H5 lw with
   | none => rfl
   | some o => have := F57 _ _ y (nmem1 nhw); rw [lw7] at this; cases this
  have a1 : lp ≠ ld := fun z => by have := sb _ _ hlp3; rw [z, nld] at this; cases this
  have a2 : lp ≠ lr := fun z => by rw [z, nlr] at hlp5; cases hlp5
  have a3 : lp ≠ lw := fun z => by rw [z, lw5] at hlp5; cases hlp5
  have a4 : ld ≠ lr := fun z => by rw [z, nlr] at hld5; cases hld5
  have a5 : ld ≠ lw := fun z => by rw [z, lw5] at hld5; cases hld5
  have a6 : lr ≠ lw := fun z => by rw [z, lw7] at hlr7; cases hlr7
  have b1 : lp ∉ ds := fun z => by have := hdf lp z; rw [hlp3] at this; cases this
  have b2 : ld ∉ ds := fun z => by obtain ⟨xs, e⟩ := hda ld z; rw [nld] at e; cases e
  have dal : ∀ d ∈ ds, ∃ o, H5 d = some o := fun d z => by
   obtain ⟨xs, e⟩ := hda d z
   exact ⟨_, F5 _ _ (s4 _ _ e) (nmem1 fun y => ndh (by rw [← y]; exact z))⟩
  have b3 : lr ∉ ds := fun z => by obtain ⟨o, e⟩ := dal lr z; rw [nlr] at e; cases e
  have b4 : lw ∉ ds := fun z => by obtain ⟨o, e⟩ := dal lw z; rw [lw5] at e; cases e
  have pal : ∀ C ∈ Bs, ∀ x ∈ foot C, (∃ o, H3 x = some o) ∧ ∃ o, H5 x = some o := fun C hC x hx => by
   obtain ⟨o, e⟩ := ha C hC x hx
   have e3 := F3 _ _ (s2 _ _ e) (nmem1 (fh C hC x hx))
   exact ⟨⟨o, e3⟩, ⟨o, F35 _ _ e3 (nmem1 (fh C hC x hx))⟩⟩
  refine k ⟨h, dx, lp, ld, lr, lw, Bs, ds⟩ Hz (fun x hx => ?_) ⟨oz, F5z _ _ hlp5 (nmem1 nhp), F5z _ _ hld5 (nmem1 nhd), F7z _ _ hlr7 (nmem1 nhr), Faz _ _ hlwa (nmem1 nhw), by rw [hBl]; exact S.pl, fun i C u g1 g2 => (hP5 i C u g1 g2).far F5z fun x hx => nmem1 (fh C (List.mem_of_getElem? g1) x hx), by rw [hdl]; exact S.dl, fun i d e g1 g2 => ?_, ?_, fun i C e x hx z => ?_, hd⟩ smz
  ·have fr3 : ∀ {x : Addr}, H3 x = none → H x = none := fun {x} z => by
    cases y : H x with
    | none => rfl
    | some o => have := sm3 _ _ y; rw [z] at this; cases this
   have fr5 : ∀ {x : Addr}, H5 x = none → H x = none := fun {x} z => by
    cases y : H x with
    | none => rfl
    | some o => have := sm5 _ _ y; rw [z] at this; cases this
   rcases h_cases hx with z | ⟨i, C, e, z⟩
   ·have z' : x ∈ h :: lp :: ld :: lr :: lw :: ds := z
    simp only [List.mem_cons] at z'
    rcases z' with y | y | y | y | y | y
    ·rw [y]; exact nh
    ·rw [y]; exact (s1.trans sa).free nlp
    ·rw [y]; exact fr3 (sb.free nld)
    ·rw [y]; exact fr5 nlr
    ·rw [y]; exact fr5 lw5
    ·exact fr3 (hdf x y)
   ·exact s1.free (hf C (List.mem_of_getElem? e) x z)
  ·obtain ⟨rs, E⟩ := hds5 i d e g1 g2
   exact ⟨rs, E.far F5z (nmem1 fun z => ndh (by rw [← z]; exact List.mem_of_getElem? g1)) (nth o5)⟩
  ·show (h :: lp :: ld :: lr :: lw :: ds).Nodup
   simp only [List.nodup_cons, List.mem_cons, not_or]
   exact ⟨⟨Ne.symm nhp, Ne.symm nhd, Ne.symm nhr, Ne.symm nhw, ndh⟩, ⟨a1, a2, a3, b1⟩, ⟨a4, a5, b2⟩, ⟨a6, b3⟩, b4, hdn⟩
  ·have hC := List.mem_of_getElem? e
   obtain ⟨⟨p3, q3⟩, ⟨p5, q5⟩⟩ := pal C hC x hx
   obtain ⟨pa, qa⟩ := ha C hC x hx
   have z' : x ∈ h :: lp :: ld :: lr :: lw :: ds := z
   simp only [List.mem_cons] at z'
   rcases z' with y | y | y | y | y | y
   ·exact fh C hC x hx y
   ·rw [y, nlp] at qa; cases qa
   ·rw [y, sb.free nld] at q3; cases q3
   ·rw [y, nlr] at q5; cases q5
   ·rw [y, lw5] at q5; cases q5
   ·rw [hdf x y] at q3; cases q3
end
end Hs
namespace K27
open PySem L2 Mir Pr Tx Lw Dm Us Du Pp Hs Lh PySem.Spec
def sp_law (K : PySem.W.Frag) : Sp := fun vs H Q _ => ∃ (a : Addr) (ns : List Int), vs = [.ref a] ∧ SqL K H a (ns.map V.int) ∧ ∀ H', Q (.bl true) H'
def oneD (s : Hse) (u : Nat) : PyData := .tuple [picD (usr s u), .list ((s.di.getD u []).map evD), uD (findR u s.rooms)]
def ckD (s : Hse) : PyData := .tuple (uD s.runs :: .list ((rowI s.row).map PyData.int) :: [s.left, s.steps, s.idle, s.ticks, s.swaps, s.turn].map PyData.int)
def allD (s : Hse) (n : Nat) : PyData := .tuple [.list ((List.range n).map (oneD s)), ckD s]
theorem u_lay (o : Option Nat) : PyData.canLay0 (uD o) = true := by cases o <;> rfl
theorem u_dep (o : Option Nat) : PyData.depth (uD o) = 0 := by cases o <;> rfl
theorem u_mix (o : Option Nat) : PySem.SeqAt.noMix (uD o) (uD o) = true := by cases o <;> rfl
theorem one_lay (s : Hse) (u : Nat) : PyData.canLay0 (oneD s u) = true := by
 show (PyData.canLay0 (picD (usr s u)) && (PyData.canLayAll0 ((s.di.getD u []).map evD) && (PyData.canLay0 (uD (findR u s.rooms)) && true))) = true
 rw [pic_lay, lay_evs, u_lay]
 rfl
theorem one_dep (s : Hse) (u : Nat) : PyData.depth (oneD s u) ≤ 4 := by
 have h1 := pic_dep (usr s u)
 have h2 := dep_evs (s.di.getD u [])
 show max (PyData.depth (picD (usr s u))) (max (PyData.depthAll ((s.di.getD u []).map evD) + 1) (max (PyData.depth (uD (findR u s.rooms))) 0)) + 1 ≤ 4
 rw [u_dep]
 omega
theorem one_mix (s : Hse) (u : Nat) : PySem.SeqAt.noMix (oneD s u) (oneD s u) = true := by
 show (PySem.SeqAt.noMix (picD (usr s u)) (picD (usr s u)) && (PySem.SeqAt.noMixAll ((s.di.getD u []).map evD) ((s.di.getD u []).map evD) && (PySem.SeqAt.noMix (uD (findR u s.rooms)) (uD (findR u s.rooms)) && true))) = true
 rw [pic_mix, mix_evs, u_mix]
 rfl
theorem ones_lay (s : Hse) : ∀ l : List Nat, PyData.canLayAll0 (l.map (oneD s)) = true
 | [] => rfl
 | u :: l => by
  show (PyData.canLay0 (oneD s u) && PyData.canLayAll0 (l.map (oneD s))) = true
  rw [one_lay, ones_lay s l]
  rfl
theorem ones_dep (s : Hse) : ∀ l : List Nat, PyData.depthAll (l.map (oneD s)) ≤ 4
 | [] => Nat.zero_le _
 | u :: l => by
  show max (PyData.depth (oneD s u)) (PyData.depthAll (l.map (oneD s))) ≤ 4
  exact Nat.max_le.mpr ⟨one_dep s u, ones_dep s l⟩
theorem ones_mix (s : Hse) : ∀ l : List Nat, PySem.SeqAt.noMixAll (l.map (oneD s)) (l.map (oneD s)) = true
 | [] => rfl
 | u :: l => by
  show (PySem.SeqAt.noMix (oneD s u) (oneD s u) && PySem.SeqAt.noMixAll (l.map (oneD s)) (l.map (oneD s))) = true
  rw [one_mix, ones_mix s l]
  rfl
theorem ck_lay (s : Hse) : PyData.canLay0 (ckD s) = true := by
 show (PyData.canLay0 (uD s.runs) && (PyData.canLayAll0 ((rowI s.row).map PyData.int) && PyData.canLayAll0 ([s.left, s.steps, s.idle, s.ticks, s.swaps, s.turn].map PyData.int))) = true
 rw [u_lay, lay_ints, lay_ints]
 rfl
theorem ck_dep (s : Hse) : PyData.depth (ckD s) ≤ 2 := by
 show max (PyData.depth (uD s.runs)) (max (PyData.depthAll ((rowI s.row).map PyData.int) + 1) (PyData.depthAll ([s.left, s.steps, s.idle, s.ticks, s.swaps, s.turn].map PyData.int))) + 1 ≤ 2
 rw [u_dep, dep_ints, dep_ints]
 decide
theorem ck_mix (s : Hse) : PySem.SeqAt.noMix (ckD s) (ckD s) = true := by
 show (PySem.SeqAt.noMix (uD s.runs) (uD s.runs) && (PySem.SeqAt.noMixAll ((rowI s.row).map PyData.int) ((rowI s.row).map PyData.int) && PySem.SeqAt.noMixAll ([s.left, s.steps, s.idle, s.ticks, s.swaps, s.turn].map PyData.int) ([s.left, s.steps, s.idle, s.ticks, s.swaps, s.turn].map PyData.int))) = true
 rw [u_mix, mix_ints, mix_ints]
 rfl
theorem all_sh (s : Hse) (n : Nat) : PySem.SeqAt.shaped (allD s n) = true := by
 unfold PySem.SeqAt.shaped
 rw [Bool.and_eq_true]
 constructor
 ·show (PyData.canLayAll0 ((List.range n).map (oneD s)) && (PyData.canLay0 (ckD s) && true)) = true
  rw [ones_lay, ck_lay]
  rfl
 ·rw [decide_eq_true_eq]
  have h1 := ones_dep s (List.range n)
  have h2 := ck_dep s
  show max (PyData.depthAll ((List.range n).map (oneD s)) + 1) (max (PyData.depth (ckD s)) 0) + 1 ≤ 64
  omega
theorem all_mx (s : Hse) (n : Nat) : PySem.SeqAt.noMix (allD s n) (allD s n) = true := by
 show (PySem.SeqAt.noMixAll ((List.range n).map (oneD s)) ((List.range n).map (oneD s)) && (PySem.SeqAt.noMix (ckD s) (ckD s) && true)) = true
 rw [ones_mix, ck_mix]
 rfl
theorem all_eq {K : PySem.W.Frag} {H : Hp} {Q : VK} {p q : Addr} {s : Hse} {n : Nat} (h1 : DRd K H (.ref p) (allD s n)) (h2 : DRd K H (.ref q) (allD s n)) (k : Q (.bl true) H) : rEqD K (.ref p) (.ref q) H Q :=
 ⟨allD s n, allD s n, h1, h2, all_sh s n, all_sh s n, all_mx s n, by rw [PyProof.Rows.same_refl]; exact k⟩
theorem all_ne {K : PySem.W.Frag} {H : Hp} {Q : VK} {p q : Addr} {s : Hse} {n : Nat} (h1 : DRd K H (.ref p) (allD s n)) (h2 : DRd K H (.ref q) (allD s n)) (k : Q (.bl false) H) : rNeD K (.ref p) (.ref q) H Q :=
 ⟨allD s n, allD s n, h1, h2, all_sh s n, all_sh s n, all_mx s n, by rw [PyProof.Rows.same_refl]; exact k⟩
def evsD (e : List Ev) : PyData := .tuple (e.map evD)
def numsD (s : Hse) : List PyData := [s.steps, s.idle, s.ticks, s.swaps, s.turn, s.left].map PyData.int
def savD (s : Hse) : PyData := .tuple (.tuple (s.us.map picD) :: .tuple (s.di.map evsD) :: .tuple (s.rooms.map uD) :: .int s.quantum :: .int s.beat :: uD s.runs :: .tuple ((rowI s.row).map PyData.int) :: numsD s)
theorem pics_lay : ∀ l : List Usr, PyData.canLayAll0 (l.map picD) = true
 | [] => rfl
 | u :: l => by
  show (PyData.canLay0 (picD u) && PyData.canLayAll0 (l.map picD)) = true
  rw [pic_lay, pics_lay l]
  rfl
theorem pics_dep : ∀ l : List Usr, PyData.depthAll (l.map picD) ≤ 3
 | [] => Nat.zero_le _
 | u :: l => by
  show max (PyData.depth (picD u)) (PyData.depthAll (l.map picD)) ≤ 3
  exact Nat.max_le.mpr ⟨pic_dep u, pics_dep l⟩
theorem pics_mix : ∀ l : List Usr, PySem.SeqAt.noMixAll (l.map picD) (l.map picD) = true
 | [] => rfl
 | u :: l => by
  show (PySem.SeqAt.noMix (picD u) (picD u) && PySem.SeqAt.noMixAll (l.map picD) (l.map picD)) = true
  rw [pic_mix, pics_mix l]
  rfl
theorem dis_lay : ∀ l : List (List Ev), PyData.canLayAll0 (l.map evsD) = true
 | [] => rfl
 | u :: l => by
  show (PyData.canLayAll0 (u.map evD) && PyData.canLayAll0 (l.map evsD)) = true
  rw [lay_evs, dis_lay l]
  rfl
theorem dis_dep : ∀ l : List (List Ev), PyData.depthAll (l.map evsD) ≤ 2
 | [] => Nat.zero_le _
 | u :: l => by
  have := dep_evs u
  show max (PyData.depthAll (u.map evD) + 1) (PyData.depthAll (l.map evsD)) ≤ 2
  exact Nat.max_le.mpr ⟨by omega, dis_dep l⟩
theorem dis_mix : ∀ l : List (List Ev), PySem.SeqAt.noMixAll (l.map evsD) (l.map evsD) = true
 | [] => rfl
 | u :: l => by
  show (PySem.SeqAt.noMixAll (u.map evD) (u.map evD) && PySem.SeqAt.noMixAll (l.map evsD) (l.map evsD)) = true
  rw [mix_evs, dis_mix l]
  rfl
theorem us_lay : ∀ l : List (Option Nat), PyData.canLayAll0 (l.map uD) = true
 | [] => rfl
 | u :: l => by
  show (PyData.canLay0 (uD u) && PyData.canLayAll0 (l.map uD)) = true
  rw [u_lay, us_lay l]
  rfl
theorem us_dep : ∀ l : List (Option Nat), PyData.depthAll (l.map uD) = 0
 | [] => rfl
 | u :: l => by
  show max (PyData.depth (uD u)) (PyData.depthAll (l.map uD)) = 0
  rw [u_dep, us_dep l]
  rfl
theorem us_mix : ∀ l : List (Option Nat), PySem.SeqAt.noMixAll (l.map uD) (l.map uD) = true
 | [] => rfl
 | u :: l => by
  show (PySem.SeqAt.noMix (uD u) (uD u) && PySem.SeqAt.noMixAll (l.map uD) (l.map uD)) = true
  rw [u_mix, us_mix l]
  rfl
theorem sav_sh (s : Hse) : PySem.SeqAt.shaped (savD s) = true := by
 unfold PySem.SeqAt.shaped
 rw [Bool.and_eq_true]
 constructor
 ·show (PyData.canLayAll0 (s.us.map picD) && (PyData.canLayAll0 (s.di.map evsD) && (PyData.canLayAll0 (s.rooms.map uD) && (true && (true && (PyData.canLay0 (uD s.runs) && (PyData.canLayAll0 ((rowI s.row).map PyData.int) && PyData.canLayAll0 (numsD s)))))))) = true
  have h : PyData.canLayAll0 (numsD s) = true := lay_ints _
  rw [pics_lay, dis_lay, us_lay, u_lay, lay_ints, h]
  rfl
 ·rw [decide_eq_true_eq]
  have h1 := pics_dep s.us
  have h2 := dis_dep s.di
  have h3 : PyData.depthAll (numsD s) = 0 := dep_ints _
  show max (PyData.depthAll (s.us.map picD) + 1) (max (PyData.depthAll (s.di.map evsD) + 1) (max (PyData.depthAll (s.rooms.map uD) + 1) (max 0 (max 0 (max (PyData.depth (uD s.runs)) (max (PyData.depthAll ((rowI s.row).map PyData.int) + 1) (PyData.depthAll (numsD s)))))))) + 1 ≤ 64
  rw [us_dep, u_dep, dep_ints, h3]
  omega
theorem sav_mx (s : Hse) : PySem.SeqAt.noMix (savD s) (savD s) = true := by
 show (PySem.SeqAt.noMixAll (s.us.map picD) (s.us.map picD) && (PySem.SeqAt.noMixAll (s.di.map evsD) (s.di.map evsD) && (PySem.SeqAt.noMixAll (s.rooms.map uD) (s.rooms.map uD) && (true && (true && (PySem.SeqAt.noMix (uD s.runs) (uD s.runs) && (PySem.SeqAt.noMixAll ((rowI s.row).map PyData.int) ((rowI s.row).map PyData.int) && PySem.SeqAt.noMixAll (numsD s) (numsD s)))))))) = true
 have h : PySem.SeqAt.noMixAll (numsD s) (numsD s) = true := mix_ints _
 rw [pics_mix, dis_mix, us_mix, u_mix, mix_ints, h]
 rfl
theorem sav_eq {K : PySem.W.Frag} {H : Hp} {Q : VK} {p q : Addr} {s : Hse} (h1 : DRd K H (.ref p) (savD s)) (h2 : DRd K H (.ref q) (savD s)) (k : Q (.bl true) H) : rEqD K (.ref p) (.ref q) H Q :=
 ⟨savD s, savD s, h1, h2, sav_sh s, sav_sh s, sav_mx s, by rw [PyProof.Rows.same_refl]; exact k⟩
theorem sav_ne {K : PySem.W.Frag} {H : Hp} {Q : VK} {p q : Addr} {s : Hse} (h1 : DRd K H (.ref p) (savD s)) (h2 : DRd K H (.ref q) (savD s)) (k : Q (.bl false) H) : rNeD K (.ref p) (.ref q) H Q :=
 ⟨savD s, savD s, h1, h2, sav_sh s, sav_sh s, sav_mx s, by rw [PyProof.Rows.same_refl]; exact k⟩
theorem drds_of {α : Type} {K : PySem.W.Frag} {H : Hp} {f : α → PyData} : ∀ (ps : List Addr) (l : List α), ps.length = l.length → (∀ (i : Nat) q u, ps[i]? = some q → l[i]? = some u → DRd K H (.ref q) (f u)) → DRds K H (ps.map V.ref) (l.map f)
 | [], [], _, _ => .nil
 | q :: ps, u :: l, hl, h => .cons (h 0 q u rfl rfl) (drds_of ps l (by simpa using hl) fun i b w h1 h2 => h (i + 1) b w h1 h2)
theorem drds_u {K : PySem.W.Frag} {H : Hp} : ∀ l : List (Option Nat), DRds K H (l.map vU) (l.map uD)
 | [] => .nil
 | u :: l => .cons (drd_u u) (drds_u l)
theorem sav_drd {K : PySem.W.Frag} {H : Hp} {B : SvA} {s : Hse} (h : SavAt K H B s) : DRd K H (.ref B.t) (savD s) := by
 have hw := h.w
 rw [rowV_eq] at hw
 refine .tup (SqT.of h.o) (.cons (.tup (SqT.of h.p) (drds_of _ _ h.pl fun i q u e1 e2 => ?_)) (.cons (.tup (SqT.of h.d) (drds_of _ _ h.dl fun i q e e1 e2 => ?_)) (.cons (.tup (SqT.of h.r) (drds_u _)) (.cons (.int _) (.cons (.int _) (.cons (drd_u _) (.cons (.tup (SqT.of hw) (drds_ints _)) (drds_ints [s.steps, s.idle, s.ticks, s.swaps, s.turn, s.left]))))))))
 ·obtain ⟨tc, ti, to_, tp, tb, tbs, p⟩ := h.pc i q u e1 e2
  exact p.drd
 ·obtain ⟨rs, E1, E2, E3⟩ := h.dd i q e e1 e2
  exact .tup (SqT.of E1) (drds_evs rs e E2 E3)
mutual
inductive Pd (H : Hp) : V → Nat → Prop where
 | non : Pd H .non 1
 | int (i : Int) : Pd H (.int i) 1
 | str (x : Str) : Pd H (.str x) 1
 | tup {a : Addr} {xs : List V} {n : Nat} (h : H a = some (.tup xs)) (r : Pds H xs n) : Pd H (.ref a) (n + 1)
inductive Pds (H : Hp) : List V → Nat → Prop where
 | nil : Pds H [] 0
 | cons {x : V} {xs : List V} {m n : Nat} (h : Pd H x m) (r : Pds H xs n) : Pds H (x :: xs) (m + n)
end
theorem pd_pos {H : Hp} {x : V} {n : Nat} (h : Pd H x n) : 1 ≤ n := by cases h <;> omega
theorem pds_len {H : Hp} : ∀ {xs : List V} {n : Nat}, Pds H xs n → xs.length ≤ n
 | _, _, .nil => Nat.le_refl _
 | _, _, .cons h r => by
  have := pd_pos h
  have := pds_len r
  rw [List.length_cons]
  omega
theorem pds_cat {H : Hp} : ∀ {xs ys : List V} {m n : Nat}, Pds H xs m → Pds H ys n → Pds H (xs ++ ys) (m + n)
 | _, _, _, _, .nil, h => by rw [Nat.zero_add]; exact h
 | _, _, _, _, .cons h r, q => by rw [Nat.add_assoc]; exact .cons h (pds_cat r q)
theorem pds_last {H : Hp} : ∀ {xs : List V} {n : Nat}, Pds H xs n → xs ≠ [] → ∃ ys y a b, xs = ys ++ [y] ∧ n = a + b ∧ Pds H ys a ∧ Pd H y b
 | _, _, .nil, h => absurd rfl h
 | _, _, .cons (x := x) (xs := xs) (m := m) (n := n) h r, _ => by
  cases xs with
  | nil => cases r; exact ⟨[], x, 0, m, rfl, by omega, .nil, h⟩
  | cons z zs =>
   obtain ⟨ys, y, a, b, e1, e2, e3, e4⟩ := pds_last r (List.cons_ne_nil _ _)
   exact ⟨x :: ys, y, m + a, b, by rw [e1]; rfl, by omega, .cons h e3, e4⟩
theorem pds_ints {H : Hp} : ∀ l : List Int, Pds H (l.map V.int) l.length
 | [] => .nil
 | n :: l => by rw [List.length_cons, Nat.add_comm]; exact .cons (.int n) (pds_ints l)
theorem pd_ints {H : Hp} {a : Addr} {l : List Int} (h : H a = some (.tup (l.map V.int))) : Pd H (.ref a) (l.length + 1) := .tup h (pds_ints l)
theorem pds_refs {α : Type} {H : Hp} {N : Nat} : ∀ (ps : List Addr) (l : List α), ps.length = l.length → (∀ (i : Nat) q u, ps[i]? = some q → l[i]? = some u → ∃ n, n ≤ N ∧ Pd H (.ref q) n) → ∃ m, m ≤ N * l.length ∧ Pds H (ps.map V.ref) m
 | [], [], _, _ => ⟨0, Nat.zero_le _, .nil⟩
 | q :: ps, u :: l, hl, h => by
  obtain ⟨n, h1, h2⟩ := h 0 q u rfl rfl
  obtain ⟨m, g1, g2⟩ := pds_refs ps l (by simpa using hl) fun i b w e1 e2 => h (i + 1) b w e1 e2
  refine ⟨n + m, ?_, .cons h2 g2⟩
  rw [List.length_cons, Nat.mul_succ]
  omega
theorem pd_u {H : Hp} (o : Option Nat) : Pd H (vU o) 1 := by cases o with | none => exact .non | some n => exact .int _
theorem pds_u {H : Hp} : ∀ l : List (Option Nat), Pds H (l.map vU) l.length
 | [] => .nil
 | u :: l => by rw [List.length_cons, Nat.add_comm]; exact .cons (pd_u u) (pds_u l)
theorem pd_ev {H : Hp} {r : Addr} {e : Ev} (h : H r = some (.tup (evV e))) : ∃ n, n ≤ 3 ∧ Pd H (.ref r) n := by
 cases e with
 | start p => exact ⟨_, Nat.le_refl 3, .tup h (.cons (.str _) (.cons (.int _) .nil))⟩
 | key l => exact ⟨_, Nat.le_refl 3, .tup h (.cons (.str _) (.cons (.int _) .nil))⟩
 | tick => exact ⟨_, by decide, .tup h (.cons (.str _) .nil)⟩
 | step => exact ⟨_, by decide, .tup h (.cons (.str _) .nil)⟩
theorem pic_pd {K : PySem.W.Frag} {H : Hp} {t tc ti to_ tp tb : Addr} {tbs : List Addr} {u : Usr} {M : Nat} (p : PicAt K H t tc ti to_ tp tb tbs u) (h : RgU u) (hp : u.pap.length ≤ M) : ∃ n, n ≤ M + 300 ∧ Pd H (.ref t) n := by
 have h1 := h.rm.len
 have h2 := h.inl
 have h3 := h.outl
 have h4 := h.bl
 obtain ⟨m, hm, hb⟩ := pds_refs (H := H) (N := 17) tbs u.blk p.bln fun i b w e1 e2 => ⟨w.length + 1, by have := h.bw w (List.mem_of_getElem? e2); omega, pd_ints (p.bls i b w e1 e2)⟩
 refine ⟨_, ?_, .tup p.all (.cons (pd_ints p.cel) (.cons (.int _) (.cons (.int _) (.cons (.int _) (.cons (pd_ints p.inb) (.cons (pd_ints p.out) (.cons (pd_ints p.pap) (.cons (.tup p.blk hb) (.cons (.int _) (.cons (.str _) (.cons (.int _) (.cons (.int _) (.cons (.int _) .nil)))))))))))))⟩
 omega
theorem sav_pd {K : PySem.W.Frag} {H : Hp} {B : SvA} {s : Hse} {M : Nat} (S : SavAt K H B s) (h : Bd s M) (hM : M ≤ 10000) : ∃ n, n ≤ 1000000 ∧ Pd H (.ref B.t) n := by
 have n1 := h.n1
 have n2 := h.n2
 have ro := h.ro
 have rl := h.rl
 obtain ⟨a, a1, a2⟩ := pds_refs (H := H) (N := M + 300) B.ps s.us S.pl fun i q u e1 e2 => by
  obtain ⟨tc, ti, to_, tp, tb, tbs, p⟩ := S.pc i q u e1 e2
  exact pic_pd p (h.ru u (List.mem_of_getElem? e2)) (h.pa u (List.mem_of_getElem? e2))
 obtain ⟨b, b1, b2⟩ := pds_refs (H := H) (N := 3 * M + 1) B.ds s.di S.dl fun i q e e1 e2 => by
  obtain ⟨rs, E1, E2, E3⟩ := S.dd i q e e1 e2
  obtain ⟨m, hm, hp⟩ := pds_refs (H := H) (N := 3) rs e E2 fun i r ev y1 y2 => pd_ev (E3 i r ev y1 y2)
  have := h.dl e (List.mem_of_getElem? e2)
  exact ⟨m + 1, by omega, .tup E1 hp⟩
 have hw := S.w
 rw [rowV_eq] at hw
 have hr : (rowI s.row).length = s.row.length := List.length_map _
 have m1 : (M + 300) * s.us.length ≤ 10300 * 8 := Nat.mul_le_mul (by omega) n1
 have m2 : (3 * M + 1) * s.di.length ≤ 30001 * 8 := Nat.mul_le_mul (by omega) (by omega)
 refine ⟨_, ?_, .tup S.o (.cons (.tup S.p a2) (.cons (.tup S.d b2) (.cons (.tup S.r (pds_u _)) (.cons (.int _) (.cons (.int _) (.cons (pd_u _) (.cons (.tup hw (pds_ints _)) (.cons (.int _) (.cons (.int _) (.cons (.int _) (.cons (.int _) (.cons (.int _) (.cons (.int _) .nil)))))))))))))⟩
 omega
structure Kits (K : PySem.W.Frag) : Prop where
 tt : PySem.W.kitOne K (.type "tuple") (.type "tuple") = some true
 it : PySem.W.kitOne K (.type "int") (.type "tuple") = some false
 st : PySem.W.kitOne K (.type "str") (.type "tuple") = some false
 nt : PySem.W.kitOne K (.type "NoneType") (.type "tuple") = some false
 ss : PySem.W.kitOne K (.type "str") (.type "str") = some true
 is_ : PySem.W.kitOne K (.type "int") (.type "str") = some false
def sp_plain (K : PySem.W.Frag) : Sp := fun vs H Q _ => ∃ (t : Addr) (n : Nat), vs = [.ref t] ∧ (∃ xs, H t = some (.tup xs)) ∧ Pd H (.ref t) n ∧ n ≤ 1000000 ∧ ∀ H', Same H H' → Q (.bl true) H'
def sp_all (K : PySem.W.Frag) (CH CP CM : Addr) : Sp := fun vs H Q _ => ∃ A s M th n r q b, vs = [.ref A.h, .ref th] ∧ HAt CH CP CM H A s ∧ Bd s M ∧ H th = some (.tup (hallV n r q b)) ∧ s.us.length = n ∧ ∀ p H', DRd K H' (.ref p) (allD s n) → Same H H' → Q (.ref p) H'
section
variable {P : Program} {w : World} {K : PySem.W.Frag} {mg : Str → Option Value} {base : Heap} {CH CP CM : Addr}
theorem ok_all (R : Raw K mg "_law_all" s_law_all) (T : TxtL K mg) (TH : TxtH K mg CH CP CM) (G_seen : GF P w K mg base "seen" ["house", "user"] 2 (sp_seen K CH CP CM)) (G_diary : GF P w K mg base "diary" ["house", "user"] 1 (sp_diary CH CP CM)) (G_room_of : GF P w K mg base "room_of" ["house", "user"] 2 (sp_room CH CP CM)) : GF P w K mg base "_law_all" ["_law_made_here", "_law_hall_here"] 3 (sp_all K CH CP CM) := by
 refine GF.mk R sc_law_all (by wtm_at "2") (fun vs H Q E h => ?_) (fun f cdv A outer s H vs Q E hr h => ?_)
 ·obtain ⟨A, s, M, th, n, r, q, b, rfl, _⟩ := h; rfl
 ·obtain ⟨A, s, M, th, n, r, q, b, rfl, D, hB, hth, hlen, k⟩ := h
  have hn8 := hB.n1
  have hro := hB.ro
  refine ⟨_, (@pss_cons _ _ _ _ _ (@ps_setLC _ _ _ _ _ _ _ _ _ _ _ _ ([("_law_made_here" , 0)]) (2) _ _ _ sc_law_all.nd rfl (Or.inl rfl) rfl rfl (@pi_range1 _ _ _ _ _ _ rfl T.range_ (@pa_c _ _ _ _ _ (@pe_ix _ _ _ _ _ _ _ (ix_tupK (K := K) rfl) (pv 1) pe_int (fun _ _ => rfl)) pa_nil rfl) rfl) ⟨rfl, rfl, by decide +kernel, by decide +kernel, rfl, by decide +kernel, ⟨rfl, trivial⟩ , rfl, ⟨⟨rfl, .inl rfl, .inl rfl, _, rfl, rfl⟩ , trivial⟩⟩ (fun _ _ _ _ => pts_nil) (fun _ _ _ _ => (@pe_tup _ _ _ _ _ (@pa_c _ _ _ _ _ (@pe_gcallN _ _ _ _ _ _ _ _ _ _ G_seen (hr.mono (by decide)) rfl (@pa_c _ _ _ _ _ (pv 1) (@pa_c _ _ _ _ _ (pv 0) pa_nil rfl) rfl) (by decide) rfl) (@pa_c _ _ _ _ _ (@pe_gcallN _ _ _ _ _ _ _ _ _ _ G_diary (hr.mono (by decide)) rfl (@pa_c _ _ _ _ _ (pv 1) (@pa_c _ _ _ _ _ (pv 0) pa_nil rfl) rfl) (by decide) rfl) (@pa_c _ _ _ _ _ (@pe_gcallN _ _ _ _ _ _ _ _ _ _ G_room_of (hr.mono (by decide)) rfl (@pa_c _ _ _ _ _ (pv 1) (@pa_c _ _ _ _ _ (pv 0) pa_nil rfl) rfl) (by decide) rfl) pa_nil rfl) rfl) rfl))) (fun _ => rfl) (by first | exact .inl rfl | exact .inr rfl | assumption)) (@pss_cons _ _ _ _ _ (@ps_set _ _ (3) _ _ _ _ sc_law_all.nd rfl (Or.inl rfl) (@pe_tup _ _ _ _ _ (@pa_c _ _ _ _ _ (@pe_fldK _ (K) _ _ _ _ rfl (pv 0) rfl) (@pa_c _ _ _ _ _ (@pe_callTyN _ _ _ _ _ _ _ _ _ (call_list_ofN (K := K) rfl) (by rfl) T.list_ bo_list (@pa_c _ _ _ _ _ (@pe_fldK _ (K) _ _ _ _ rfl (pv 0) rfl) pa_nil rfl) (by decide) (by decide) rfl) (@pa_c _ _ _ _ _ (@pe_fldK _ (K) _ _ _ _ rfl (pv 0) rfl) (@pa_c _ _ _ _ _ (@pe_fldK _ (K) _ _ _ _ rfl (pv 0) rfl) (@pa_c _ _ _ _ _ (@pe_fldK _ (K) _ _ _ _ rfl (pv 0) rfl) (@pa_c _ _ _ _ _ (@pe_fldK _ (K) _ _ _ _ rfl (pv 0) rfl) (@pa_c _ _ _ _ _ (@pe_fldK _ (K) _ _ _ _ rfl (pv 0) rfl) (@pa_c _ _ _ _ _ (@pe_fldK _ (K) _ _ _ _ rfl (pv 0) rfl) pa_nil rfl) rfl) rfl) rfl) rfl) rfl) rfl) rfl)) rfl (by first | exact .inl rfl | exact .inr rfl | assumption)) (@pss_one _ _ _ (@ps_ret _ _ _ _ (@pe_tup _ _ _ _ _ (@pa_c _ _ _ _ _ (pv 2) (@pa_c _ _ _ _ _ (pv 3) pa_nil rfl) rfl)))))), ?_⟩
  wtm_at "vv"
  refine ixTS (i := 0) (SqT.of hth) rfl ?_
  wtm_at "vv"
  refine ⟨_, rfl, by omega, by omega, lc_rangeI (lo := 0) (n := n) (fun i acc H' => Same H H' ∧ DRds K H' acc ((List.range i).map (oneD s))) (by rw [sizeLine_eq]; omega) ⟨Same.refl _, .nil⟩ (fun i acc H' h => ?_) (fun i acc H' hi h Q' q' => ?_) (fun acc H1 h l nl => ?_)⟩
  ·have := drds_len h.2
   rw [List.length_map, List.length_range] at this
   exact this
  ·obtain ⟨sm, hd⟩ := h
   rw [Int.zero_add]
   wtm_at "vv"
   refine ⟨A, s, M, i, rfl, D.keep sm, hB, by omega, fun p1 q1 q2 q3 q4 q5 q6 H2 P2 s2 => ?_⟩
   wtm_at "vv"
   refine ⟨A, s, i, rfl, (D.keep sm).keep s2, by rw [hB.n2]; omega, fun l1 r1 H3 nl1 E3 s3 => ?_⟩
   wtm_at "vv"
   refine ⟨A, s, i, rfl, ((D.keep sm).keep s2).keep s3, by omega, fun H4 s4 => ?_⟩
   wtm_at "vv"
   refine Sx.newT (by show 3 ≤ sizeLine; decide) fun p H5 np hp s5 => ?_
   have s25 := s3.trans (s4.trans s5)
   refine q' _ _ ⟨sm.trans (s2.trans s25), ?_⟩
   rw [List.range_succ, List.map_append]
   refine drds_app ?_ (drds_keep (s2.trans s25) hd)
   have E5 := (E3.keep s4).keep s5
   exact .tup (SqT.of hp) (.cons (P2.keep s25).drd (.cons (.lst (SqL.of E5.1) (drds_evs _ _ E5.2.1 E5.2.2)) (.cons (drd_u _) .nil)))
  obtain ⟨s1, hd⟩ := h
  have s2 : Same H1 (upd H1 l (.lst acc)) := Same.newH nl
  have hl2 : (upd H1 l (.lst acc)) l = some (.lst acc) := upd_same
  generalize upd H1 l (.lst acc) = H2 at s2 hl2 ⊢
  have hd2 : DRd K H2 (.ref l) (.list ((List.range n).map (oneD s))) := .lst (SqL.of hl2) (drds_keep s2 hd)
  have D2 := (D.keep s1).keep s2
  wtm_at "vv"
  refine Sx.listOf (.inl (SqL.of D2.lw)) fun lr H3 nlr hlr s3 => ?_
  have D3 := D2.keep s3
  wtm_at "vv"
  refine Sx.newT (by show 8 ≤ sizeLine; decide) fun tc H4 ntc htc s4 => ?_
  wtm_at "vv"
  refine Sx.newT (by show 2 ≤ sizeLine; decide) fun p H5 np hp s5 => ?_
  have s25 := s3.trans (s4.trans s5)
  have hlr5 := s5 _ _ (s4 _ _ hlr)
  rw [rowV_eq] at hlr5
  refine k p H5 (.tup (SqT.of hp) (.cons (drd_keep s25 hd2) (.cons (.tup (SqT.of (s5 _ _ htc)) (.cons (drd_u _) (.cons (.lst (SqL.of hlr5) (drds_ints _)) (drds_ints [s.left, s.steps, s.idle, s.ticks, s.swaps, s.turn])))) .nil))) (s1.trans (s2.trans s25))
theorem ok_plain (R : Raw K mg "_law_plain" s_law_plain) (T : TxtL K mg) (KT : Kits K) (G_law_whole : GF P w K mg base "_law_whole" ["_law_found"] 1 sp_whole) : GF P w K mg base "_law_plain" ["_law_told"] 2 (sp_plain K) := by
 refine GF.mk R sc_law_plain (by wtm_at "1") (fun vs H Q E h => ?_) (fun f cdv A outer s H vs Q E hr h => ?_)
 ·obtain ⟨t, n, rfl, _⟩ := h; rfl
 ·obtain ⟨t, n0, rfl, ⟨xt, hxt⟩, hd, hz, k⟩ := h
  refine ⟨_, (@pss_cons _ _ _ _ _ (@ps_set _ _ (1) _ _ _ _ sc_law_plain.nd rfl (Or.inl rfl) (@pe_lst _ _ _ _ (@pa_c _ _ _ _ _ (pv 0) pa_nil rfl)) rfl (by first | exact .inl rfl | exact .inr rfl | assumption)) (@pss_cons _ _ _ _ _ (@ps_while _ _ _ _ _ _ PassesOwn.never (@pt_truthK _ (K) _ _ rfl (pv 1) (fun _ => rfl)) (@pss_cons _ _ _ _ _ (@ps_set _ _ (2) _ _ _ _ sc_law_plain.nd rfl (Or.inl rfl) (pe_bm0 PySem.F.plainAttrs_list PySem.F.slot_list_pop PySem.F.type_list_pop mt_pop (pv 1)) rfl (by first | exact .inl rfl | exact .inr rfl | assumption)) (@pss_one _ _ _ (@ps_if _ _ _ _ _ _ _ _ (@pt_val _ _ _ (@pe_callBN _ _ _ _ _ _ _ _ _ (call_isinstN (K := K) rfl) (by rfl) T.isinstance_ bo_isinstance (@pa_c _ _ _ _ _ (pv 2) (@pa_c _ _ _ _ _ (@pe_bltn _ _ (.ty "tuple") _ _ rfl T.tuple_ bo_tuple rfl (by decide) (by decide)) pa_nil rfl) rfl) (by decide) (by decide) rfl) (fun _ => rfl)) (@pss_one _ _ _ (@ps_expr _ _ _ _ (pe_bm PySem.F.plainAttrs_list PySem.F.slot_list_extend PySem.F.type_list_extend (mt_extT (K := K) rfl) (pv 1) (@pa_c _ _ _ _ _ (pv 2) pa_nil rfl)) rfl)) (@pss_one _ _ _ (@ps_if _ _ _ _ _ _ _ _ (@PW.pt _ _ _ (@pw_and _ _ _ _ _ _ _ (@pt_cmpR _ _ _ _ _ _ _ _ op_notN (pv 2) pe_non (nomark _)) (@pw_and _ _ _ _ _ _ _ (@pt_not _ _ _ _ (@pt_val _ _ _ (@pe_callBN _ _ _ _ _ _ _ _ _ (call_isinstN (K := K) rfl) (by rfl) T.isinstance_ bo_isinstance (@pa_c _ _ _ _ _ (pv 2) (@pa_c _ _ _ _ _ (@pe_bltn _ _ (.ty "str") _ _ rfl T.str_ bo_str rfl (by decide) (by decide)) pa_nil rfl) rfl) (by decide) (by decide) rfl) (fun _ => rfl))) (@pw_and1 _ _ _ _ (@pt_not _ _ _ _ (@pt_val _ _ _ (@pe_gcallN _ _ _ _ _ _ _ _ _ _ G_law_whole (hr.mono (by decide)) rfl (@pa_c _ _ _ _ _ (pv 2) pa_nil rfl) (by decide) rfl) (fun _ => rfl))))))) (@pss_one _ _ _ (@ps_ret _ _ _ _ pe_bl)) pss_nil)))))) (@pss_one _ _ _ (@ps_ret _ _ _ _ (@pe_callBN _ _ _ _ _ _ _ _ _ (call_isinstN (K := K) rfl) (by rfl) T.isinstance_ bo_isinstance (@pa_c _ _ _ _ _ (pv 0) (@pa_c _ _ _ _ _ (@pe_bltn _ _ (.ty "tuple") _ _ rfl T.tuple_ bo_tuple rfl (by decide) (by decide)) pa_nil rfl) rfl) (by decide) (by decide) rfl))))), ?_⟩
  wtm_at "vv"
  refine Sx.newL (by show 1 ≤ sizeLine; decide) fun l H1 nl hl s1 => ?_
  wtm_at "vv"
  refine ⟨fun m σ' H' => ∃ xs v, σ' = [some (.ref t), some (.ref l), v] ∧ H' l = some (.lst xs) ∧ Pds H xs m ∧ m ≤ 1000000 ∧ Same H H', ⟨n0 + 0, [.ref t], _, rfl, hl, .cons hd .nil, by omega, s1⟩, ?_⟩
  rintro m _ H2 ⟨xs, v, rfl, hl2, hp2, hm2, s2⟩
  have frm : ∀ {Hx Hy : Hp}, Same H Hx → (∀ b o, b ≠ l → Hx b = some o → Hy b = some o) → Same H Hy := fun s f b o e => f b o (ne_of_none e nl) (s b o e)
  wtm_at "vv"
  refine Sx.truL hl2 ?_
  by_cases g : xs = []
  ·subst g
   rw [if_neg (by simp)]
   wtm_at "vv"
   exact Sx.isT (TyOf.tup (s2 _ _ hxt)) KT.tt (k _ s2)
  ·have g2 : (!xs.isEmpty) = true := by cases xs with | nil => exact absurd rfl g | cons _ _ => rfl
   rw [if_pos g2]
   obtain ⟨ys, y, a, b, rfl, rfl, hys, hy⟩ := pds_last hp2 g
   have hb := pd_pos hy
   refine ⟨fun σ' H' => ∃ m', m' < a + b ∧ ∃ xs v, σ' = [some (.ref t), some (.ref l), v] ∧ H' l = some (.lst xs) ∧ Pds H xs m' ∧ m' ≤ 1000000 ∧ Same H H', fun σ' H' h => h, ?_⟩
   wtm_at "vv"
   refine Sx.bm0 ?_
   wtm_at "vv"
   refine ⟨.inl ⟨rfl, _, SqL.of hl2⟩, ?_⟩
   refine Sx.popL hl2 fun H3 hl3 f3 => ?_
   have s3 := frm s2 f3
   wtm_at "vv"
   cases hy with
   | non =>
    refine Sx.isT .non KT.nt ?_
    wtm_at "vv"
    exact ⟨a, by omega, ys, _, rfl, hl3, hys, by omega, s3⟩
   | int i =>
    refine Sx.isT (.int i) KT.it ?_
    wtm_at "vv"
    refine iteN (fun _ => ?_) (fun z => nomatch z)
    wtm_at "vv"
    refine Sx.isT (.int i) KT.is_ ?_
    wtm_at "vv"
    exact ⟨a, by omega, ys, _, rfl, hl3, hys, by omega, s3⟩
   | str x =>
    refine Sx.isT (.str x) KT.st ?_
    wtm_at "vv"
    refine iteN (fun _ => ?_) (fun z => nomatch z)
    wtm_at "vv"
    refine Sx.isT (.str x) KT.ss ?_
    wtm_at "vv"
    exact ⟨a, by omega, ys, _, rfl, hl3, hys, by omega, s3⟩
   | tup ht hr =>
    refine Sx.isT (.tup (s3 _ _ ht)) KT.tt ?_
    wtm_at "vv"
    refine ⟨.inl ⟨rfl, _, SqL.of hl3⟩, ?_⟩
    wtm_at "vv"
    have l1 := pds_len hys
    have l2 := pds_len hr
    refine Sx.extT hl3 (SqT.of (s3 _ _ ht)) (by omega) fun H4 hl4 f4 => ?_
    exact ⟨_, by omega, _, _, rfl, hl4, pds_cat hys hr, by omega, frm s3 f4⟩
theorem bd_acts {n : Nat} : ∀ (cs : List Lh.Act) (s : Hse) (M : Nat), Bd s M → s.us.length = n → (∀ c ∈ cs, ActOk n c) → M + 100 * cs.length < 700000 → Bd (cs.foldl doA s) (M + 100 * cs.length) ∧ (cs.foldl doA s).us.length = n
 | [], s, M, h, hl, _, _ => ⟨h.mono (by simp), hl⟩
 | c :: cs, s, M, h, hl, hc, hM => by
  have h1 := Bd.act h (c := c) (by rw [hl]; exact hc c List.mem_cons_self) (by rw [List.length_cons] at hM; omega)
  have l1 : (doA s c).us.length = n := by rw [doA_len, hl]
  obtain ⟨a, b⟩ := bd_acts cs (doA s c) (M + 100) h1 l1 (fun x hx => hc x (List.mem_cons_of_mem _ hx)) (by rw [List.length_cons] at hM; omega)
  exact ⟨a.mono (by rw [List.length_cons]; omega), b⟩
theorem loop_do {σ : St} {D : Ends} {H : Hp} {A : HAd} {s : Hse} {M : Nat} {lq : Addr} {rs : List Addr} {cs : List Lh.Act} {i j : Nat} (hi : σ[i]? = some (some (.ref A.h))) (hij : j ≠ i) (hj : j < σ.length) (D0 : HAt CH CP CM H A s) (hB : Bd s M) (hM : M + 100 * cs.length < 600000) (C : ActsAt H lq rs cs) (nl : lq ∉ footH A) (ok : ∀ c ∈ cs, ActOk s.us.length c)
  (k : ∀ A' H' v, HAt CH CP CM H' A' (cs.foldl doA s) → HFr A A' H H' → D.nx (σ.set j v) H') :
  ∃ W : Nat → Nat → St → Hp → Prop, (∃ m, W 0 m σ H) ∧ ∀ i_1 m σ H, W i_1 m σ H →
   ((Itl K lq).stop i_1 H ∧ D.nx σ H) ∨ ((Itl K lq).go i_1 H ∧ ∃ N : St → Hp → Prop, (∀ σ' H', N σ' H' → ∃ m', m' < m ∧ W (i_1 + 1) m' σ' H') ∧ ∀ x H', (Itl K lq).yld i_1 H x H' → gName j x σ H' fun σ2 H2 => tDrop (tCall (sp_do CH CP CM) [] E0 (tCons (tVar i) (tCons (tVar j) tNil))) { D with nx := N, ct := N, bk := D.nx } σ2 H2) := by
 refine for_list (xs := rs.map V.ref) (fun x σ' H' => ∃ A' v, σ' = σ.set j v ∧ HAt CH CP CM H' A' ((cs.take x).foldl doA s) ∧ HFr A A' H H') ?_ ?_ ?_ ?_
 ·refine ⟨A, σ[j], ?_, D0, HFr.refl⟩
  rw [List.set_getElem_self]
 ·rintro x σ' H' _ ⟨A', v, _, D', F'⟩
  exact SqL.of (F'.f _ _ C.1 nl)
 ·rintro x y σ' H' hy ⟨A', v, rfl, D', F'⟩
  rw [List.getElem?_map] at hy
  cases hrx : rs[x]? with
  | none => rw [hrx] at hy; cases hy
  | some r =>
   rw [hrx] at hy
   cases hy
   have hx : x < cs.length := by rw [← C.2.1]; exact get_lt hrx
   have hc := List.getElem?_eq_getElem hx
   have C' := C.far F'.f nl (fun z hz => D0.kind hz)
   have hr := C'.2.2 x r _ hrx hc
   obtain ⟨b1, b2⟩ := bd_acts (n := s.us.length) (cs.take x) s M hB rfl (fun c hc => ok c (List.mem_of_mem_take hc)) (by rw [List.length_take]; omega)
   have hlt : (cs.take x).length ≤ cs.length := by rw [List.length_take]; omega
   refine Sx.nm ?_
   rw [List.set_set]
   refine Sx.drop (Sx.call (Sx.cons (Sx.var (v := .ref A.h) (by rw [List.getElem?_set_ne hij]; exact hi) (Sx.cons (Sx.var (v := .ref r) (List.getElem?_set_self hj) (Sx.nil ?_))))))
   refine ⟨A', _, _, r, _, by rw [F'.h]; rfl, D', b1, by omega, hr, by rw [b2]; exact ok _ (List.getElem_mem hx), fun A'' H'' D'' F'' => ?_⟩
   refine ⟨A'', _, rfl, D''.same ?_, F'.trans F''⟩
   rw [List.take_succ_eq_append_getElem hx, List.foldl_append]
   rfl
 ·rintro σ' H' ⟨A', v, rfl, D', F'⟩
  rw [List.length_map, C.2.1, List.take_length] at D'
  exact k A' H' v D' F'
theorem ok_law (R : Raw K mg "law" s_law) (T : TxtL K mg) (TH : TxtH K mg CH CP CM) (IH : InsP K CH) (G_law_cell : GF P w K mg base "_law_cell" ["_law_script", "_law_k"] 1 (sp_cell K)) (G_law_mix : GF P w K mg base "_law_mix" ["_law_cell_here", "_law_prime", "_law_many"] 1 sp_mix) (G_law_hall : GF P w K mg base "_law_hall" ["_law_script"] 2 (sp_hall K)) (G_law_made : GF P w K mg base "_law_made" ["_law_hall_here", "_law_script"] 7 (sp_made K CH CP CM))
  (G_law_acts : GF P w K mg base "_law_acts" ["_law_hall_here", "_law_script"] 2 (sp_acts K)) (G_law_do : GF P w K mg base "_law_do" ["_law_made_here", "_law_act"] 12 (sp_do CH CP CM)) (G_law_all : GF P w K mg base "_law_all" ["_law_made_here", "_law_hall_here"] 3 (sp_all K CH CP CM)) (G_law_plain : GF P w K mg base "_law_plain" ["_law_told"] 2 (sp_plain K)) (G_saved : GF P w K mg base "saved" ["house"] 2 (sp_saved K CH CP CM)) (G_taken : GF P w K mg base "taken" ["told"] 7 (sp_taken K CH CP CM))
  (G_run : GF P w K mg base "run" ["house", "count"] 11 (spHu CH CP CM (fun s n => ∃ M, Bd s M ∧ M + 10 * n < 790000) (fun s n => Hs.runN n s))) (M_House : GC P w K mg base "House" CH ["self", "users", "rooms", "quantum", "beat"] 5 (sp_initH CH CP CM)) : GF P w K mg base "law" ["_law_script"] 13 (sp_law K) := by
 refine GF.mk R sc_law (by wtm_at "1") (fun vs H Q E h => ?_) (fun f cdv A outer s H vs Q E hr h => ?_)
 ·obtain ⟨a, ns, rfl, _⟩ := h; rfl
 ·obtain ⟨a, ns, rfl, hS, k⟩ := h
  refine ⟨_, (@pss_cons _ _ _ _ _ (@ps_set _ _ (1) _ _ _ _ sc_law.nd rfl (Or.inl rfl) (@pe_gcallN _ _ _ _ _ _ _ _ _ _ G_law_hall (hr.mono (by decide)) rfl (@pa_c _ _ _ _ _ (pv 0) pa_nil rfl) (by decide) rfl) rfl (by first | exact .inl rfl | exact .inr rfl | assumption)) (@pss_cons _ _ _ _ _ (@ps_set _ _ (2) _ _ _ _ sc_law.nd rfl (Or.inl rfl) (@pe_gcallN _ _ _ _ _ _ _ _ _ _ G_law_made (hr.mono (by decide)) rfl (@pa_c _ _ _ _ _ (pv 1) (@pa_c _ _ _ _ _ (pv 0) pa_nil rfl) rfl) (by decide) rfl) rfl (by first | exact .inl rfl | exact .inr rfl | assumption)) (@pss_cons _ _ _ _ _ (@ps_set _ _ (3) _ _ _ _ sc_law.nd rfl (Or.inl rfl) (@pe_gcallN _ _ _ _ _ _ _ _ _ _ G_law_acts (hr.mono (by decide)) rfl (@pa_c _ _ _ _ _ (pv 1) (@pa_c _ _ _ _ _ (pv 0) pa_nil rfl) rfl) (by decide) rfl) rfl (by first | exact .inl rfl | exact .inr rfl | assumption)) (@pss_cons _ _ _ _ _ (@ps_set _ _ (4) _ _ _ _ sc_law.nd rfl (Or.inl rfl) (@pe_gcallN _ _ _ _ _ _ _ _ _ _ G_law_mix (hr.mono (by decide)) rfl (@pa_c _ _ _ _ _ (@pe_gcallN _ _ _ _ _ _ _ _ _ _ G_law_cell (hr.mono (by decide)) rfl (@pa_c _ _ _ _ _ (pv 0) (@pa_c _ _ _ _ _ pe_int pa_nil rfl) rfl) (by decide) rfl) (@pa_c _ _ _ _ _ pe_int (@pa_c _ _ _ _ _ (@pe_op _ _ _ _ _ _ _ _ op_add (@pe_callBN _ _ _ _ _ _ _ _ _ (call_len_seqN (K := K) rfl) (by rfl) T.len_ bo_len (@pa_c _ _ _ _ _ (pv 3) pa_nil rfl) (by decide) (by decide) rfl) pe_int) pa_nil rfl) rfl) rfl) (by decide) rfl) rfl (by first | exact .inl rfl | exact .inr rfl | assumption)) (@pss_cons _ _ _ _ _ (@ps_for _ _ _ _ _ _ _ _ PassesOwn.never rfl (@pi_listK _ (K) _ _ _ rfl (@pe_slice _ _ _ _ _ _ _ _ _ _ (sl_listK (K := K) rfl) (pv 3) po_none (@po_some _ _ _ (pv 4)))) (@pg_name _ _ (5) _ sc_law.nd rfl (Or.inl rfl) (by first | exact .inl rfl | exact .inr rfl | assumption)) (@pss_one _ _ _ (@ps_expr _ _ _ _ (@pe_gcallN _ _ _ _ _ _ _ _ _ _ G_law_do (hr.mono (by decide)) rfl (@pa_c _ _ _ _ _ (pv 2) (@pa_c _ _ _ _ _ (pv 5) pa_nil rfl) rfl) (by decide) rfl) rfl)) (fun _ => rfl)) (@pss_cons _ _ _ _ _ (@ps_set _ _ (6) _ _ _ _ sc_law.nd rfl (Or.inl rfl) (@pe_gcallN _ _ _ _ _ _ _ _ _ _ G_saved (hr.mono (by decide)) rfl (@pa_c _ _ _ _ _ (pv 2) pa_nil rfl) (by decide) rfl) rfl (by first | exact .inl rfl | exact .inr rfl | assumption)) (@pss_cons _ _ _ _ _ (@ps_set _ _ (7) _ _ _ _ sc_law.nd rfl (Or.inl rfl) (@pe_gcallN _ _ _ _ _ _ _ _ _ _ G_taken (hr.mono (by decide)) rfl (@pa_c _ _ _ _ _ (pv 6) pa_nil rfl) (by decide) rfl) rfl (by first | exact .inl rfl | exact .inr rfl | assumption)) (@pss_cons _ _ _ _ _ (@ps_if _ _ _ _ _ _ _ _ (@PW.pt _ _ _ (@pw_or _ _ _ _ _ _ _ (@pt_not _ _ _ _ (@pt_val _ _ _ (@pe_gcallN _ _ _ _ _ _ _ _ _ _ G_law_plain (hr.mono (by decide)) rfl (@pa_c _ _ _ _ _ (pv 6) pa_nil rfl) (by decide) rfl) (fun _ => rfl))) (@pw_or _ _ _ _ _ _ _ (@pt_cmpR _ _ _ _ _ _ _ _ (op_neDK (K := K) rfl (hu64 hr)) (@pe_gcallN _ _ _ _ _ _ _ _ _ _ G_saved (hr.mono (by decide)) rfl (@pa_c _ _ _ _ _ (pv 7) pa_nil rfl) (by decide) rfl) (pv 6) (nomark _)) (@pw_or1 _ _ _ _ (@pt_not _ _ _ _ (@pt_val _ _ _ (@pe_callBN _ _ _ _ _ _ _ _ _ (call_isinstCN (K := K) rfl) (by rfl) T.isinstance_ bo_isinstance (@pa_c _ _ _ _ _ (pv 7) (@pa_c _ _ _ _ _ (@pe_glob _ _ (.ref CH) _ _ rfl M_House.1 rfl (by decide)) pa_nil rfl) rfl) (by decide) (by decide) rfl) (fun _ => rfl))))))) (@pss_one _ _ _ (@ps_ret _ _ _ _ pe_bl)) pss_nil) (@pss_cons _ _ _ _ _ (@ps_for _ _ _ _ _ _ _ _ PassesOwn.never rfl (@pi_listK _ (K) _ _ _ rfl (@pe_slice _ _ _ _ _ _ _ _ _ _ (sl_listK (K := K) rfl) (pv 3) (@po_some _ _ _ (pv 4)) po_none)) (@pg_name _ _ (5) _ sc_law.nd rfl (Or.inl rfl) (by first | exact .inl rfl | exact .inr rfl | assumption)) (@pss_one _ _ _ (@ps_expr _ _ _ _ (@pe_gcallN _ _ _ _ _ _ _ _ _ _ G_law_do (hr.mono (by decide)) rfl (@pa_c _ _ _ _ _ (pv 7) (@pa_c _ _ _ _ _ (pv 5) pa_nil rfl) rfl) (by decide) rfl) rfl)) (fun _ => rfl)) (@pss_cons _ _ _ _ _ (@ps_if _ _ _ _ _ _ _ _ (@pt_cmpR _ _ _ _ _ _ _ _ (op_neDK (K := K) rfl (hu64 hr)) (@pe_gcallN _ _ _ _ _ _ _ _ _ _ G_law_all (hr.mono (by decide)) rfl (@pa_c _ _ _ _ _ (@pe_gcallN _ _ _ _ _ _ _ _ _ _ G_taken (hr.mono (by decide)) rfl (@pa_c _ _ _ _ _ (pv 6) pa_nil rfl) (by decide) rfl) (@pa_c _ _ _ _ _ (pv 1) pa_nil rfl) rfl) (by decide) rfl) (@pe_gcallN _ _ _ _ _ _ _ _ _ _ G_law_all (hr.mono (by decide)) rfl (@pa_c _ _ _ _ _ (pv 2) (@pa_c _ _ _ _ _ (pv 1) pa_nil rfl) rfl) (by decide) rfl) (nomark _)) (@pss_one _ _ _ (@ps_ret _ _ _ _ pe_bl)) pss_nil) (@pss_cons _ _ _ _ _ (@ps_for _ _ _ _ _ _ _ _ PassesOwn.never rfl (@pi_listK _ (K) _ _ _ rfl (@pe_slice _ _ _ _ _ _ _ _ _ _ (sl_listK (K := K) rfl) (pv 3) (@po_some _ _ _ (pv 4)) po_none)) (@pg_name _ _ (5) _ sc_law.nd rfl (Or.inl rfl) (by first | exact .inl rfl | exact .inr rfl | assumption)) (@pss_one _ _ _ (@ps_expr _ _ _ _ (@pe_gcallN _ _ _ _ _ _ _ _ _ _ G_law_do (hr.mono (by decide)) rfl (@pa_c _ _ _ _ _ (pv 2) (@pa_c _ _ _ _ _ (pv 5) pa_nil rfl) rfl) (by decide) rfl) rfl)) (fun _ => rfl)) (@pss_cons _ _ _ _ _ (@ps_expr _ _ _ _ (@pe_gcallN _ _ _ _ _ _ _ _ _ _ G_run (hr.mono (by decide)) rfl (@pa_c _ _ _ _ _ (pv 2) (@pa_c _ _ _ _ _ pe_int pa_nil rfl) rfl) (by decide) rfl) rfl) (@pss_cons _ _ _ _ _ (@ps_expr _ _ _ _ (@pe_gcallN _ _ _ _ _ _ _ _ _ _ G_run (hr.mono (by decide)) rfl (@pa_c _ _ _ _ _ (pv 7) (@pa_c _ _ _ _ _ pe_int pa_nil rfl) rfl) (by decide) rfl) rfl) (@pss_one _ _ _ (@ps_ret _ _ _ _ (@pe_and _ _ _ _ _ _ _ (@pe_cmpR _ _ _ _ _ _ _ _ (op_eqDK (K := K) rfl (hu64 hr)) (@pe_gcallN _ _ _ _ _ _ _ _ _ _ G_law_all (hr.mono (by decide)) rfl (@pa_c _ _ _ _ _ (pv 7) (@pa_c _ _ _ _ _ (pv 1) pa_nil rfl) rfl) (by decide) rfl) (@pe_gcallN _ _ _ _ _ _ _ _ _ _ G_law_all (hr.mono (by decide)) rfl (@pa_c _ _ _ _ _ (pv 2) (@pa_c _ _ _ _ _ (pv 1) pa_nil rfl) rfl) (by decide) rfl) (nomark _)) (@pe_one _ _ _ _ _ (@pe_cmpR _ _ _ _ _ _ _ _ (op_eqDK (K := K) rfl (hu64 hr)) (@pe_gcallN _ _ _ _ _ _ _ _ _ _ G_saved (hr.mono (by decide)) rfl (@pa_c _ _ _ _ _ (pv 7) pa_nil rfl) (by decide) rfl) (@pe_gcallN _ _ _ _ _ _ _ _ _ _ G_saved (hr.mono (by decide)) rfl (@pa_c _ _ _ _ _ (pv 2) pa_nil rfl) (by decide) rfl) (nomark _))))))))))))))))))), ?_⟩
  wtm_at "vv"
  refine ⟨a, ns, rfl, hS, fun th H1 hth s1 => ?_⟩
  have hU := users_in ns
  have hRm := rooms_in ns
  have hBe := bea_in ns
  generalize usersN ns = n at hth hU hRm
  generalize roomsN ns = rm at hth hRm
  generalize quaN ns = qu at hth
  generalize beaN ns = be at hth hBe
  have hS1 := s1.seq hS
  wtm_at "vv"
  refine ⟨th, a, n, rm, qu, be, ns, rfl, hth, hS1, by omega, by omega, by omega, fun A H2 nA D2 s2 => ?_⟩
  have hS2 := s2.seq hS1
  have hth2 := s2 _ _ hth
  have hBd := made_bd (q := qu) (b := be) (n := n) (r := rm) (by omega) (by omega) (by omega) ns n (Nat.le_refl _)
  have hlen := made_len n rm qu be ns n
  generalize madeN n rm qu be ns n = u0 at D2 hBd hlen
  wtm_at "vv"
  refine ⟨th, a, n, rm, qu, be, ns, rfl, hth2, hS2, by omega, by omega, fun la rs H3 nla C3 s3 => ?_⟩
  have hok := acts_ok (n := n) (by omega) ns
  have hal := acts_len (n := n) (by omega) ns
  generalize actsL n ns = cs at C3 hok hal
  have nlA : la ∉ footH A := D2.fresh nla
  have D3 := D2.keep s3
  have hS3 := s3.seq hS2
  have hth3 := s3 _ _ hth2
  wtm_at "vv"
  refine Sx.lenL C3.1 ?_
  wtm_at "vv"
  have hrl : (rs.map V.ref).length = cs.length := by rw [List.length_map]; exact C3.2.1
  rw [hrl]
  refine ⟨_, _, _, rfl, by decide, by omega, ?_⟩
  have c0 : 0 ≤ ns.getD (Int.toNat 10) 0 * 48271 % 9851 % ((cs.length : Int) + 1) := Int.emod_nonneg _ (by omega)
  have c1 : ns.getD (Int.toNat 10) 0 * 48271 % 9851 % ((cs.length : Int) + 1) < (cs.length : Int) + 1 := Int.emod_lt_of_pos _ (by omega)
  generalize ns.getD (Int.toNat 10) 0 * 48271 % 9851 % ((cs.length : Int) + 1) = cutI at c0 c1
  obtain ⟨cut, rfl⟩ := Int.eq_ofNat_of_zero_le c0
  have hcut : cut ≤ cs.length := by omega
  have takes : ∀ {Hx : Hp} {lq : Addr}, ActsAt Hx la rs cs → Hx lq = some (.lst (cutV (rs.map V.ref) none (some (cut : Int)))) → ActsAt Hx lq (rs.take cut) (cs.take cut) := fun {Hx lq} C e => by
   refine ⟨by rw [e, cutTo, List.map_take], by rw [List.length_take, List.length_take, C.2.1], fun i r c g1 g2 => ?_⟩
   rw [List.getElem?_take] at g1 g2
   by_cases z : i < cut
   ·rw [if_pos z] at g1 g2
    exact C.2.2 i r c g1 g2
   ·rw [if_neg z] at g1; cases g1
  have drops : ∀ {Hx : Hp} {lq : Addr}, ActsAt Hx la rs cs → Hx lq = some (.lst (cutV (rs.map V.ref) (some (cut : Int)) none)) → ActsAt Hx lq (rs.drop cut) (cs.drop cut) := fun {Hx lq} C e => by
   refine ⟨by rw [e, cutFrom, List.map_drop], by rw [List.length_drop, List.length_drop, C.2.1], fun i r c g1 g2 => ?_⟩
   rw [List.getElem?_drop] at g1 g2
   exact C.2.2 _ r c g1 g2
  have okt : ∀ c ∈ cs.take cut, ActOk n c := fun c hc => hok c (List.mem_of_mem_take hc)
  have okd : ∀ c ∈ cs.drop cut, ActOk n c := fun c hc => hok c (List.mem_of_mem_drop hc)
  have lt : (cs.take cut).length ≤ 24 := by rw [List.length_take]; omega
  have ld : (cs.drop cut).length ≤ 24 := by rw [List.length_drop]; omega
  wtm_at "vv"
  refine Sx.slN (SqL.of C3.1) fun lq H4 nlq hlq s4 => ?_
  have C4 := C3.keep s4
  have D4 := D3.keep s4
  obtain ⟨bdS, lenS⟩ := bd_acts (cs.take cut) u0 0 hBd hlen okt (by omega)
  refine ⟨lq, rfl, ⟨_, SqL.of hlq⟩, loop_do (i := 2) (j := 5) (A := A) rfl (by decide) (by show 5 < 8; decide) D4 hBd (by omega) (takes C4 hlq) (D3.fresh nlq) (by rw [hlen]; exact okt) fun A5 H5 v5 D5 F5 => ?_⟩
  have nl4 : la ∉ footH A := nlA
  have C5 := C4.far F5.f nl4 (fun x hx => D4.kind hx)
  have nlA5 := (F5.safe C4.1 nl4).2
  have hth5 := F5.f _ _ (s4 _ _ hth3) (fun z => D4.kind z _ (s4 _ _ hth3))
  have eA5 : A.h = A5.h := F5.h.symm
  rw [eA5]
  generalize hsc : (cs.take cut).foldl doA u0 = sc at D5 bdS lenS
  clear D4 D3 D2 F5 eA5
  wtm_at "vv"
  refine ⟨A5, sc, _, rfl, D5, bdS, by omega, fun B H6 S6 s6 => ?_⟩
  have D6 := D5.keep s6
  have C6 := C5.keep s6
  have hth6 := s6 _ _ hth5
  wtm_at "vv"
  refine ⟨B, sc, _, rfl, S6, bdS, by omega, fun O H7 nO E7 s7 => ?_⟩
  have D7 := D6.keep s7
  have S7 := S6.keep s7
  have C7 := C6.keep s7
  have hth7 := s7 _ _ hth6
  have dis7 : ∀ x ∈ footH O, x ∉ footH A5 := fun x hx hy => by
   obtain ⟨o, e⟩ := D6.there hy
   rw [nO x hx] at e; cases e
  have nlO : la ∉ footH O := fun z => by have := C6.1; rw [nO la z] at this; cases this
  wtm_at "vv"
  obtain ⟨np, hnp, pd⟩ := sav_pd S7 bdS (by omega)
  refine ⟨B.t, np, rfl, ⟨_, S7.o⟩, pd, hnp, fun H8 s8 => ?_⟩
  have D8 := D7.keep s8
  have E8 := E7.keep s8
  have S8 := S7.keep s8
  have C8 := C7.keep s8
  have hth8 := s8 _ _ hth7
  wtm_at "vv"
  refine ⟨O, sc, _, rfl, E8, bdS, by omega, fun B2 H9 S9 s9 => ?_⟩
  have D9 := D8.keep s9
  have E9 := E8.keep s9
  have S9' := S8.keep s9
  have C9 := C8.keep s9
  have hth9 := s9 _ _ hth8
  wtm_at "vv"
  refine sav_ne (sav_drd S9) (sav_drd S9') ?_
  wtm_at "vv"
  refine Sx.isC (TyOf.ins E9.o TH.clH IH.i1 IH.i2 IH.i3 IH.i4) IH.i5 ?_
  wtm_at "vv"
  refine Sx.slN (SqL.of C9.1) fun l2 Ha n2 h2 sa => ?_
  have Ca := C9.keep sa
  have Da := D9.keep sa
  have Ea := E9.keep sa
  have Sa := S9'.keep sa
  have htha := sa _ _ hth9
  obtain ⟨bdE, lenE⟩ := bd_acts (cs.drop cut) sc _ bdS lenS okd (by omega)
  refine ⟨l2, rfl, ⟨_, SqL.of h2⟩, loop_do (i := 7) (j := 5) (A := O) rfl (by decide) (by show 5 < 8; decide) Ea bdS (by omega) (drops Ca h2) (E9.fresh n2) (by rw [lenS]; exact okd) fun O2 Hb vb Eb Fb => ?_⟩
  have Db := Lh.HAt.far Da Fb Ea (fun x hx hy => dis7 x hy hx)
  have disb : ∀ x ∈ footH A5, x ∉ footH O2 := dis_of Da Fb (fun x hx hy => dis7 x hy hx)
  have Cb := Ca.far Fb.f nlO (fun x hx => Ea.kind hx)
  have nlOb := (Fb.safe Ca.1 nlO).2
  have Sb := Sa.far Fb.f (fun x hx => Ea.kind hx)
  have hthb := Fb.f _ _ htha (fun z => Ea.kind z _ htha)
  have eO : O.h = O2.h := Fb.h.symm
  rw [eO]
  generalize hse : (cs.drop cut).foldl doA sc = se at Eb bdE lenE
  wtm_at "vv"
  refine ⟨B, sc, _, rfl, Sb, bdS, by omega, fun O3 Hc nO3 Gc sC => ?_⟩
  have Dc := Db.keep sC
  have Ec := Eb.keep sC
  have Cc := Cb.keep sC
  have hthc := sC _ _ hthb
  wtm_at "vv"
  refine ⟨O3, sc, _, th, n, rm, qu, be, rfl, Gc, bdS, hthc, lenS, fun p1 Hd hd1 sD => ?_⟩
  have Dd := Dc.keep sD
  have Ed := Ec.keep sD
  have Cd := Cc.keep sD
  have hthd := sD _ _ hthc
  wtm_at "vv"
  refine ⟨A5, sc, _, th, n, rm, qu, be, rfl, Dd, bdS, hthd, lenS, fun p2 He hd2 sE => ?_⟩
  have De := Dd.keep sE
  have Ee := Ed.keep sE
  have Ce := Cd.keep sE
  have hthe := sE _ _ hthd
  refine all_ne (drd_keep sE hd1) hd2 ?_
  wtm_at "vv"
  refine Sx.slN (SqL.of Ce.1) fun l3 Hf n3 h3 sF => ?_
  have Cf := Ce.keep sF
  have Df := De.keep sF
  have Ef := Ee.keep sF
  have hthf := sF _ _ hthe
  refine ⟨l3, rfl, ⟨_, SqL.of h3⟩, loop_do (i := 2) (j := 5) (A := A5) rfl (by decide) (by show 5 < 8; decide) Df bdS (by omega) (drops Cf h3) (De.fresh n3) (by rw [lenS]; exact okd) fun A6 Hg vg Dg Fg => ?_⟩
  have Eg := Lh.HAt.far Ef Fg Df (fun x hx hy => disb x hy hx)
  have disg : ∀ x ∈ footH O2, x ∉ footH A6 := dis_of Ef Fg (fun x hx hy => disb x hy hx)
  have hthg := Fg.f _ _ hthf (fun z => Df.kind z _ hthf)
  have eA : A5.h = A6.h := Fg.h.symm
  rw [eA]
  rw [hse] at Dg
  wtm_at "vv"
  refine ⟨A6, se, 3, rfl, Dg, ⟨_, bdE, by omega⟩, fun Hh Dh Fh => ?_⟩
  have Eh := Eg.move (fun x hx o e => Fh x o e (disg x hx)) (fun x xs e => Fh x _ e fun z => Dg.kind z xs e)
  have hthh := Fh _ _ hthg (fun z => Dg.kind z _ hthg)
  wtm_at "vv"
  refine ⟨O2, se, 3, rfl, Eh, ⟨_, bdE, by omega⟩, fun Hi Ei Fi => ?_⟩
  have Di := Dh.move (fun x hx o e => Fi x o e (fun z => disg x z hx)) (fun x xs e => Fi x _ e fun z => Eh.kind z xs e)
  have hthi := Fi _ _ hthh (fun z => Eh.kind z _ hthh)
  have bdF := bdE.run 3 (by omega)
  have lenF : (Hs.runN 3 se).us.length = n := by rw [Lh.runN_len]; exact lenE
  have Di' : HAt CH CP CM Hi A6 (Hs.runN 3 se) := Di
  have Ei' : HAt CH CP CM Hi O2 (Hs.runN 3 se) := Ei
  generalize Hs.runN 3 se = sz at Di' Ei' bdF lenF
  clear Di Ei Dh
  wtm_at "vv"
  refine ⟨O2, sz, _, th, n, rm, qu, be, rfl, Ei', bdF, hthi, lenF, fun q1 Hj hj1 sJ => ?_⟩
  wtm_at "vv"
  refine ⟨A6, sz, _, th, n, rm, qu, be, rfl, Di'.keep sJ, bdF, sJ _ _ hthi, lenF, fun q2 Hk hk1 sK => ?_⟩
  refine all_eq (drd_keep sK hj1) hk1 ?_
  wtm_at "vv"
  refine ⟨O2, sz, _, rfl, (Ei'.keep sJ).keep sK, bdF, by omega, fun B3 Hl S3 sL => ?_⟩
  wtm_at "vv"
  refine ⟨A6, sz, _, rfl, ((Di'.keep sJ).keep sK).keep sL, bdF, by omega, fun B4 Hm S4 sM => ?_⟩
  refine sav_eq (sav_drd (S3.keep sM)) (sav_drd S4) ?_
  exact k _
end
end K27
def PySem.W.Fast.tw1114916590133646071 : Nat := 0
def PySem.W.Fast.tw7545579809307108173 : Nat := 0
def PySem.W.Fast.tw6712026183958846315 : Nat := 0
def PySem.W.Fast.tw6676079361188388546 : Nat := 0
def PySem.W.Fast.tw5665914545192851312 : Nat := 0
def PySem.W.Fast.tw6321139066293715188 : Nat := 0
def PySem.W.Fast.tw6012405828756266504 : Nat := 0
def PySem.W.Fast.tw10562726406437994599 : Nat := 0
def PySem.W.Fast.tw7714730347316540114 : Nat := 0
def PySem.W.Fast.tw10251857813514988362 : Nat := 0
def PySem.W.Fast.tw7065861561083237055 : Nat := 0
def PySem.W.Fast.tw15306494635420530097 : Nat := 0
def PySem.W.Fast.tw1812689503252727500 : Nat := 0
def PySem.W.Fast.tw15259786820406602519 : Nat := 0
def PySem.W.Fast.tw15278423521831537104 : Nat := 0
def PySem.W.Fast.tw652636375556691221 : Nat := 0
def PySem.W.Fast.tw148983029660187779 : Nat := 0
def PySem.W.Fast.tw17886340859611230924 : Nat := 0
def PySem.W.Fast.tw18039699856390948274 : Nat := 0
def PySem.W.Fast.tw2500525108876611388 : Nat := 0
def PySem.W.Fast.tw1215200292730678860 : Nat := 0
def PySem.W.Fast.tw2434727006557927188 : Nat := 0
def PySem.W.Fast.tw3488613465379962417 : Nat := 0
def PySem.W.Fast.tw27696994308026961 : Nat := 0
def PySem.W.Fast.tw9869434584774552362 : Nat := 0
def PySem.W.Fast.tw10911991208539299288 : Nat := 0
def PySem.W.Fast.tw1818381038569677966 : Nat := 0
def PySem.W.Fast.tw12756792577005688049 : Nat := 0
def PySem.W.Fast.tw6714710098773302318 : Nat := 0
def PySem.W.Fast.tw14455806720552090981 : Nat := 0
def PySem.W.Fast.tw5819545739111296686 : Nat := 0
def PySem.W.Fast.tw798707510567593628 : Nat := 0
def PySem.W.Fast.tw3106802005661173277 : Nat := 0
def PySem.W.Fast.tw5055556593834731864 : Nat := 0
def PySem.W.Fast.tw13259848786557923145 : Nat := 0
def PySem.W.Fast.tw11203116287060451898 : Nat := 0
def PySem.W.Fast.tw10496010682781682713 : Nat := 0
def PySem.W.Fast.tw7308663525388812023 : Nat := 0
def PySem.W.Fast.tw7494208792577406123 : Nat := 0
def PySem.W.Fast.tw15929637632008061622 : Nat := 0
def PySem.W.Fast.tw8853998097335468300 : Nat := 0
def PySem.W.Fast.tw11022445641833412848 : Nat := 0
def PySem.W.Fast.tw3914504389707323713 : Nat := 0
def PySem.W.Fast.tw8755970148327106789 : Nat := 0
def PySem.W.Fast.tw7410985352689401925 : Nat := 0
def PySem.W.Fast.tw3861609122122490179 : Nat := 0
def PySem.W.Fast.tw1855850485324639606 : Nat := 0
def PySem.W.Fast.tw7056071557434031092 : Nat := 0
def PySem.W.Fast.tw12352074433844689879 : Nat := 0
def PySem.W.Fast.tw13475847476809578517 : Nat := 0
def PySem.W.Fast.tw12289100539265668736 : Nat := 0
def PySem.W.Fast.tw10288702318441185142 : Nat := 0
def PySem.W.Fast.tw6834884752854729149 : Nat := 0
def PySem.W.Fast.tw17632080834701981158 : Nat := 0
def PySem.W.Fast.tw4004492486582057118 : Nat := 0
def PySem.W.Fast.tw1877254753478857539 : Nat := 0
def PySem.W.Fast.tw17482414167925695379 : Nat := 0
def PySem.W.Fast.tw8906083741062136364 : Nat := 0
def PySem.W.Fast.tw8452492571503182658 : Nat := 0
def PySem.W.Fast.tw1699619130105945178 : Nat := 0
def PySem.W.Fast.tw18222104061142170979 : Nat := 0
def PySem.W.Fast.tw3762171074376595676 : Nat := 0
def PySem.W.Fast.tw12740886320772300119 : Nat := 0
def PySem.W.Fast.tw7591730996714219450 : Nat := 0
def PySem.W.Fast.tw17968621012637771246 : Nat := 0
def PySem.W.Fast.tw17655107928413602021 : Nat := 0
def PySem.W.Fast.tw13122515093037213928 : Nat := 0
def PySem.W.Fast.tw2185749834323096661 : Nat := 0
def PySem.W.Fast.tw849818352740627846 : Nat := 0
def PySem.W.Fast.tw2346236147444017150 : Nat := 0
def PySem.W.Fast.tw16200544950802650451 : Nat := 0
def PySem.W.Fast.tw10453344049669848164 : Nat := 0
def PySem.W.Fast.tw4573761361416302598 : Nat := 0
def PySem.W.Fast.tw1633629979351655104 : Nat := 0
def PySem.W.Fast.tw13295608267951343743 : Nat := 0
def PySem.W.Fast.tw9941065677696332108 : Nat := 0
def PySem.W.Fast.tw10272101153207100489 : Nat := 0
def PySem.W.Fast.tw3582554221718598996 : Nat := 0
def PySem.W.Fast.tw1305365529957294097 : Nat := 0
def PySem.W.Fast.tw8674270115316260418 : Nat := 0
def PySem.W.Fast.tw8890417076008242847 : Nat := 0
def PySem.W.Fast.tw15292575064564879029 : Nat := 0
def PySem.W.Fast.tw222538666330218481 : Nat := 0
def PySem.W.Fast.tw1191866407068861464 : Nat := 0
def PySem.W.Fast.tw1892590572998613988 : Nat := 0
def PySem.W.Fast.tw15302341176546211342 : Nat := 0
def PySem.W.Fast.tw10939982348284224648 : Nat := 0
def PySem.W.Fast.tw7402348097022175112 : Nat := 0
def PySem.W.Fast.tw1794692966081557348 : Nat := 0
def PySem.W.Fast.tw11098929355106234801 : Nat := 0
def PySem.W.Fast.tw9819541902173336861 : Nat := 0
def PySem.W.Fast.tw13111731780874432322 : Nat := 0
def PySem.W.Fast.tw16781194548802805034 : Nat := 0
def PySem.W.Fast.tw2346405723473909435 : Nat := 0
def PySem.W.Fast.tw16448697753426933569 : Nat := 0
def PySem.W.Fast.tw7070591590360848012 : Nat := 0
def PySem.W.Fast.tw14606322744379310755 : Nat := 0
def PySem.W.Fast.tw15316154302362204215 : Nat := 0
def PySem.W.Fast.tw15026691937348241053 : Nat := 0
def PySem.W.Fast.tw15041631249477282561 : Nat := 0
def PySem.W.Fast.tw8146384236719724949 : Nat := 0
def PySem.W.Fast.tw2559303546173839054 : Nat := 0
def PySem.W.Fast.tw6566874645401210350 : Nat := 0
def PySem.W.Fast.tw4280191397474447408 : Nat := 0
def PySem.W.Fast.tw17094271891723579783 : Nat := 0
def PySem.W.Fast.tw12806194325114722757 : Nat := 0
def PySem.W.Fast.tw15443664392999092527 : Nat := 0
def PySem.W.Fast.tw10800873929807973617 : Nat := 0
def PySem.W.Fast.tw11574545958096418605 : Nat := 0
def PySem.W.Fast.tw17670562242871323526 : Nat := 0
def PySem.W.Fast.tw3821572739839179618 : Nat := 0
def PySem.W.Fast.tw5180014902894417183 : Nat := 0
def PySem.W.Fast.tw6774687409263086906 : Nat := 0
def PySem.W.Fast.tw11948349964481085382 : Nat := 0
def PySem.W.Fast.tw6947421549652692455 : Nat := 0
def PySem.W.Fast.tw1581537059193669771 : Nat := 0
def PySem.W.Fast.tw10030789946007255210 : Nat := 0
def PySem.W.Fast.tw2778721531616965275 : Nat := 0
def PySem.W.Fast.tw3886313892694867761 : Nat := 0
def PySem.W.Fast.tw17675812248947645916 : Nat := 0
def PySem.W.Fast.tw10127008801201556661 : Nat := 0
def PySem.W.Fast.tw16716298334213167543 : Nat := 0
def PySem.W.Fast.tw11214417182999420587 : Nat := 0
def PySem.W.Fast.tw12217415902408254345 : Nat := 0
def PySem.W.Fast.tw17187367758995849444 : Nat := 0
def PySem.W.Fast.tw18312701673942680116 : Nat := 0
def PySem.W.Fast.tw11563483888542051896 : Nat := 0
def PySem.W.Fast.tw2823422533016151791 : Nat := 0
def PySem.W.Fast.tw13197109931062449756 : Nat := 0
def PySem.W.Fast.tw10786439707348803947 : Nat := 0
def PySem.W.Fast.tw4247770155807797380 : Nat := 0
def PySem.W.Fast.tw17410659446106060846 : Nat := 0
def PySem.W.Fast.tw5097766163855441741 : Nat := 0
def PySem.W.Fast.tw11997341369418359071 : Nat := 0
def PySem.W.Fast.tw16768792627821347867 : Nat := 0
def PySem.W.Fast.tw9712286608961194875 : Nat := 0
def PySem.W.Fast.tw15370683608190544326 : Nat := 0
def PySem.W.Fast.tw7447447757423067261 : Nat := 0
def PySem.W.Fast.tw7040093291759496211 : Nat := 0
def PySem.W.Fast.tw17667065242296061077 : Nat := 0
def PySem.W.Fast.tw12881759468840466711 : Nat := 0
def PySem.W.Fast.tw4599932836801136017 : Nat := 0
def PySem.W.Fast.tw69650519952977448 : Nat := 0
def PySem.W.Fast.tw2587287286726580677 : Nat := 0
def PySem.W.Fast.tw5560829329940728792 : Nat := 0
def PySem.W.Fast.tw11011418825297160454 : Nat := 0
def PySem.W.Fast.tw16296220383386981417 : Nat := 0
def PySem.W.Fast.tw1500807692120220132 : Nat := 0
def PySem.W.Fast.tw2777414950736765290 : Nat := 0
def PySem.W.Fast.tw751611479466897448 : Nat := 0
def PySem.W.Fast.tw17099092487957915357 : Nat := 0
def PySem.W.Fast.tw6811427458150445642 : Nat := 0
def PySem.W.Fast.tw12339580108018438442 : Nat := 0
def PySem.W.Fast.tw15918032423009315261 : Nat := 0
def PySem.W.Fast.tw9517552547876329959 : Nat := 0
def PySem.W.Fast.tw7767882011683566301 : Nat := 0
def PySem.W.Fast.tw1699288131665440245 : Nat := 0
def PySem.W.Fast.tw14400204800167024501 : Nat := 0
def PySem.W.Fast.tw10956408745085271173 : Nat := 0
def PySem.W.Fast.tw3636304469025901474 : Nat := 0
def PySem.W.Fast.tw4263895770836228776 : Nat := 0
def PySem.W.Fast.tw12497586060897717329 : Nat := 0
def PySem.W.Fast.tw1608995403726870054 : Nat := 0
def PySem.W.Fast.tw4815942064358519003 : Nat := 0
def PySem.W.Fast.tw2618033314340547947 : Nat := 0
def PySem.W.Fast.tw3379281597031760941 : Nat := 0
def PySem.W.Fast.tw14256940209126222621 : Nat := 0
def PySem.W.Fast.tw506677851085031613 : Nat := 0
def PySem.W.Fast.tw16386509301836946712 : Nat := 0
def PySem.W.Fast.tw650289217586883486 : Nat := 0
def PySem.W.Fast.tw15158904414548870916 : Nat := 0
local macro_rules | `(tactic| wtm_at "R") => `(tactic| (dsimp only [L2.KOf]; refine' L2.raw_mk (by assumption) (by assumption) ?a ?l ?c ?k; (case a => k_is); (case l => k_is); (case c => k_is); (case k => k_is)))
local macro_rules | `(tactic| wtm_at "I") => `(tactic| first | (refine' L2.int_mk (by assumption) (by assumption) ?a; (case a => k_is)) | (refine' L2.str_mk (by assumption) (by assumption) ?a; (case a => k_is)))
abbrev Pw := PySem.Challenge.pw_corehouse_k27_whole_saved_and_taken
open PySem PySem.W PyProof.Rows
set_option maxRecDepth 100000 in
set_option maxHeartbeats 0 in
theorem PySem.Challenge.cw_corehouse_k27_whole_saved_and_taken_holds : PySem.Challenge.rw_corehouse_k27_whole_saved_and_taken.Holds := by
 w_on; o_law; k_head; (case hw => w_witness2)
 k_fill
 refine L2.walk_ofK (l := PySem.Challenge.rw_corehouse_k27_whole_saved_and_taken) (n := 63) (k := 13) (x := "_law_script") (CX := L2.CX0) (sp := K27.sp_law) rfl (by decide) rfl ⟨rfl, by decide, by decide⟩ (fun w h Y => PySem.W.kIn_of Y) ?F ?S ?C
 case F =>
  intro w mg fa h KX G hmg
  have R_parts : L2.Raw (L2.KOf KX) mg "parts" Tx.s_parts := by wtm_at "R"
  have R_deed : L2.Raw (L2.KOf KX) mg "deed" Tx.s_deed := by wtm_at "R"
  have R_move_on : L2.Raw (L2.KOf KX) mg "move_on" Tx.s_move_on := by wtm_at "R"
  have R_place_behind : L2.Raw (L2.KOf KX) mg "place_behind" Tx.s_place_behind := by wtm_at "R"
  have R_raise_cell : L2.Raw (L2.KOf KX) mg "raise_cell" Tx.s_raise_cell := by wtm_at "R"
  have R_far_place : L2.Raw (L2.KOf KX) mg "far_place" Tx.s_far_place := by wtm_at "R"
  have R_do_with_cell : L2.Raw (L2.KOf KX) mg "do_with_cell" Tx.s_do_with_cell := by wtm_at "R"
  have R_add_to_total : L2.Raw (L2.KOf KX) mg "add_to_total" Tx.s_add_to_total := by wtm_at "R"
  have R_turn_mark : L2.Raw (L2.KOf KX) mg "turn_mark" Tx.s_turn_mark := by wtm_at "R"
  have R_do_rise : L2.Raw (L2.KOf KX) mg "do_rise" Tx.s_do_rise := by wtm_at "R"
  have R_has_bit : L2.Raw (L2.KOf KX) mg "has_bit" Tx.s_has_bit := by wtm_at "R"
  have R_do_change : L2.Raw (L2.KOf KX) mg "do_change" Tx.s_do_change := by wtm_at "R"
  have R_shift_left : L2.Raw (L2.KOf KX) mg "shift_left" Tx.s_shift_left := by wtm_at "R"
  have R_shift_right : L2.Raw (L2.KOf KX) mg "shift_right" Tx.s_shift_right := by wtm_at "R"
  have R_do_test : L2.Raw (L2.KOf KX) mg "do_test" Tx.s_do_test := by wtm_at "R"
  have R_test_is_so : L2.Raw (L2.KOf KX) mg "test_is_so" Tx.s_test_is_so := by wtm_at "R"
  have R_happen : L2.Raw (L2.KOf KX) mg "happen" Tx.s_happen := by wtm_at "R"
  have R_take_start : L2.Raw (L2.KOf KX) mg "take_start" Tx.s_take_start := by wtm_at "R"
  have R_take_key : L2.Raw (L2.KOf KX) mg "take_key" Tx.s_take_key := by wtm_at "R"
  have R_take_tick : L2.Raw (L2.KOf KX) mg "take_tick" Tx.s_take_tick := by wtm_at "R"
  have R_take_step : L2.Raw (L2.KOf KX) mg "take_step" Tx.s_take_step := by wtm_at "R"
  have R_do_ask : L2.Raw (L2.KOf KX) mg "do_ask" Tx.s_do_ask := by wtm_at "R"
  have R_skip_if : L2.Raw (L2.KOf KX) mg "skip_if" Tx.s_skip_if := by wtm_at "R"
  have R_do_hear : L2.Raw (L2.KOf KX) mg "do_hear" Tx.s_do_hear := by wtm_at "R"
  have R_do_say : L2.Raw (L2.KOf KX) mg "do_say" Tx.s_do_say := by wtm_at "R"
  have R_wait_at : L2.Raw (L2.KOf KX) mg "wait_at" Tx.s_wait_at := by wtm_at "R"
  have R_do_sleep : L2.Raw (L2.KOf KX) mg "do_sleep" Tx.s_do_sleep := by wtm_at "R"
  have R_do_with_block : L2.Raw (L2.KOf KX) mg "do_with_block" Tx.s_do_with_block := by wtm_at "R"
  have R_fetch_block : L2.Raw (L2.KOf KX) mg "fetch_block" Tx.s_fetch_block := by wtm_at "R"
  have R_store_block : L2.Raw (L2.KOf KX) mg "store_block" Tx.s_store_block := by wtm_at "R"
  have R_picture : L2.Raw (L2.KOf KX) mg "picture" Tx.s_picture := by wtm_at "R"
  have R_person_of : L2.Raw (L2.KOf KX) mg "person_of" Tx.s_person_of := by wtm_at "R"
  have R_empty_rooms : L2.Raw (L2.KOf KX) mg "empty_rooms" Tx.s_empty_rooms := by wtm_at "R"
  have R_room_with : L2.Raw (L2.KOf KX) mg "room_with" Tx.s_room_with := by wtm_at "R"
  have R_bring_in : L2.Raw (L2.KOf KX) mg "bring_in" Tx.s_bring_in := by wtm_at "R"
  have R_load : L2.Raw (L2.KOf KX) mg "load" Tx.s_load := by wtm_at "R"
  have R_set_switches : L2.Raw (L2.KOf KX) mg "set_switches" Tx.s_set_switches := by wtm_at "R"
  have R_start : L2.Raw (L2.KOf KX) mg "start" Tx.s_start := by wtm_at "R"
  have R_key : L2.Raw (L2.KOf KX) mg "key" Tx.s_key := by wtm_at "R"
  have R_run : L2.Raw (L2.KOf KX) mg "run" Tx.s_run := by wtm_at "R"
  have R_seen : L2.Raw (L2.KOf KX) mg "seen" Tx.s_seen := by wtm_at "R"
  have R_diary : L2.Raw (L2.KOf KX) mg "diary" Tx.s_diary := by wtm_at "R"
  have R_room_of : L2.Raw (L2.KOf KX) mg "room_of" Tx.s_room_of := by wtm_at "R"
  have R_happen_in : L2.Raw (L2.KOf KX) mg "happen_in" Tx.s_happen_in := by wtm_at "R"
  have R_do_step : L2.Raw (L2.KOf KX) mg "do_step" Tx.s_do_step := by wtm_at "R"
  have R_step_who_runs : L2.Raw (L2.KOf KX) mg "step_who_runs" Tx.s_step_who_runs := by wtm_at "R"
  have R_do_tick : L2.Raw (L2.KOf KX) mg "do_tick" Tx.s_do_tick := by wtm_at "R"
  have R_shorten_turn : L2.Raw (L2.KOf KX) mg "shorten_turn" Tx.s_shorten_turn := by wtm_at "R"
  have R_end_turn : L2.Raw (L2.KOf KX) mg "end_turn" Tx.s_end_turn := by wtm_at "R"
  have R_let_next_run : L2.Raw (L2.KOf KX) mg "let_next_run" Tx.s_let_next_run := by wtm_at "R"
  have R_saved : L2.Raw (L2.KOf KX) mg "saved" Tx.s_saved := by wtm_at "R"
  have R_taken : L2.Raw (L2.KOf KX) mg "taken" Tx.s_taken := by wtm_at "R"
  have R_law_cell : L2.Raw (L2.KOf KX) mg "_law_cell" Tx.s_law_cell := by wtm_at "R"
  have R_law_mix : L2.Raw (L2.KOf KX) mg "_law_mix" Tx.s_law_mix := by wtm_at "R"
  have R_law_whole : L2.Raw (L2.KOf KX) mg "_law_whole" Tx.s_law_whole := by wtm_at "R"
  have R_law_some : L2.Raw (L2.KOf KX) mg "_law_some" Tx.s_law_some := by wtm_at "R"
  have R_law_program : L2.Raw (L2.KOf KX) mg "_law_program" Tx.s_law_program := by wtm_at "R"
  have R_law_hall : L2.Raw (L2.KOf KX) mg "_law_hall" Tx.s_law_hall := by wtm_at "R"
  have R_law_made : L2.Raw (L2.KOf KX) mg "_law_made" Tx.s_law_made := by wtm_at "R"
  have R_law_acts : L2.Raw (L2.KOf KX) mg "_law_acts" Tx.s_law_acts := by wtm_at "R"
  have R_law_do : L2.Raw (L2.KOf KX) mg "_law_do" Tx.s_law_do := by wtm_at "R"
  have R_law_plain : L2.Raw (L2.KOf KX) mg "_law_plain" Tx.s_law_plain := by wtm_at "R"
  have R_law_all : L2.Raw (L2.KOf KX) mg "_law_all" Tx.s_law_all := by wtm_at "R"
  have R_law : L2.Raw (L2.KOf KX) mg "law" Tx.s_law := by wtm_at "R"
  have I_WORDS : L2.IntG mg "WORDS" 1024 := by wtm_at "I"
  have I_PLACES : L2.IntG mg "PLACES" 64 := by wtm_at "I"
  have I_AND : L2.IntG mg "AND" 0 := by wtm_at "I"
  have I_ADD : L2.IntG mg "ADD" 1 := by wtm_at "I"
  have I_RISE : L2.IntG mg "RISE" 2 := by wtm_at "I"
  have I_PUT : L2.IntG mg "PUT" 3 := by wtm_at "I"
  have I_CALL : L2.IntG mg "CALL" 4 := by wtm_at "I"
  have I_GO : L2.IntG mg "GO" 5 := by wtm_at "I"
  have I_ASK : L2.IntG mg "ASK" 6 := by wtm_at "I"
  have I_BITS : L2.IntG mg "BITS" 7 := by wtm_at "I"
  have I_STOPPED : L2.StrG mg "STOPPED" "stopped" := by wtm_at "I"
  have I_READY : L2.StrG mg "READY" "ready" := by wtm_at "I"
  have I_HEARS : L2.StrG mg "HEARS" "hears" := by wtm_at "I"
  have I_SAYS : L2.StrG mg "SAYS" "says" := by wtm_at "I"
  have I_SLEEPS : L2.StrG mg "SLEEPS" "sleeps" := by wtm_at "I"
  have I_LETTERS : L2.IntG mg "LETTERS" 256 := by wtm_at "I"
  have I_MOST_LETTERS : L2.IntG mg "MOST_LETTERS" 16 := by wtm_at "I"
  have I_BLOCKS : L2.IntG mg "BLOCKS" 4 := by wtm_at "I"
  have I_BLOCK_WORDS : L2.IntG mg "BLOCK_WORDS" 16 := by wtm_at "I"
  have I_HEARD : L2.IntG mg "HEARD" 0 := by wtm_at "I"
  have I_HEAR : L2.IntG mg "HEAR" 1 := by wtm_at "I"
  have I_ROOM : L2.IntG mg "ROOM" 2 := by wtm_at "I"
  have I_SAY : L2.IntG mg "SAY" 3 := by wtm_at "I"
  have I_SLEEP : L2.IntG mg "SLEEP" 4 := by wtm_at "I"
  have I_FETCH : L2.IntG mg "FETCH" 5 := by wtm_at "I"
  have I_STORE : L2.IntG mg "STORE" 6 := by wtm_at "I"
  have I_STOP : L2.IntG mg "STOP" 7 := by wtm_at "I"
  have I_LOOK : L2.IntG mg "LOOK" 8 := by wtm_at "I"
  have A_Machine : ∃ C, L2.RawC (L2.KOf KX) mg "Machine" "Machine.__init__" C Tx.s_Machine_init ∧ L2.Cls (L2.KOf KX) C ∧ L2.NoAttr (L2.KOf KX) C "cells" ∧ L2.NoAttr (L2.KOf KX) C "total" ∧ L2.NoAttr (L2.KOf KX) C "mark" ∧ L2.NoAttr (L2.KOf KX) C "at" := by
   dsimp only [L2.KOf]
   refine' ⟨_, L2.rawC_mk KX G ?a ?a1 ?i1 ?l ?c ?k ?mk ?kc, ⟨?pg, ?hd, ?po, ?sa⟩, ?n_cells, ?n_total, ?n_mark, ?n_at⟩
   (case a => k_is)
   (case a1 => k_is)
   (case i1 => k_is)
   (case l => k_is)
   (case c => k_is)
   (case k => k_is)
   (case mk => k_is)
   (case kc => k_is)
   (case pg => k_is)
   (case hd => k_is)
   (case po => k_is)
   (case sa => k_is)
   (case n_cells => unfold L2.NoAttr; k_is)
   (case n_total => unfold L2.NoAttr; k_is)
   (case n_mark => unfold L2.NoAttr; k_is)
   (case n_at => unfold L2.NoAttr; k_is)
  have A_Person : ∃ C, L2.RawC (L2.KOf KX) mg "Person" "Person.__init__" C Tx.s_Person_init ∧ L2.Cls (L2.KOf KX) C ∧ L2.NoAttr (L2.KOf KX) C "machine" ∧ L2.NoAttr (L2.KOf KX) C "inbox" ∧ L2.NoAttr (L2.KOf KX) C "outbox" ∧ L2.NoAttr (L2.KOf KX) C "paper" ∧ L2.NoAttr (L2.KOf KX) C "blocks" ∧ L2.NoAttr (L2.KOf KX) C "switches" ∧ L2.NoAttr (L2.KOf KX) C "state" ∧ L2.NoAttr (L2.KOf KX) C "nap" ∧ L2.NoAttr (L2.KOf KX) C "lost" ∧ L2.NoAttr (L2.KOf KX) C "done" := by
   dsimp only [L2.KOf]
   refine' ⟨_, L2.rawC_mk KX G ?a ?a1 ?i1 ?l ?c ?k ?mk ?kc, ⟨?pg, ?hd, ?po, ?sa⟩, ?n_machine, ?n_inbox, ?n_outbox, ?n_paper, ?n_blocks, ?n_switches, ?n_state, ?n_nap, ?n_lost, ?n_done⟩
   (case a => k_is)
   (case a1 => k_is)
   (case i1 => k_is)
   (case l => k_is)
   (case c => k_is)
   (case k => k_is)
   (case mk => k_is)
   (case kc => k_is)
   (case pg => k_is)
   (case hd => k_is)
   (case po => k_is)
   (case sa => k_is)
   (case n_machine => unfold L2.NoAttr; k_is)
   (case n_inbox => unfold L2.NoAttr; k_is)
   (case n_outbox => unfold L2.NoAttr; k_is)
   (case n_paper => unfold L2.NoAttr; k_is)
   (case n_blocks => unfold L2.NoAttr; k_is)
   (case n_switches => unfold L2.NoAttr; k_is)
   (case n_state => unfold L2.NoAttr; k_is)
   (case n_nap => unfold L2.NoAttr; k_is)
   (case n_lost => unfold L2.NoAttr; k_is)
   (case n_done => unfold L2.NoAttr; k_is)
  have A_House : ∃ C, L2.RawC (L2.KOf KX) mg "House" "House.__init__" C Tx.s_House_init ∧ L2.Cls (L2.KOf KX) C ∧ L2.NoAttr (L2.KOf KX) C "people" ∧ L2.NoAttr (L2.KOf KX) C "diaries" ∧ L2.NoAttr (L2.KOf KX) C "rooms" ∧ L2.NoAttr (L2.KOf KX) C "quantum" ∧ L2.NoAttr (L2.KOf KX) C "beat" ∧ L2.NoAttr (L2.KOf KX) C "runs" ∧ L2.NoAttr (L2.KOf KX) C "row" ∧ L2.NoAttr (L2.KOf KX) C "steps" ∧ L2.NoAttr (L2.KOf KX) C "idle" ∧ L2.NoAttr (L2.KOf KX) C "ticks" ∧ L2.NoAttr (L2.KOf KX) C "swaps" ∧ L2.NoAttr (L2.KOf KX) C "turn" ∧ L2.NoAttr (L2.KOf KX) C "left" ∧ PySem.W.findIn (L2.KOf KX) (.ref C) "__class__" = some (some (.builtin "object.__class__")) ∧ PySem.W.specialIn (L2.KOf KX) (.builtin "object.__class__") "__get__" = some (some (.builtin "getset_descriptor.__get__")) ∧ PySem.W.takesIn (L2.KOf KX) (.builtin "object.__class__") = some true ∧ PySem.W.mroIn (L2.KOf KX) C (.type "object") = some true ∧ PySem.W.kitOne (L2.KOf KX) (.ref C) (.ref C) = some true := by
   dsimp only [L2.KOf]
   refine' ⟨_, L2.rawC_mk KX G ?a ?a1 ?i1 ?l ?c ?k ?mk ?kc, ⟨?pg, ?hd, ?po, ?sa⟩, ?n_people, ?n_diaries, ?n_rooms, ?n_quantum, ?n_beat, ?n_runs, ?n_row, ?n_steps, ?n_idle, ?n_ticks, ?n_swaps, ?n_turn, ?n_left, ?i1x, ?i2x, ?i3x, ?i4x, ?i5x⟩
   (case a => k_is)
   (case a1 => k_is)
   (case i1 => k_is)
   (case l => k_is)
   (case c => k_is)
   (case k => k_is)
   (case mk => k_is)
   (case kc => k_is)
   (case pg => k_is)
   (case hd => k_is)
   (case po => k_is)
   (case sa => k_is)
   (case n_people => unfold L2.NoAttr; k_is)
   (case n_diaries => unfold L2.NoAttr; k_is)
   (case n_rooms => unfold L2.NoAttr; k_is)
   (case n_quantum => unfold L2.NoAttr; k_is)
   (case n_beat => unfold L2.NoAttr; k_is)
   (case n_runs => unfold L2.NoAttr; k_is)
   (case n_row => unfold L2.NoAttr; k_is)
   (case n_steps => unfold L2.NoAttr; k_is)
   (case n_idle => unfold L2.NoAttr; k_is)
   (case n_ticks => unfold L2.NoAttr; k_is)
   (case n_swaps => unfold L2.NoAttr; k_is)
   (case n_turn => unfold L2.NoAttr; k_is)
   (case n_left => unfold L2.NoAttr; k_is)
   (case i1x => k_is)
   (case i2x => k_is)
   (case i3x => k_is)
   (case i4x => k_is)
   (case i5x => first | rfl | decide)
  have Z_len : mg "len" = none := PySem.W.mg_none_of KX G (by k_is)
  have Z_isinstance : mg "isinstance" = none := PySem.W.mg_none_of KX G (by k_is)
  have Z_int : mg "int" = none := PySem.W.mg_none_of KX G (by k_is)
  have Z_bool : mg "bool" = none := PySem.W.mg_none_of KX G (by k_is)
  have Z_list : mg "list" = none := PySem.W.mg_none_of KX G (by k_is)
  have Z_range : mg "range" = none := PySem.W.mg_none_of KX G (by k_is)
  have Z_sum : mg "sum" = none := PySem.W.mg_none_of KX G (by k_is)
  have Z_any : mg "any" = none := PySem.W.mg_none_of KX G (by k_is)
  have Z_tuple : mg "tuple" = none := PySem.W.mg_none_of KX G (by k_is)
  have Z_enumerate : mg "enumerate" = none := PySem.W.mg_none_of KX G (by k_is)
  have Z_str : mg "str" = none := PySem.W.mg_none_of KX G (by k_is)
  have Z_min : mg "min" = none := PySem.W.mg_none_of KX G (by k_is)
  have kii : PySem.W.kitOne (L2.KOf KX) (.type "int") (.type "int") = some true := by first | rfl | decide
  have kib : PySem.W.kitOne (L2.KOf KX) (.type "int") (.type "bool") = some false := by first | rfl | decide
  have kll : PySem.W.kitOne (L2.KOf KX) (.type "list") (.type "list") = some true := by first | rfl | decide
  obtain ⟨f, fd, e, Fn⟩ := id R_law
  have e0 := hmg.symm.trans e
  cases e0
  obtain ⟨oc, od, kV, doc, pm, an, cdv, ct, osl, rfl, lk, hcd⟩ := Fn.ex
  refine ⟨PySem.W.fnOf "law" "law" (L2.defArgs Tx.s_law) (L2.defBody Tx.s_law) (L2.defScope Tx.s_law) .none kV doc pm an cdv ct, fun s u => .of_eq rfl, fun base kb nb => ?_⟩
  obtain ⟨C, A_Machine, A_cl, A_cells, A_total, A_mark, A_at⟩ := A_Machine
  have T : Pr.TxtM (L2.KOf KX) mg C := ⟨A_cl, A_cells, A_total, A_mark, A_at, I_WORDS, I_PLACES, I_AND, I_ADD, I_RISE, I_PUT, I_CALL, I_GO, I_ASK, I_BITS, Z_list⟩
  have G_place_behind := Pr.ok_behind (P := Pw) (w := w) (base := base) R_place_behind T
  have G_parts := Pr.ok_parts (P := Pw) (w := w) (base := base) R_parts
  have G_has_bit := Pr.ok_bit (P := Pw) (w := w) (base := base) R_has_bit
  have G_move_on := Pr.ok_move R_move_on T G_place_behind
  have G_raise_cell := Pr.ok_raise (P := Pw) (w := w) (base := base) R_raise_cell T
  have G_far_place := Pr.ok_far R_far_place T G_raise_cell
  have G_turn_mark := Pr.ok_turn (P := Pw) (w := w) (base := base) R_turn_mark T
  have G_add_to_total := Pr.ok_add R_add_to_total T G_turn_mark
  have G_do_rise := Pr.ok_rise R_do_rise T G_raise_cell G_move_on
  have G_shift_left := Pr.ok_shl (P := Pw) (w := w) (base := base) R_shift_left T
  have G_shift_right := Pr.ok_shr (P := Pw) (w := w) (base := base) R_shift_right T
  have G_do_with_cell := Pr.ok_with R_do_with_cell T G_place_behind G_add_to_total G_do_rise
  have G_do_change := Pr.ok_change R_do_change T G_has_bit G_turn_mark G_add_to_total G_shift_left G_shift_right
  have G_test_is_so := Pr.ok_so R_test_is_so T G_has_bit
  have G_do_test := Pr.ok_test R_do_test T G_has_bit G_test_is_so G_move_on
  have G_deed := Pr.ok_deed R_deed T G_parts G_move_on G_do_change G_do_test G_do_with_cell G_far_place
  have M_Machine := Pr.ok_init (P := Pw) (w := w) (base := base) A_Machine T
  obtain ⟨CP, A_Person, B_cl, B_machine, B_inbox, B_outbox, B_paper, B_blocks, B_switches, B_state, B_nap, B_lost, B_done⟩ := A_Person
  have TP : Pp.TxtP (L2.KOf KX) mg CP C := ⟨T, B_cl, B_machine, B_inbox, B_outbox, B_paper, B_blocks, B_switches, B_state, B_nap, B_lost, B_done, I_STOPPED, I_READY, I_HEARS, I_SAYS, I_SLEEPS, I_LETTERS, I_MOST_LETTERS, I_BLOCKS, I_BLOCK_WORDS, I_HEARD, I_HEAR, I_ROOM, I_SAY, I_SLEEP, I_FETCH, I_STORE, I_STOP, I_LOOK, Z_len, Z_range, Z_tuple⟩
  have N_Machine := Pp.ok_initT (P := Pw) (w := w) (base := base) A_Machine T
  have M_Person := Pp.ok_initP A_Person TP N_Machine
  have G_take_start := Pp.ok_start (P := Pw) (w := w) (base := base) R_take_start TP
  have G_take_key := Pp.ok_key (P := Pw) (w := w) (base := base) R_take_key TP
  have G_take_tick := Pp.ok_tick (P := Pw) (w := w) (base := base) R_take_tick TP
  have G_skip_if := Pp.ok_skip R_skip_if G_move_on
  have G_wait_at := Pp.ok_wait (P := Pw) (w := w) (base := base) R_wait_at TP
  have G_do_hear := Pp.ok_hear R_do_hear TP G_wait_at
  have G_do_say := Pp.ok_say R_do_say TP G_wait_at
  have G_do_sleep := Pp.ok_sleep (P := Pw) (w := w) (base := base) R_do_sleep TP
  have G_fetch_block := Pp.ok_fetch (P := Pw) (w := w) (base := base) R_fetch_block TP
  have G_store_block := Pp.ok_store (P := Pw) (w := w) (base := base) R_store_block TP
  have G_do_with_block := Pp.ok_block R_do_with_block TP G_move_on G_fetch_block G_store_block
  have G_do_ask := Pp.ok_ask R_do_ask TP G_skip_if G_do_hear G_do_say G_do_sleep G_do_with_block
  have G_take_step := Pp.ok_step R_take_step TP G_deed G_do_ask
  have G_happen := Pp.ok_happen R_happen TP G_take_start G_take_key G_take_tick G_take_step
  have G_picture := Pp.ok_picture (P := Pw) (w := w) (base := base) R_picture TP
  obtain ⟨CH, A_House, D_cl, D_people, D_diaries, D_rooms, D_quantum, D_beat, D_runs, D_row, D_steps, D_idle, D_ticks, D_swaps, D_turn, D_left, D_i1, D_i2, D_i3, D_i4, D_i5⟩ := A_House
  have TH : Hs.TxtH (L2.KOf KX) mg CH CP C := ⟨TP, D_cl, D_people, D_diaries, D_rooms, D_quantum, D_beat, D_runs, D_row, D_steps, D_idle, D_ticks, D_swaps, D_turn, D_left, Z_enumerate⟩
  have G_room_with := Hs.ok_rw (P := Pw) (w := w) (base := base) R_room_with TH
  have G_bring_in := Hs.ok_bring R_bring_in TH G_room_with
  have G_let_next_run := Hs.ok_next R_let_next_run TH G_bring_in
  have G_end_turn := Hs.ok_end (P := Pw) (w := w) (base := base) R_end_turn TH
  have G_shorten_turn := Hs.ok_short R_shorten_turn TH G_end_turn
  have G_happen_in := Hs.ok_hin R_happen_in TH G_happen
  have G_step_who_runs := Hs.ok_who R_step_who_runs TH G_happen_in G_end_turn
  have G_do_tick := Hs.ok_tickH R_do_tick TH G_happen_in G_shorten_turn
  have G_do_step := Hs.ok_stepH R_do_step TH G_step_who_runs G_do_tick G_let_next_run
  have G_run := Hs.ok_run R_run TH G_do_step
  have G_empty_rooms := Hs.ok_empty (P := Pw) (w := w) (base := base) R_empty_rooms
  have M_House := Hs.ok_initH A_House TH M_Person G_empty_rooms
  have G_start := Hs.ok_startH R_start TH G_happen_in G_let_next_run
  have G_load := Hs.ok_loadH (P := Pw) (w := w) (base := base) R_load TH
  have G_key := Hs.ok_keyH R_key TH G_happen_in G_let_next_run
  have G_set_switches := Hs.ok_sw (P := Pw) (w := w) (base := base) R_set_switches TH
  have G_seen := Hs.ok_seen R_seen TH G_picture
  have TL : Lw.TxtL (L2.KOf KX) mg := ⟨Z_len, Z_isinstance, Z_int, Z_bool, Z_list, Z_range, Z_sum, kii, kib, kll, Z_any, Z_enumerate, Z_tuple, Z_str, Z_min⟩
  have G_law_cell := Lw.ok_cell (P := Pw) (w := w) (base := base) R_law_cell TL
  have G_law_mix := Lw.ok_mix (P := Pw) (w := w) (base := base) R_law_mix
  have G_law_whole := Lw.ok_whole (P := Pw) (w := w) (base := base) R_law_whole TL
  have G_law_some := Du.ok_some R_law_some TL G_law_mix
  have G_law_program := Du.ok_prog R_law_program TL G_law_mix G_law_some
  have G_law_hall := Lh.ok_hall R_law_hall TL G_law_cell G_law_mix
  have G_law_made := Lh.ok_made R_law_made TL TH G_law_cell G_law_mix G_law_program M_House G_load G_set_switches
  have G_law_acts := Lh.ok_acts R_law_acts TL G_law_cell G_law_mix
  have G_law_do := Lh.ok_do R_law_do TL TH G_law_program G_start G_key G_load G_set_switches G_run
  have G_diary := Hs.ok_diary (P := Pw) (w := w) (base := base) R_diary TH
  have G_room_of := Hs.ok_room R_room_of TH G_room_with
  have G_person_of := Pp.ok_of R_person_of TP M_Person N_Machine
  have KT : K27.Kits (L2.KOf KX) := ⟨by first | rfl | decide, by first | rfl | decide, by first | rfl | decide, by first | rfl | decide, by first | rfl | decide, by first | rfl | decide⟩
  have IH : Du.InsP (L2.KOf KX) CH := ⟨D_i1, D_i2, D_i3, D_i4, D_i5⟩
  have G_saved := Hs.ok_saved R_saved TH G_picture
  have G_taken := Hs.ok_taken R_taken TH M_House G_person_of
  have G_law_all := K27.ok_all R_law_all TL TH G_seen G_diary G_room_of
  have G_law_plain := K27.ok_plain R_law_plain TL KT G_law_whole
  have GL := K27.ok_law R_law TL TH IH G_law_cell G_law_mix G_law_hall G_law_made G_law_acts G_law_do G_law_all G_law_plain G_saved G_taken G_run M_House
  exact L2.GF.fn GL e lk
 case S => exact fun K H a ns hl _ hS => ⟨a, ns, rfl, hS, fun _ => rfl⟩
 case C => exact fun _ _ _ _ z => z
