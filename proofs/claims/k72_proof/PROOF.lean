import PyProof.Rows.All
import Wide.All
import OpenK.AllK
import Wide.FinOn
import Lean
import PyProof.EqAt
import PyProof.EqKinds
import PyProof.TupleCall
import KE.KIntText
import PySem.Challenge.RW_roadshare_k72_deeds_refused
set_option Elab.async false
set_option linter.all false
set_option maxRecDepth 100000
namespace L2
open PySem PySem.Spec PyProof.Rows
abbrev Key := Sum Int Str
def keyIs : Key → Value → Bool
 | .inl k, v => Value.isInt k v
 | .inr x, v => Value.isStrOf x v
def keyH (w : World) : Key → Int
 | .inl k => hashInt k
 | .inr x => hashStr w x
theorem keyIs_shape : ∀ {k : Key} {v : Value}, keyIs k v = true → (∃ i t, k = Sum.inl i ∧ v = Value.int i t) ∨ (∃ x t, k = Sum.inr x ∧ v = Value.str x t)
 | .inl i, v, h => by
  obtain ⟨t, e⟩ := Value.isInt_shape (k := i) (v := v) h
  exact .inl ⟨i, t, rfl, e⟩
 | .inr x, v, h => by
  obtain ⟨t, e⟩ := Value.isStrOf_shape (x := x) (v := v) h
  exact .inr ⟨x, t, rfl, e⟩
theorem keyIs_int (i : Int) (t : Tok) : keyIs (.inl i) (.int i t) = true := by simp [keyIs, Value.isInt]
theorem keyIs_str (x : Str) (t : Tok) : keyIs (.inr x) (.str x t) = true := by simp [keyIs, Value.isStrOf]
theorem key_ll (a b : Int) : decide ((Sum.inl a : Key) = Sum.inl b) = (a == b) := by
 by_cases e : a = b
 ·subst e; simp
 ·have h : ¬ (Sum.inl a : Key) = Sum.inl b := fun q => e (Sum.inl.inj q)
  rw [decide_eq_false h]
  exact (beq_eq_false_iff_ne.mpr e).symm
theorem key_rr (a b : Str) : decide ((Sum.inr a : Key) = Sum.inr b) = decide (a = b) := by
 by_cases e : a = b
 ·subst e; simp
 ·have h : ¬ (Sum.inr a : Key) = Sum.inr b := fun q => e (Sum.inr.inj q)
  rw [decide_eq_false h, decide_eq_false e]
theorem key_lr (a : Int) (b : Str) : decide ((Sum.inl a : Key) = Sum.inr b) = false := decide_eq_false (fun q => nomatch q)
theorem key_rl (a : Str) (b : Int) : decide ((Sum.inr a : Key) = Sum.inl b) = false := decide_eq_false (fun q => nomatch q)
def mixKind (prog : Program) (w : World) : PySem.KeyKind prog w Key where
 is := keyIs
 hash := keyH w
 inj := fun v a b ha hb => by
  rcases keyIs_shape ha with ⟨i, t, rfl, rfl⟩ | ⟨x, t, rfl, rfl⟩
  ·rcases keyIs_shape hb with ⟨j, u, rfl, e⟩ | ⟨y, u, rfl, e⟩
   ·injection e with e1 _; rw [e1]
   ·exact nomatch e
  ·rcases keyIs_shape hb with ⟨j, u, rfl, e⟩ | ⟨y, u, rfl, e⟩
   ·exact nomatch e
   ·injection e with e1 _; rw [e1]
 byValue := fun k v h => by
  rcases keyIs_shape h with ⟨i, t, rfl, rfl⟩ | ⟨x, t, rfl, rfl⟩ <;> rfl
 pyHash := fun hv h => by
  rcases keyIs_shape hv with ⟨i, t, rfl, rfl⟩ | ⟨x, t, rfl, rfl⟩
  ·exact wpAny_pyHash_int h
  ·exact wpAny_pyHash_str h
 eqBool := fun hu hv h => by
  rcases keyIs_shape hu with ⟨i, t, rfl, rfl⟩ | ⟨x, t, rfl, rfl⟩
  ·rcases keyIs_shape hv with ⟨j, u, rfl, rfl⟩ | ⟨y, u, rfl, rfl⟩
   ·rw [key_ll] at h; exact wpAny_eqBool_int h
   ·rw [key_lr] at h; exact SeqAt.EqAt.int_str i t y u _ _ _ _ h
  ·rcases keyIs_shape hv with ⟨j, u, rfl, rfl⟩ | ⟨y, u, rfl, rfl⟩
   ·rw [key_rl] at h; exact SeqAt.EqAt.str_int x t j u _ _ _ _ h
   ·rw [key_rr] at h; exact wpAny_eqBool_str h
 «strs» := fun k x t v h => by
  rcases keyIs_shape h with ⟨i, u, rfl, e⟩ | ⟨y, u, rfl, e⟩
  ·exact nomatch e
  ·injection e with e1 _
   subst e1
   cases v <;> rfl
theorem mixKind_int (prog : Program) (w : World) (i : Int) (t : Tok) : (mixKind prog w).is (.inl i) (.int i t) = true := keyIs_int i t
theorem mixKind_str (prog : Program) (w : World) (x : Str) (t : Tok) : (mixKind prog w).is (.inr x) (.str x t) = true := keyIs_str x t
end L2
namespace L2
open PySem PySem.Spec PyProof.Rows
inductive V where
 | non | bl (b : Bool) | int (i : Int) | str (x : Str) | byt (b : Array UInt8) | flt (b : UInt64) | ref (a : Addr) | ty (n : String)
 deriving DecidableEq
def RelV : V → Value → Prop
 | .non, u => u = Value.none
 | .bl b, u => u = Value.bool b
 | .int i, u => ∃ t, u = Value.int i t
 | .str x, u => ∃ t, u = Value.str x t
 | .byt b, u => ∃ t, u = Value.bytes b t
 | .flt b, u => ∃ t, u = Value.float b t
 | .ref a, u => u = Value.ref a
 | .ty n, u => u = Value.type n
abbrev Vals : List V → List Value → Prop := Paired RelV
theorem Vals.length {xs : List V} {us : List Value} (r : Vals xs us) : xs.length = us.length := Paired.length r
theorem Vals.get : ∀ {xs : List V} {us : List Value} {i : Nat} {x : V}, Vals xs us → xs[i]? = some x → ∃ u, us[i]? = some u ∧ RelV x u
 | _, _, _, _, .nil, e => by simp at e
 | _, _, 0, _, .cons r _, e => by simp at e; subst e; exact ⟨_, rfl, r⟩
 | _, _, i + 1, x, .cons _ t, e => by
  obtain ⟨u, h1, h2⟩ := Vals.get (i := i) (x := x) t (by simpa using e)
  exact ⟨u, by simpa using h1, h2⟩
theorem Vals.set {x : V} {u : Value} (r : RelV x u) : ∀ {xs : List V} {us : List Value} (i : Nat), Vals xs us → Vals (xs.set i x) (us.set i u)
 | _, _, _, .nil => .nil
 | _, _, 0, .cons _ t => .cons r t
 | _, _, i + 1, .cons q t => .cons q (Vals.set r i t)
theorem Vals.append : ∀ {xs ys : List V} {us ws : List Value}, Vals xs us → Vals ys ws → Vals (xs ++ ys) (us ++ ws)
 | _, _, _, _, .nil, s => s
 | _, _, _, _, .cons r t, s => .cons r (Vals.append t s)
theorem Vals.take : ∀ {xs : List V} {us : List Value} (n : Nat), Vals xs us → Vals (xs.take n) (us.take n)
 | _, _, 0, _ => .nil
 | _, _, _ + 1, .nil => .nil
 | _, _, n + 1, .cons r t => .cons r (Vals.take n t)
def RelO : Option V → Option Value → Prop
 | some v, some u => RelV v u
 | none, none => True
 | _, _ => False
def KV {κ : Type} : List (κ × V) → List (κ × Value) → Prop := Paired fun (p : κ × V) (q : κ × Value) => p.1 = q.1 ∧ RelV p.2 q.2
def kV : Key → V
 | .inl i => .int i
 | .inr x => .str x
inductive HO where
 | lst (xs : List V)
 | tup (xs : List V)
 | dK (kvs : List (Key × V)) | dT (kvs : List (List Key × V))
 | set (S : Int → Bool) (n : Nat)
 | ins (C dx : Addr) (fs : List (Str × V))
 | own (x : Addr)
 | xd (fs : List (Str × V))
 | met (f x : Addr)
 | rng (lo hi : Int)
 | frz (o : Obj) (u : HO)
 | tbl (ps : Array Value)
 | ext (φ : Heap → Prop)
abbrev Hp := Addr → Option HO
def upd (H : Hp) (a : Addr) (o : HO) : Hp := fun b => if b = a then some o else H b
theorem upd_same {H : Hp} {a : Addr} {o : HO} : upd H a o a = some o := by unfold upd; rw [if_pos rfl]
theorem upd_ne {H : Hp} {a b : Addr} {o : HO} (h : b ≠ a) : upd H a o b = H b := by unfold upd; rw [if_neg h]
theorem ne_of {H : Hp} {a b : Addr} {o u : HO} (h : H a = some o) (h' : H b = some u) (d : o ≠ u) : a ≠ b := by
 intro e; subst e; rw [h] at h'; exact d (Option.some.inj h')
theorem ne_of_none {H : Hp} {a b : Addr} {o : HO} (h : H a = some o) (h' : H b = none) : a ≠ b := by
 intro e; subst e; rw [h] at h'; cases h'
section
variable (P : Program) (w : World)
def ObjOk (H : Hp) (h : Heap) (a : Addr) : HO → Prop
 | .lst xs => xs.length ≤ sizeLine ∧ ∃ (its : List Value) (n : Nat), Vals xs its ∧ h.get? a = some { cls := .type "list", data := .seq its.toArray n }
 | .tup xs => xs.length ≤ sizeLine ∧ ∃ its : List Value, Vals xs its ∧ IsTup h a its.toArray
 | .dK kvs => kvs.length ≤ sizeLine ∧ (a == sysModules) = false ∧ ∃ vs, KV kvs vs ∧ h.DictOf (mixKind P w) a vs
 | .dT kvs => kvs.length ≤ sizeLine ∧ (a == sysModules) = false ∧ ∃ xs : List (List Key × Addr × Value),
   Paired (fun (p : List Key × V) (q : List Key × Addr × Value) => p.1 = q.1 ∧ H q.2.1 = some (.tup (p.1.map kV)) ∧ RelV p.2 q.2.2) kvs xs ∧
   ∃ o es ep, h.get? a = some o ∧ o.ExactDict ∧ o.data = .dict es ep ∧ es.toList = xs.map (entryOfKey (tupleKind (mixKind P w))) ∧ (xs.map (·.1)).Nodup
 | .set S n => h.SetOf (intKind P w) a S n
 | .ins C dx fs => H dx = some (.own a) ∧ fs.length ≤ 1000 ∧ dx ≠ a ∧ h.get? a = some (PySem.W.instObj C dx) ∧
   ∃ mA, h.Ns1 dx mA ∧ (∀ f, RelO (fs.lookup f) (mA f)) ∧ PySem.Within mA (fs.map (·.1))
 | .own _ => ∃ o, h.get? a = some o
 | .xd fs => ∃ mA, h.Ns1 a mA ∧ ∀ f, RelO (fs.lookup f) (mA f)
 | .rng lo hi => ∃ t u v, h.get? a = some { cls := .type "range", data := .fields #[.int lo t, .int hi u, .int 1 v] }
 | .frz o u => h.get? a = some o ∧ ObjOk H h a u
 | .tbl ps => ∃ qs : Array Value, h.get? a = some { cls := .none, data := .fields qs } ∧ TriplesOk qs.toList ∧ ∀ (pos : Pos) (v : Value), codeAmong pos qs.toList = some v →
   ∃ (c : Addr) (o : Obj) (vs : Array Value) (q : Str) (t t' : Tok), v = .ref c ∧ H c = some (.frz o (.own a)) ∧ o.data = .fields vs ∧ vs[1]? = some (.str q t) ∧ ps[0]? = some (.str q t')
 | .met f x => h.get? a = some (PySem.W.methodObj (.ref f) (.ref x))
 | .ext φ => φ h ∧ (∃ o, h.get? a = some o) ∧ ∀ h1 h2 : Heap, φ h1 → (∀ o, h1.get? a = some o → h2.get? a = some o) → φ h2
def HOk (H : Hp) (h : Heap) : Prop := ∀ a o, H a = some o → ObjOk P w H h a o
end
section
variable {P : Program} {w : World} {H H' : Hp} {h h' : Heap} {a : Addr} {o : HO}
theorem ObjOk.lt (x : ObjOk P w H h a o) : a < h.objs.size := by
 cases o with
 | lst xs => obtain ⟨_, _, _, _, e⟩ := x; exact Heap.lt_size e
 | tup xs => obtain ⟨_, _, _, p⟩ := x; exact p.lt
 | dK kvs => obtain ⟨_, _, _, _, o, _, _, e, _⟩ := x; exact Heap.lt_size e
 | dT kvs => obtain ⟨_, _, _, _, o, _, _, e, _⟩ := x; exact Heap.lt_size e
 | set S n => obtain ⟨o, _, _, _, e, _⟩ := x; exact Heap.lt_size e
 | ins C dx fs => obtain ⟨_, _, _, e, _⟩ := x; exact Heap.lt_size e
 | own y => obtain ⟨_, e⟩ := x; exact Heap.lt_size e
 | xd fs => obtain ⟨_, ⟨_, _, _, e, _⟩, _⟩ := x; exact Heap.lt_size e
 | rng lo hi => obtain ⟨_, _, _, e⟩ := x; exact Heap.lt_size e
 | frz ob u => obtain ⟨e, _⟩ := x; exact Heap.lt_size e
 | tbl ps => obtain ⟨_, e, _⟩ := x; exact Heap.lt_size e
 | met f y => exact Heap.lt_size (show h.get? a = some _ from x)
 | ext φ => obtain ⟨_, ⟨_, e⟩, _⟩ := x; exact Heap.lt_size e
theorem Paired.mapP {α β : Type} {F G : α → β → Prop} : ∀ {l₁ : List α} {l₂ : List β}, Paired F l₁ l₂ → (∀ a b, F a b → G a b) → Paired G l₁ l₂
 | _, _, .nil, _ => .nil
 | _, _, .cons r t, f => .cons (f _ _ r) (Paired.mapP t f)
theorem ObjOk.stay (x : ObjOk P w H h a o) (k : ∀ b u, (b = a ∨ H b = some (.own a)) → h.get? b = some u → h'.get? b = some u)
  (ho : ∀ b, H b = some (.own a) → H' b = some (.own a)) (ht : ∀ b xs, H b = some (.tup xs) → H' b = some (.tup xs))
  (hf : ∀ b o, H b = some (.frz o (.own a)) → H' b = some (.frz o (.own a)) := by exact fun _ _ q => q) : ObjOk P w H' h' a o := by
 induction o with
 | lst xs => obtain ⟨z, its, n, r, e⟩ := x; exact ⟨z, its, n, r, k _ _ (.inl rfl) e⟩
 | tup xs => obtain ⟨z, its, r, ob, e, c⟩ := x; exact ⟨z, its, r, ob, k _ _ (.inl rfl) e, c⟩
 | dK kvs => obtain ⟨z, y, vs, r, ob, es, ep, e, c⟩ := x; exact ⟨z, y, vs, r, ob, es, ep, k _ _ (.inl rfl) e, c⟩
 | dT kvs =>
  obtain ⟨z, y, xs, r, ob, es, ep, e, c⟩ := x
  exact ⟨z, y, xs, Paired.mapP r fun p q z => ⟨z.1, ht _ _ z.2.1, z.2.2⟩, ob, es, ep, k _ _ (.inl rfl) e, c⟩
 | set S n => obtain ⟨ob, es, ep, t, e, c⟩ := x; exact ⟨ob, es, ep, t, k _ _ (.inl rfl) e, c⟩
 | ins C dx fs =>
  obtain ⟨d, z, ne, e, mA, ⟨od, es, ep, e2, c⟩, r⟩ := x
  exact ⟨ho _ d, z, ne, k _ _ (.inl rfl) e, mA, ⟨od, es, ep, k _ _ (.inr d) e2, c⟩, r⟩
 | own y => obtain ⟨ob, e⟩ := x; exact ⟨ob, k _ _ (.inl rfl) e⟩
 | xd fs => obtain ⟨mA, ⟨od, es, ep, e, c⟩, r⟩ := x; exact ⟨mA, ⟨od, es, ep, k _ _ (.inl rfl) e, c⟩, r⟩
 | rng lo hi => obtain ⟨t, u, v, e⟩ := x; exact ⟨t, u, v, k _ _ (.inl rfl) e⟩
 | frz ob u ih => obtain ⟨e, q⟩ := x; exact ⟨k _ _ (.inl rfl) e, ih q⟩
 | tbl ps =>
  obtain ⟨qs, e, t, f⟩ := x
  exact ⟨qs, k _ _ (.inl rfl) e, t, fun pos v z => by
   obtain ⟨c, o, vs, q, t, t', e1, e2, r⟩ := f pos v z
   exact ⟨c, o, vs, q, t, t', e1, hf _ _ e2, r⟩⟩
 | met f y =>
  have e : h.get? a = some (PySem.W.methodObj (.ref f) (.ref y)) := x
  show h'.get? a = some (PySem.W.methodObj (.ref f) (.ref y))
  exact k a _ (.inl rfl) e
 | ext φ => obtain ⟨p, ⟨o, e⟩, st⟩ := x; exact ⟨st _ _ p fun o q => k _ _ (.inl rfl) q, ⟨o, k _ _ (.inl rfl) e⟩, st⟩
theorem HOk.lt (x : HOk P w H h) (e : H a = some o) : a < h.objs.size := (x a o e).lt
theorem HOk.fresh (x : HOk P w H h) (e : h.objs.size ≤ a) : H a = none := by
 cases q : H a with
 | none => rfl
 | some u => exact absurd (Nat.lt_of_lt_of_le (x.lt q) e) (Nat.lt_irrefl _)
theorem HOk.kept (x : HOk P w H h) (k : ∀ b u, h.get? b = some u → h'.get? b = some u) : HOk P w H h' := fun a o e =>
 (x a o e).stay (fun b u _ q => k b u q) (fun _ q => q) fun _ _ q => q
theorem HOk.laid (x : HOk P w H h) (k : ∀ b u, h.get? b = some u → h'.get? b = some u) (hp : h.objs.size ≤ a) (new : ObjOk P w (upd H a o) h' a o) : HOk P w (upd H a o) h' := fun b u e => by
 have hn := x.fresh hp
 by_cases hb : b = a
 ·subst hb; rw [upd_same] at e; cases e; exact new
 ·rw [upd_ne hb] at e
  exact (x b u e).stay (fun c v _ q => k c v q) (fun c q => by rw [upd_ne (ne_of_none q hn)]; exact q) (fun c xs q => by rw [upd_ne (ne_of_none q hn)]; exact q) fun c o q => by rw [upd_ne (ne_of_none q hn)]; exact q
end
def Rd (H : Hp) (a : Addr) (u : HO) : Prop := H a = some u ∨ ∃ o, H a = some (.frz o u)
theorem Rd.ok {P : Program} {w : World} {H : Hp} {h : Heap} {a : Addr} {u : HO} (r : Rd H a u) (x : HOk P w H h) : ObjOk P w H h a u := by
 rcases r with r | ⟨o, r⟩
 ·exact x a u r
 ·obtain ⟨_, q⟩ := x a _ r
  exact q
def Mut : Option HO → Prop
 | some (.lst _) => True
 | some (.dK _) => True
 | some (.dT _) => True
 | some (.set _ _) => True
 | some (.ins _ _ _) => True
 | some (.ext _) => True
 | _ => False
section
variable {P : Program} {w : World} {H : Hp} {h h' : Heap} {x e : Addr} {o' : HO}
theorem HOk.write (ok : HOk P w H h) (mu : Mut (H x)) (he : e = x ∨ H e = some (.own x)) (k : ∀ b u, b ≠ e → h.get? b = some u → h'.get? b = some u) (heo : ∃ u, h'.get? e = some u)
  (new : ObjOk P w (upd H x o') h' x o') : HOk P w (upd H x o') h' := fun b u q => by
 have nown : ∀ c y, H c = some (.own y) → c ≠ x := fun c y r z => by subst z; rw [r] at mu; exact mu
 have ntup : ∀ c xs, H c = some (.tup xs) → c ≠ x := fun c xs r z => by subst z; rw [r] at mu; exact mu
 by_cases hb : b = x
 ·subst hb; rw [upd_same] at q; cases q; exact new
 ·rw [upd_ne hb] at q
  by_cases hbe : b = e
  ·have q' : H b = some (.own x) := by
    rcases he with z | z
    ·exact absurd (hbe.trans z) hb
    ·rw [hbe]; exact z
   rw [q] at q'; cases q'
   obtain ⟨v, hv⟩ := heo
   exact ⟨v, by rw [hbe]; exact hv⟩
  ·refine (ok b u q).stay (fun c v hc r => k c v ?_ r) (fun c r => by rw [upd_ne (nown c b r)]; exact r) (fun c xs r => by rw [upd_ne (ntup c xs r)]; exact r) fun c o r => by rw [upd_ne fun z => by subst z; rw [r] at mu; exact mu]; exact r
   rcases hc with rfl | hc
   ·exact hbe
   ·rintro rfl
    rcases he with z | z
    ·exact nown c b hc z
    ·rw [hc] at z; cases z; exact hb rfl
end
structure Un (fs ex : List Addr) (H H' : Hp) (h h' : Heap) : Prop where
 keep : ∀ b o, h.get? b = some o → H b = none → b ∉ fs → b ∉ ex → h'.get? b = some o
 slot : ∀ b o, h.get? b = some o → H b = none → b ∈ fs → b ∉ ex → ∃ sl, h'.get? b = some { o with slots := sl }
 free : ∀ b o, h.get? b = some o → H b = none → b ∉ ex → H' b = none
 there : ∀ b o, h.get? b = some o → b ∉ ex → ∃ o', h'.get? b = some o'
 tups : ∀ b xs, H b = some (.tup xs) → H' b = some (.tup xs)
 frzs : ∀ b o u, H b = some (.frz o u) → H' b = some (.frz o u)
 tbls : ∀ b ps, H b = some (.tbl ps) → ∃ more, H' b = some (.tbl (ps ++ more))
section
variable {fs fs' ex ex' : List Addr} {H H1 H2 : Hp} {h h1 h2 h' : Heap} {a x e : Addr} {o : HO}
theorem Un.any (u : Un fs ex H H1 h h1) {b : Addr} {ob : Obj} (q : h.get? b = some ob) (n : H b = none) (hx : b ∉ ex) : ∃ sl, h1.get? b = some { ob with slots := sl } := by
 by_cases hb : b ∈ fs
 ·exact u.slot b ob q n hb hx
 ·exact ⟨ob.slots, u.keep b ob q n hb hx⟩
theorem Un.kept (k : ∀ b u, h.get? b = some u → h'.get? b = some u) : Un fs ex H H h h' :=
 ⟨fun b ob q _ _ _ => k b ob q, fun b ob q _ _ _ => ⟨ob.slots, k b ob q⟩, fun _ _ _ n _ => n, fun b ob q _ => ⟨ob, k b ob q⟩, fun _ _ q => q, fun _ _ _ q => q, fun _ ps q => ⟨#[], by rw [q]; simp⟩⟩
theorem Un.refl : Un fs ex H H h h := Un.kept fun _ _ q => q
theorem Un.laid (k : ∀ b u, h.get? b = some u → h'.get? b = some u) (hp : h.objs.size ≤ a) (hn : H a = none) : Un fs ex H (upd H a o) h h' where
 keep := fun b u q _ _ _ => k b u q
 slot := fun b u q _ _ _ => ⟨u.slots, k b u q⟩
 free := fun b u q n _ => by rw [upd_ne (Nat.ne_of_lt (Nat.lt_of_lt_of_le (Heap.lt_size q) hp))]; exact n
 there := fun b u q _ => ⟨u, k b u q⟩
 tups := fun b xs q => by rw [upd_ne (ne_of_none q hn)]; exact q
 frzs := fun b u xs q => by rw [upd_ne (ne_of_none q hn)]; exact q
 tbls := fun b ps q => ⟨#[], by rw [upd_ne (ne_of_none q hn), q]; simp⟩
theorem Un.write (mu : Mut (H x)) (he : e = x ∨ H e = some (.own x)) (k : ∀ b u, b ≠ e → h.get? b = some u → h'.get? b = some u) (heo : ∃ u, h'.get? e = some u) : Un fs ex H (upd H x o) h h' := by
 have hx : ∀ b, H b = none → b ≠ x := fun b n z => by subst z; rw [n] at mu; exact mu
 have hb : ∀ b, H b = none → b ≠ e := fun b n z => by
  subst z
  rcases he with r | r
  ·exact hx b n r
  ·rw [n] at r; cases r
 have hm : ∀ b u, H b = some u → ¬ Mut (some u) → b ≠ x := fun b u q nm z => by subst z; rw [q] at mu; exact nm mu
 refine ⟨fun b u q n _ _ => k b u (hb b n) q, fun b u q n _ _ => ⟨u.slots, k b u (hb b n) q⟩, fun b u q n _ => by rw [upd_ne (hx b n)]; exact n, fun b u q _ => ?_,
  fun b xs q => by rw [upd_ne (hm b _ q fun z => z)]; exact q, fun b u xs q => by rw [upd_ne (hm b _ q fun z => z)]; exact q, fun b ps q => ⟨#[], by rw [upd_ne (hm b _ q fun z => z), q]; simp⟩⟩
 by_cases hbe : b = e
 ·subst hbe; exact heo
 ·exact ⟨u, k b u hbe q⟩
end
def trk (h : Heap) (H : Hp) : List Addr := (List.range h.objs.size).filter fun a => (H a).isSome
def hidT (h : Heap) (H : Hp) : Heap := PySem.W.hideAll h (trk h H)
theorem hidT_size (h : Heap) (H : Hp) : (hidT h H).objs.size = h.objs.size := PySem.W.hideAll_size _ _
theorem hidT_get {h : Heap} {H : Hp} {b : Addr} {o : Obj} (e : h.get? b = some o) (n : H b = none) : (hidT h H).get? b = some o :=
 PySem.W.hideAll_get _ e fun hm => by
  have q : (H b).isSome = true := (List.mem_filter.mp hm).2
  rw [n] at q; simp at q
theorem of_hidT {h : Heap} {H : Hp} {b : Addr} {o : Obj} (e : (hidT h H).get? b = some o) : h.get? b = some o ∧ H b = none := by
 have e' : h.get? b = some o := PySem.W.of_hideAll (trk h H) e
 refine ⟨e', ?_⟩
 cases q : H b with
 | none => rfl
 | some x =>
  have hm : b ∈ trk h H := List.mem_filter.mpr ⟨List.mem_range.mpr (Heap.lt_size e'), by simp [q]⟩
  have z : (hidT h H).get? b = none := PySem.W.hideAll_none (trk h H) hm
  rw [z] at e; cases e
def allNews (g h : Heap) (L : Addr) : List (Addr × Obj) := (List.range h.objs.size).filterMap fun a => if a = L ∨ (g.get? a).isSome = true then none else (h.get? a).map fun o => (a, o)
def rest (g h : Heap) (L d : Addr) : List (Addr × Obj) := (allNews g h L).filter fun p => decide (p.1 ≠ d)
end L2
namespace L2
open PySem PySem.Spec PyProof.Rows
structure Mod (K : PySem.W.Frag) (mg : Str → Option Value) (base : Heap) : Prop where
 kin : K.In base
 glob : base.Ns mainGlobals mg
 blt : ∃ mb, base.Ns builtinsNs mb ∧ ∀ x : Str, x ≠ "__name__" → mb x = bootBuiltins x
 nolimit : base.NoLimit
structure Cx where
 prog : Program
 w : World
 K : PySem.W.Frag
 mg : Str → Option Value
 base : Heap
 A : Around
 N : List Str
 s₀ : Shared
 H₀ : Hp
 env : Env
 outer : List Env
 stack : List Env
 ex : List Addr
 fn : Str → Bool
 calm : Bool
 pn : List (Addr × Obj)
 xe : Value → Shared → Prop
def frs (l : List Env) : List Addr := l.filterMap (·.frame)
abbrev Cx.fs (X : Cx) : List Addr := frs X.outer
def Vis (sc : Scope) (x : Str) : Prop := sc.names.lookup x = some .local ∨ sc.names.lookup x = some .cell ∨ sc.names.lookup x = some .free
def Loc (sc : Scope) (x : Str) : Prop := sc.names.lookup x = some .local ∨ sc.names.lookup x = some .cell
def Look (env : Env) (h : Heap) (m : Str → Option Value) (x : Str) (u : Value) : Prop :=
 (env.kindOf x = some .local ∧ m x = some u) ∨ ((env.kindOf x = some .cell ∨ env.kindOf x = some .free) ∧ ∃ c, env.cells.lookup x = some c ∧ h.IsCell c (some u))
structure Cx.Ok (X : Cx) : Prop where
 mod : Mod X.K X.mg X.base
 kind : X.env.scope.kind = .function
 glob : X.env.globals = mainGlobals
 blt : X.env.builtins = builtinsNs
 above : X.s₀.heap.objs.size ≤ X.env.locals
 inj : ∀ x y c, X.env.cells.lookup x = some c → X.env.cells.lookup y = some c → x = y
 has : ∀ x, (X.env.kindOf x = some .cell ∨ X.env.kindOf x = some .free) → ∃ c, X.env.cells.lookup x = some c
 cab : ∀ x c, X.fn x = true → X.env.cells.lookup x = some c → X.s₀.heap.objs.size ≤ c
 hd : X.calm = true → X.A.handled = none
 frames : X.A.frames = some X.stack
 stk : X.stack = X.outer ∨ (X.stack = X.env :: X.outer ∧ X.env.frame = some X.env.locals)
 exf : ∀ b ∈ X.ex, b ≠ X.env.locals ∧ ∀ x c, X.env.cells.lookup x = some c → c ≠ b
 bs : ∀ b o, X.base.get? b = some o → X.s₀.heap.get? b = some o ∧ X.H₀ b = none
 bsz : X.base.objs.size ≤ X.s₀.heap.objs.size
 noex : ∀ b o, X.base.get? b = some o → b ∉ X.ex
 exfs : ∀ b ∈ X.ex, b ∉ X.fs
 funs : X.s₀.heap.FunFrames X.base X.outer
 frf : ∀ b ∈ X.fs, X.H₀ b = none
structure Inv (X : Cx) (pins : List (Addr × Obj)) (σ : List (Option V)) (H : Hp) (s : Shared) : Prop where
 ok : X.Ok
 os : s.os = X.s₀.os
 bare : AllBare s.gens
 base : Un X.fs X.ex X.H₀ H X.s₀.heap s.heap
 loc : ∃ m, s.heap.Ns X.env.locals m ∧ ∀ (i : Nat) (x : Str) (v : V), X.N[i]? = some x → σ[i]? = some (some v) → Vis X.env.scope x → ∃ u, RelV v u ∧ Look X.env s.heap m x u
 cell : ∀ x c, X.env.cells.lookup x = some c → ∃ v, s.heap.IsCell c v
 free : H X.env.locals = none
 freeC : ∀ x c, X.env.cells.lookup x = some c → H c = none
 pin : ∀ p ∈ X.pn ++ pins, s.heap.get? p.1 = some p.2 ∧ H p.1 = none ∧ p.1 ≠ X.env.locals ∧ p.1 ∉ X.fs ∧ ∀ v, p.2.data ≠ .cell v
 hok : HOk X.prog X.w H s.heap
 len : σ.length = X.N.length
section
variable {X : Cx} {pins : List (Addr × Obj)} {σ : List (Option V)} {H H' : Hp} {s : Shared} {h' : Heap}
theorem Cx.Ok.nofr (ok : X.Ok) {b : Addr} {o : Obj} (e : X.base.get? b = some o) : b ∉ X.fs := fun hb => by
 have := (ok.funs.mem hb).1
 rw [e] at this; cases this
theorem Inv.bs (I : Inv X pins σ H s) : ∀ b o, X.base.get? b = some o → s.heap.get? b = some o ∧ H b = none := fun b o e =>
 ⟨I.base.keep b o (I.ok.bs b o e).1 (I.ok.bs b o e).2 (I.ok.nofr e) (I.ok.noex b o e), I.base.free b o (I.ok.bs b o e).1 (I.ok.bs b o e).2 (I.ok.noex b o e)⟩
theorem Inv.bk (I : Inv X pins σ H s) : ∀ b o, X.base.get? b = some o → s.heap.get? b = some o := fun b o e => (I.bs b o e).1
theorem Inv.mod (I : Inv X pins σ H s) : Mod X.K X.mg X.base := I.ok.mod
theorem Inv.kIn (I : Inv X pins σ H s) : X.K.In s.heap := I.ok.mod.kin.keeps I.bk
theorem Inv.nolimit (I : Inv X pins σ H s) : s.heap.NoLimit := I.ok.mod.nolimit.keeps I.bk
theorem Inv.fr (I : Inv X pins σ H s) : ∃ m, Fr X.base X.env.locals s.heap m :=
 let ⟨m, hn, _⟩ := I.loc
 ⟨m, hn, I.bk, Nat.le_trans I.ok.bsz I.ok.above⟩
theorem Inv.lt (I : Inv X pins σ H s) : X.env.locals < s.heap.objs.size := let ⟨_, hn, _⟩ := I.loc; hn.lt
theorem Inv.sz (I : Inv X pins σ H s) : X.s₀.heap.objs.size ≤ s.heap.objs.size := Nat.le_trans I.ok.above (Nat.le_of_lt I.lt)
theorem Inv.nofs (I : Inv X pins σ H s) {a : Addr} (h : s.heap.objs.size ≤ a) : a ∉ X.fs := fun hb => by
 obtain ⟨_, o, ho, _⟩ := I.ok.funs.mem hb
 exact absurd (Nat.lt_of_lt_of_le (Heap.lt_size ho) (Nat.le_trans I.sz h)) (Nat.lt_irrefl _)
theorem Inv.cne (I : Inv X pins σ H s) : ∀ x c, X.env.cells.lookup x = some c → c ≠ X.env.locals := fun x c e z => by
 obtain ⟨v, o, ho, hd⟩ := I.cell x c e
 obtain ⟨m, ⟨o', es, ep, ho', hd', _⟩, _⟩ := I.loc
 rw [z, ho'] at ho; cases ho; rw [hd'] at hd; cases hd
theorem Inv.funs (I : Inv X pins σ H s) : s.heap.FunFrames X.base X.outer := by
 have all : ∀ (l : List Env), (∀ b ∈ frs l, b ∈ X.fs) → X.s₀.heap.FunFrames X.base l → s.heap.FunFrames X.base l := by
  intro l
  induction l with
  | nil => intro _ _; trivial
  | cons env r ih =>
   intro hs hl
   obtain ⟨hk, ⟨L, o, hf, hn, ho, hd⟩, hr⟩ := hl
   have hL : L ∈ X.fs := hs L (by unfold frs; rw [List.filterMap_cons, hf]; exact List.mem_cons_self)
   obtain ⟨sl, e⟩ := I.base.slot L o ho (I.ok.frf L hL) hL fun z => I.ok.exfs L z hL
   exact ⟨hk, ⟨L, _, hf, hn, e, hd⟩, ih (fun b hb => hs b (by unfold frs; rw [List.filterMap_cons, hf]; exact List.mem_cons_of_mem _ hb)) hr⟩
 exact all X.outer (fun _ hb => hb) I.ok.funs
theorem Inv.stack (I : Inv X pins σ H s) : s.heap.FunFrames X.base X.stack := by
 rcases I.ok.stk with e | ⟨e, hf⟩
 ·rw [e]; exact I.funs
 ·rw [e]
  obtain ⟨m, hn, _⟩ := I.loc
  refine .cons (by rw [I.ok.kind]; decide) hf hn ?_ I.funs
  exact Heap.get?_none_of_le (Nat.le_trans I.ok.bsz I.ok.above)
theorem Inv.stkSub (I : Inv X pins σ H s) : ∀ b ∈ frs X.stack, b ∈ X.env.locals :: X.fs := fun b hb => by
 rcases I.ok.stk with e | ⟨e, hf⟩
 ·rw [e] at hb; exact List.mem_cons_of_mem _ hb
 ·rw [e] at hb
  unfold frs at hb
  rw [List.filterMap_cons, hf] at hb
  exact hb
theorem Inv.stkFree (I : Inv X pins σ H s) : ∀ b ∈ frs X.stack, H b = none := fun b hb => by
 rcases List.mem_cons.mp (I.stkSub b hb) with e | hb
 ·rw [e]; exact I.free
 ·obtain ⟨_, o, ho, _⟩ := I.ok.funs.mem hb
  exact I.base.free b o ho (I.ok.frf b hb) fun z => I.ok.exfs b z hb
theorem Inv.step {g' : Array GenState} {t' : Nat} {d' : Drawn} {ch : List Addr} (I : Inv X pins σ H s)
  (hch : ∀ b ∈ ch, (b ∈ X.ex ∨ X.s₀.heap.objs.size ≤ b) ∧ b ≠ X.env.locals ∧ (∀ x c, X.env.cells.lookup x = some c → c ≠ b) ∧ ∀ p ∈ X.pn ++ pins, p.1 ≠ b)
  (keep : ∀ b o, b ≠ X.env.locals → b ∉ X.fs → b ∉ ch → s.heap.get? b = some o → H b = none → h'.get? b = some o)
  (slot : ∀ b o, b ≠ X.env.locals → b ∈ X.fs → b ∉ ch → s.heap.get? b = some o → H b = none → ∃ sl, h'.get? b = some { o with slots := sl }) (free : ∀ b o, b ∉ ch → s.heap.get? b = some o → H b = none → H' b = none)
  (there : ∀ b o, b ∉ ch → s.heap.get? b = some o → ∃ o', h'.get? b = some o')
  (tups : ∀ b xs, H b = some (.tup xs) → H' b = some (.tup xs)) (frzs : ∀ b o u, H b = some (.frz o u) → H' b = some (.frz o u)) (tbls : ∀ b ps, H b = some (.tbl ps) → ∃ more, H' b = some (.tbl (ps ++ more)))
  (ns : ∀ m, s.heap.Ns X.env.locals m → h'.Ns X.env.locals m) (hok : HOk X.prog X.w H' h') (hg : AllBare g') :
  Inv X pins σ H' { s with heap := h', gens := g', drawn := d', toks := t' } := by
 have neL : ∀ b o, X.s₀.heap.get? b = some o → b ≠ X.env.locals := fun b o e => Nat.ne_of_lt (Nat.lt_of_lt_of_le (Heap.lt_size e) I.ok.above)
 have neC : ∀ b o, X.s₀.heap.get? b = some o → b ∉ X.ex → b ∉ ch := fun b o e hx hb => by
  rcases (hch b hb).1 with z | z
  ·exact hx z
  ·exact absurd (Nat.lt_of_lt_of_le (Heap.lt_size e) z) (Nat.lt_irrefl _)
 have cellK : ∀ x c, X.env.cells.lookup x = some c → ∀ v, s.heap.IsCell c v → h'.IsCell c v := fun x c e v ⟨o, ho, hd⟩ => by
  have nch : c ∉ ch := fun z => (hch c z).2.2.1 x c e rfl
  by_cases hc : c ∈ X.fs
  ·obtain ⟨sl, q⟩ := slot c o (I.cne x c e) hc nch ho (I.freeC x c e)
   exact ⟨_, q, hd⟩
  ·exact ⟨o, keep c o (I.cne x c e) hc nch ho (I.freeC x c e), hd⟩
 refine ⟨I.ok, I.os, hg, ⟨fun b o e n hb hx => ?_, fun b o e n hb hx => ?_, fun b o e n hx => ?_, fun b o e hx => ?_, fun b xs e => tups b xs (I.base.tups b xs e), fun b o xs e => frzs b o xs (I.base.frzs b o xs e), fun b ps e => ?_⟩, ?_, fun x c e => ?_, ?_, fun x c e => ?_, fun p hp => ?_, hok, I.len⟩
 ·exact keep b o (neL b o e) hb (neC b o e hx) (I.base.keep b o e n hb hx) (I.base.free b o e n hx)
 ·obtain ⟨sl, e1⟩ := I.base.slot b o e n hb hx
  obtain ⟨sl', e2⟩ := slot b _ (neL b o e) hb (neC b o e hx) e1 (I.base.free b o e n hx)
  exact ⟨sl', e2⟩
 ·obtain ⟨o', e1⟩ := I.base.there b o e hx
  exact free b o' (neC b o e hx) e1 (I.base.free b o e n hx)
 ·obtain ⟨o', e1⟩ := I.base.there b o e hx
  exact there b o' (neC b o e hx) e1
 ·obtain ⟨m1, e1⟩ := I.base.tbls b ps e
  obtain ⟨m2, e2⟩ := tbls b _ e1
  exact ⟨m1 ++ m2, by rw [e2, Array.append_assoc]⟩
 ·obtain ⟨m, hn, hl⟩ := I.loc
  refine ⟨m, ns m hn, fun i x v e1 e2 e3 => ?_⟩
  obtain ⟨u, r, l⟩ := hl i x v e1 e2 e3
  refine ⟨u, r, ?_⟩
  rcases l with l | ⟨k, c, e, z⟩
  ·exact .inl l
  ·exact .inr ⟨k, c, e, cellK x c e _ z⟩
 ·obtain ⟨v, z⟩ := I.cell x c e
  exact ⟨v, cellK x c e v z⟩
 ·obtain ⟨m, ⟨o, _, _, ho, _⟩, _⟩ := I.loc
  exact free _ o (fun z => (hch _ z).2.1 rfl) ho I.free
 ·obtain ⟨v, o, ho, hd⟩ := I.cell x c e
  exact free c o (fun z => (hch c z).2.2.1 x c e rfl) ho (I.freeC x c e)
 ·obtain ⟨e, n, ne, nf, d⟩ := I.pin p hp
  have nch : p.1 ∉ ch := fun z => (hch p.1 z).2.2.2 p hp rfl
  exact ⟨keep p.1 p.2 ne nf nch e n, free p.1 p.2 nch e n, ne, nf, d⟩
theorem Inv.un {t' : Nat} (I : Inv X pins σ H s) (u : Un X.fs [] H H' s.heap h') (hok : HOk X.prog X.w H' h') : Inv X pins σ H' { s with heap := h', toks := t' } := by
 obtain ⟨m, ⟨o, es, ep, ho, r⟩, _⟩ := id I.loc
 obtain ⟨sl, hL⟩ := u.any ho I.free (by simp)
 exact I.step (g' := s.gens) (d' := s.drawn) (ch := []) (fun _ z => nomatch z) (fun b o _ hb _ e n => u.keep b o e n hb (by simp)) (fun b o _ hb _ e n => u.slot b o e n hb (by simp)) (fun b o _ e n => u.free b o e n (by simp)) (fun b o _ e => u.there b o e (by simp)) u.tups u.frzs u.tbls (fun m' hm => by
  obtain ⟨o', es', ep', ho', r'⟩ := hm
  rw [ho] at ho'; cases ho'
  exact ⟨_, es', ep', hL, r'⟩) hok I.bare
theorem Inv.call {g' : Array GenState} {t' : Nat} {d' : Drawn} {ch : List Addr} (I : Inv X pins σ H s) (u : Un (frs X.stack) ch H H' s.heap h') (hok : HOk X.prog X.w H' h') (hg : AllBare g')
  (hch : ∀ b ∈ ch, (b ∈ X.ex ∨ X.s₀.heap.objs.size ≤ b) ∧ b ≠ X.env.locals ∧ (∀ x c, X.env.cells.lookup x = some c → c ≠ b) ∧ ∀ p ∈ X.pn ++ pins, p.1 ≠ b) :
  Inv X pins σ H' { s with heap := h', gens := g', drawn := d', toks := t' } := by
 obtain ⟨m, ⟨o, es, ep, ho, r⟩, _⟩ := id I.loc
 obtain ⟨sl, hL⟩ := u.any ho I.free fun z => (hch _ z).2.1 rfl
 exact I.step (ch := ch) hch (fun b o hL hb hc e n => u.keep b o e n (fun z => (List.mem_cons.mp (I.stkSub b z)).elim hL hb) hc) (fun b o _ _ hc e n => u.any e n hc) (fun b o hc e n => u.free b o e n hc) (fun b o hc e => u.there b o e hc) u.tups u.frzs u.tbls (fun m' hm => by
  obtain ⟨o', es', ep', ho', r'⟩ := hm
  rw [ho] at ho'; cases ho'
  exact ⟨_, es', ep', hL, r'⟩) hok hg
theorem Inv.turned {t' : Nat} {it : Addr} (I : Inv X pins σ H s) (k : ∀ b o, b ≠ it → s.heap.get? b = some o → h'.get? b = some o) (hn : H it = none) (hL : it ≠ X.env.locals)
  (h1 : it ∈ X.ex ∨ X.s₀.heap.objs.size ≤ it) (h2 : ∀ x c, X.env.cells.lookup x = some c → c ≠ it) (h3 : ∀ p ∈ X.pn ++ pins, p.1 ≠ it) : Inv X pins σ H { s with heap := h', toks := t' } := by
 have nit : ∀ b u, H b = some u → b ≠ it := fun b u e z => by rw [z, hn] at e; cases e
 refine I.step (g' := s.gens) (d' := s.drawn) (ch := [it]) (fun b hb => ?_) (fun b o _ _ hc e _ => k b o (fun z => hc (by simp [z])) e) (fun b o _ _ hc e _ => ⟨o.slots, k b o (fun z => hc (by simp [z])) e⟩) (fun _ _ _ _ n => n)
  (fun b o hc e => ⟨o, k b o (fun z => hc (by simp [z])) e⟩) (fun _ _ e => e) (fun _ _ _ e => e) (fun b ps e => ⟨#[], by rw [e]; simp⟩) (fun m hm => ?_) (fun b u e => ?_) I.bare
 ·have e : b = it := by simpa using hb
  subst e
  exact ⟨h1, hL, h2, h3⟩
 ·obtain ⟨o, es, ep, ho, r⟩ := hm
  exact ⟨o, es, ep, k _ o (Ne.symm hL) ho, r⟩
 ·refine (I.hok b u e).stay (fun c v hc q => k c v ?_ q) (fun _ q => q) fun _ _ q => q
  rcases hc with z | z
  ·rw [z]; exact nit b u e
  ·exact nit c _ z
theorem Inv.tok (I : Inv X pins σ H s) (t : Nat) : Inv X pins σ H { s with toks := t } := I.un (h' := s.heap) (t' := t) Un.refl I.hok
theorem Inv.kept {t' : Nat} (I : Inv X pins σ H s) (k : ∀ b u, s.heap.get? b = some u → h'.get? b = some u) : Inv X pins σ H { s with heap := h', toks := t' } := I.un (Un.kept k) (I.hok.kept k)
theorem Inv.laid {a : Addr} {o : HO} {t' : Nat} (I : Inv X pins σ H s) (k : ∀ b u, s.heap.get? b = some u → h'.get? b = some u) (hp : s.heap.objs.size ≤ a) (new : ObjOk X.prog X.w (upd H a o) h' a o) :
  Inv X pins σ (upd H a o) { s with heap := h', toks := t' } := I.un (Un.laid k hp (I.hok.fresh hp)) (I.hok.laid k hp new)
theorem Inv.write {x e : Addr} {o : HO} {t' : Nat} (I : Inv X pins σ H s) (mu : Mut (H x)) (he : e = x ∨ H e = some (.own x)) (k : ∀ b u, b ≠ e → s.heap.get? b = some u → h'.get? b = some u) (heo : ∃ u, h'.get? e = some u)
  (new : ObjOk X.prog X.w (upd H x o) h' x o) : Inv X pins σ (upd H x o) { s with heap := h', toks := t' } := I.un (Un.write mu he k heo) (I.hok.write mu he k heo new)
theorem Inv.pins_of {pins' : List (Addr × Obj)} (I : Inv X pins σ H s) (h : ∀ p ∈ pins', s.heap.get? p.1 = some p.2 ∧ H p.1 = none ∧ p.1 ≠ X.env.locals ∧ p.1 ∉ X.fs ∧ ∀ v, p.2.data ≠ .cell v) : Inv X pins' σ H s :=
 ⟨I.ok, I.os, I.bare, I.base, I.loc, I.cell, I.free, I.freeC, fun p hp => (List.mem_append.mp hp).elim (fun z => I.pin p (List.mem_append_left _ z)) (h p), I.hok, I.len⟩
theorem nodup_ix {N : List Str} (hN : N.Nodup) {i j : Nat} {x : Str} (a : N[i]? = some x) (b : N[j]? = some x) : i = j := by
 obtain ⟨h1, e1⟩ := List.getElem?_eq_some_iff.mp a
 obtain ⟨h2, e2⟩ := List.getElem?_eq_some_iff.mp b
 exact (List.getElem_inj hN).mp (e1.trans e2.symm)
theorem store_ok2 {M : Model} {A : Around} {E : Value → Shared → Prop} {i : Nat} {x : Str} {v : V} {u : Value} {Q : Unit → Shared → Prop} (I : Inv X pins σ H s) (hN : X.N.Nodup) (hi : X.N[i]? = some x) (hx : Loc X.env.scope x) (r : RelV v u)
  (h : ∀ s', Inv X pins (σ.set i (some v)) H s' → (∃ a, Heap.SameBut a s.heap s'.heap ∧ (a = X.env.locals ∨ X.env.cells.lookup x = some a)) → Q () s') (hf : X.fn x = true ∨ X.env.scope.names.lookup x = some .local := by first | exact .inl rfl | exact .inr rfl | assumption) : wpAny M A (storeName X.env x u) Q E s := by
 obtain ⟨m, hn, hl⟩ := id I.loc
 have hcls : (X.env.scope.kind == .class || (X.env.scope.kind == .module && X.env.locals != X.env.globals)) = false := by rw [I.ok.kind]; rfl
 have hiσ : i < σ.length := by rw [I.len]; exact (List.getElem?_eq_some_iff.mp hi).1
 have cne := I.cne
 have tracked : ∀ {a : Addr} {h' : Heap}, (∃ o, s.heap.get? a = some o ∧ H a = none) → Heap.SameBut a s.heap h' → HOk X.prog X.w H h' := fun {a h'} ha hs b ob e => by
  obtain ⟨_, _, hfree⟩ := ha
  refine (I.hok b ob e).stay (fun c w' hc q => (hs.2 c ?_).trans q) (fun _ q => q) fun _ _ q => q
  rintro rfl
  rcases hc with rfl | hc
  ·rw [hfree] at e; cases e
  ·rw [hfree] at hc; cases hc
 rcases hx with hk | hk
 ·refine wpAny_storeName_local hk hn (fun h' hn' hs => ?_) hcls
  obtain ⟨oL, _, _, hoL, _⟩ := id hn
  refine h _ ⟨I.ok, I.os, I.bare, ⟨fun b o e n hb hx => ?_, fun b o e n hb hx => ?_, I.base.free, fun b o e hx => ?_, I.base.tups, I.base.frzs, I.base.tbls⟩, ⟨_, hn', fun j y v' e1 e2 e3 => ?_⟩, fun y c e => ?_, I.free, I.freeC, fun p hp => ?_, tracked ⟨oL, hoL, I.free⟩ hs, by simpa using I.len⟩ ⟨_, hs, .inl rfl⟩
  ·exact (hs.2 b (Nat.ne_of_lt (Nat.lt_of_lt_of_le (Heap.lt_size e) I.ok.above))).trans (I.base.keep b o e n hb hx)
  ·obtain ⟨sl, e1⟩ := I.base.slot b o e n hb hx
   exact ⟨sl, (hs.2 b (Nat.ne_of_lt (Nat.lt_of_lt_of_le (Heap.lt_size e) I.ok.above))).trans e1⟩
  ·obtain ⟨o', e1⟩ := I.base.there b o e hx
   exact ⟨o', (hs.2 b (Nat.ne_of_lt (Nat.lt_of_lt_of_le (Heap.lt_size e) I.ok.above))).trans e1⟩
  ·by_cases hj : j = i
   ·subst hj
    rw [hi] at e1; cases e1
    rw [List.getElem?_set_self hiσ] at e2
    cases e2
    exact ⟨u, r, .inl ⟨hk, by simp⟩⟩
   ·rw [List.getElem?_set_ne (Ne.symm hj)] at e2
    obtain ⟨u', r', q⟩ := hl j y v' e1 e2 e3
    refine ⟨u', r', ?_⟩
    rcases q with ⟨k, e⟩ | ⟨k, c, e, z⟩
    ·refine .inl ⟨k, ?_⟩
     have : y ≠ x := fun e => hj (nodup_ix hN e1 (e ▸ hi))
     simp [this, e]
    ·exact .inr ⟨k, c, e, z.sameBut hs (cne y c e)⟩
  ·obtain ⟨w', z⟩ := I.cell y c e
   exact ⟨w', z.sameBut hs (cne y c e)⟩
  ·obtain ⟨e, n, ne, nf, d⟩ := I.pin p hp
   exact ⟨(hs.2 p.1 ne).trans e, n, ne, nf, d⟩
 ·have hfn : X.fn x = true := by
   rcases hf with z | z
   ·exact z
   ·rw [z] at hk; cases hk
  obtain ⟨c, hc⟩ := I.ok.has x (.inl hk)
  obtain ⟨w', z⟩ := I.cell x c hc
  refine wpAny_storeName_cell I.ok.kind hk hc z (fun h' hc' hs => ?_)
  obtain ⟨oc, hoc, hocd⟩ := id z
  refine h { s with heap := h' } ⟨I.ok, I.os, I.bare, ⟨fun b o e n hb hx => ?_, fun b o e n hb hx => ?_, I.base.free, fun b o e hx => ?_, I.base.tups, I.base.frzs, I.base.tbls⟩, ⟨m, hn.sameBut hs (Ne.symm (cne x c hc)), fun j y v' e1 e2 e3 => ?_⟩, fun y c' e => ?_, I.free, I.freeC, fun p hp => ?_, tracked ⟨oc, hoc, I.freeC x c hc⟩ hs, by simpa using I.len⟩ ⟨c, hs, .inr hc⟩
  ·exact (hs.2 b (Nat.ne_of_lt (Nat.lt_of_lt_of_le (Heap.lt_size e) (I.ok.cab x c hfn hc)))).trans (I.base.keep b o e n hb hx)
  ·obtain ⟨sl, e1⟩ := I.base.slot b o e n hb hx
   exact ⟨sl, (hs.2 b (Nat.ne_of_lt (Nat.lt_of_lt_of_le (Heap.lt_size e) (I.ok.cab x c hfn hc)))).trans e1⟩
  ·obtain ⟨o', e1⟩ := I.base.there b o e hx
   exact ⟨o', (hs.2 b (Nat.ne_of_lt (Nat.lt_of_lt_of_le (Heap.lt_size e) (I.ok.cab x c hfn hc)))).trans e1⟩
  ·by_cases hj : j = i
   ·subst hj
    rw [hi] at e1; cases e1
    rw [List.getElem?_set_self hiσ] at e2
    cases e2
    exact ⟨u, r, .inr ⟨.inl hk, c, hc, hc'⟩⟩
   ·rw [List.getElem?_set_ne (Ne.symm hj)] at e2
    obtain ⟨u', r', q⟩ := hl j y v' e1 e2 e3
    refine ⟨u', r', ?_⟩
    rcases q with q | ⟨k, c', e, z'⟩
    ·exact .inl q
    ·refine .inr ⟨k, c', e, z'.sameBut hs ?_⟩
     rintro rfl
     exact hj (nodup_ix hN e1 (I.ok.inj _ _ _ e hc ▸ hi))
  ·by_cases hcc : c' = c
   ·subst hcc; exact ⟨_, hc'⟩
   ·obtain ⟨w2, z2⟩ := I.cell y c' e
    exact ⟨w2, z2.sameBut hs hcc⟩
  ·obtain ⟨e, n, ne, nf, d⟩ := I.pin p hp
   refine ⟨(hs.2 p.1 ?_).trans e, n, ne, nf, d⟩
   intro q
   rw [q, hoc] at e
   have q' : oc = p.2 := Option.some.inj e
   exact d w' (by rw [← q']; exact hocd)
theorem store_ok {M : Model} {A : Around} {E : Value → Shared → Prop} {i : Nat} {x : Str} {v : V} {u : Value} {Q : Unit → Shared → Prop} (I : Inv X pins σ H s) (hN : X.N.Nodup) (hi : X.N[i]? = some x) (hx : Loc X.env.scope x) (r : RelV v u)
  (h : ∀ s', Inv X pins (σ.set i (some v)) H s' → Q () s') (hf : X.fn x = true ∨ X.env.scope.names.lookup x = some .local := by first | exact .inl rfl | exact .inr rfl | assumption) : wpAny M A (storeName X.env x u) Q E s :=
 store_ok2 I hN hi hx r (fun s' I' _ => h s' I') hf
theorem Inv.call' {s' : Shared} {ch : List Addr} (I : Inv X pins σ H s) (ho : s'.os = s.os) (u : Un (frs X.stack) ch H H' s.heap s'.heap) (hok : HOk X.prog X.w H' s'.heap) (hg : AllBare s'.gens)
  (hch : ∀ b ∈ ch, (b ∈ X.ex ∨ X.s₀.heap.objs.size ≤ b) ∧ b ≠ X.env.locals ∧ (∀ x c, X.env.cells.lookup x = some c → c ≠ b) ∧ ∀ p ∈ X.pn ++ pins, p.1 ≠ b) : Inv X pins σ H' s' := by
 obtain ⟨h', g', d', t', o'⟩ := s'
 have e : o' = s.os := ho
 subst e
 exact I.call (g' := g') (t' := t') (d' := d') u hok hg hch
end
abbrev XK := Value → Option Addr → Hp → Prop
abbrev St := List (Option V)
abbrev VK := V → Hp → Prop
abbrev TE := St → Hp → VK → Prop
abbrev TT := St → Hp → (Bool → Hp → Prop) → Prop
abbrev TA := St → Hp → (List V → Hp → Prop) → Prop
structure Ends where
 nx : St → Hp → Prop
 rt : VK
 bk : St → Hp → Prop := fun _ _ => False
 ct : St → Hp → Prop := fun _ _ => False
abbrev TS := Ends → St → Hp → Prop
def EP (X : Cx) (pins : List (Addr × Obj)) (σ : St) (Q : VK) (u : Value) (s' : Shared) : Prop := ∃ v H', Inv X pins σ H' s' ∧ RelV v u ∧ Q v H'
def TP (X : Cx) (pins : List (Addr × Obj)) (σ : St) (Q : Bool → Hp → Prop) (b : Bool) (s' : Shared) : Prop := ∃ H', Inv X pins σ H' s' ∧ Q b H'
def AP (X : Cx) (pins : List (Addr × Obj)) (σ : St) (Q : List V → Hp → Prop) (us : List Value) (s' : Shared) : Prop := ∃ vs H', Inv X pins σ H' s' ∧ Vals vs us ∧ Q vs H'
def SP (X : Cx) (pins : List (Addr × Obj)) (D : Ends) (f : Flow) (s' : Shared) : Prop :=
 match f with
 | .next => ∃ σ' H', Inv X pins σ' H' s' ∧ D.nx σ' H'
 | .brk => ∃ σ' H', Inv X pins σ' H' s' ∧ D.bk σ' H'
 | .cont => ∃ σ' H', Inv X pins σ' H' s' ∧ D.ct σ' H'
 | .ret u => ∃ v σ' H', Inv X pins σ' H' s' ∧ RelV v u ∧ D.rt v H'
def PE (X : Cx) (e : Expr) (t : TE) : Prop :=
 ∀ (pins : List (Addr × Obj)) (s : Shared) (σ : St) (H : Hp) (Q : VK), Inv X pins σ H s → t σ H Q → wpAny (model X.prog X.w) X.A (eval e X.env) (EP X pins σ Q) X.xe s
def PT (X : Cx) (e : Expr) (t : TT) : Prop :=
 ∀ (pins : List (Addr × Obj)) (s : Shared) (σ : St) (H : Hp) (Q : Bool → Hp → Prop), Inv X pins σ H s → t σ H Q → wpAny (model X.prog X.w) X.A (isTrue e X.env (eval e X.env)) (TP X pins σ Q) X.xe s
def PW (X : Cx) (e : Expr) (t : TT) : Prop :=
 ∀ (whole : Sem Value) (pins : List (Addr × Obj)) (s : Shared) (σ : St) (H : Hp) (Q : Bool → Hp → Prop), Inv X pins σ H s → t σ H Q → wpAny (model X.prog X.w) X.A (isTrue e X.env whole) (TP X pins σ Q) X.xe s
theorem PW.pt {X : Cx} {e : Expr} {t : TT} (h : PW X e t) : PT X e t := h _
def PA (X : Cx) (es : List Expr) (t : TA) : Prop :=
 ∀ (pos : Pos) (pins : List (Addr × Obj)) (s : Shared) (σ : St) (H : Hp) (Q : List V → Hp → Prop), Inv X pins σ H s → t σ H Q → wpAny (model X.prog X.w) X.A (spliced (backTo pos (starEach es X.env))) (AP X pins σ Q) X.xe s
def PS (X : Cx) (st : Stmt) (t : TS) : Prop :=
 ∀ (pins : List (Addr × Obj)) (s : Shared) (σ : St) (H : Hp) (D : Ends), Inv X pins σ H s → t D σ H → wpAny (model X.prog X.w) X.A (exec st X.env) (SP X pins D) X.xe s
def PSs (X : Cx) (st : List Stmt) (t : TS) : Prop :=
 ∀ (pins : List (Addr × Obj)) (s : Shared) (σ : St) (H : Hp) (D : Ends), Inv X pins σ H s → t D σ H → wpAny (model X.prog X.w) X.A (execs st X.env) (SP X pins D) X.xe s
theorem thn {α : Type} {t : Sem α} {Q Q' : α → Shared → Prop} {M : Model} {A : Around} {E : Value → Shared → Prop} {s : Shared} (h : wpAny M A t Q E s) (hQ : ∀ a s, Q a s → Q' a s) : wpAny M A t Q' E s := wpAny_mono h hQ fun _ _ x => x
end L2
namespace L2
open PySem PySem.Spec PyProof.Rows
section
variable {X : Cx}
def tVar (i : Nat) : TE := fun σ H Q => ∃ v, σ[i]? = some (some v) ∧ Q v H
def tC (v : V) : TE := fun _ H Q => Q v H
theorem pe_var {i : Nat} {x : Str} {pos : Pos} (hN : X.N[i]? = some x) (hv : Vis X.env.scope x) (hd : (x == ("__debug__" : Str)) = false := by decide) (hcd : (x == ("__classdict__" : Str)) = false := by decide) : PE X (.Name x pos) (tVar i) := by
 intro pins s σ H Q I h
 obtain ⟨v, e, h⟩ := h
 obtain ⟨m, hn, hl⟩ := I.loc
 obtain ⟨u, r, l⟩ := hl i x v hN e hv
 have fin : EP X pins σ Q u s := ⟨v, H, I, r, h⟩
 rcases l with ⟨hk, hm⟩ | ⟨hk, c, hc, hcell⟩
 ·exact wpAny_Name (wpAny_loadName_local I.ok.kind hk hn hm fin) hd
 ·rcases hk with hk | hk
  ·exact wpAny_Name (wpAny_loadName_cell I.ok.kind hk hc hcell fin) hd
  ·exact wpAny_Name (wpAny_loadName_free I.ok.kind hk hc hcell fin hcd) hd
theorem pe_int {i j pos} : PE X (.Constant (.int i) j pos) (tC (.int i)) := fun _ _ _ H _ I h => wpAny_Constant_int ⟨.int i, H, I.tok _, ⟨_, rfl⟩, h⟩
theorem pe_bl {b j pos} : PE X (.Constant (.bool b) j pos) (tC (.bl b)) := fun _ _ _ H _ I h => Constant_bool ⟨.bl b, H, I, rfl, h⟩
theorem pe_non {j pos} : PE X (.Constant .none j pos) (tC .non) := fun _ _ _ H _ I h => Constant_none ⟨.non, H, I, rfl, h⟩
theorem pe_str {x j pos} : PE X (.Constant (.str x) j pos) (tC (.str x)) := fun _ _ _ H _ I h => Calls.Constant_str ⟨.str x, H, I.tok _, ⟨_, rfl⟩, h⟩
def Gl (X : Cx) (x : Str) : Prop := X.env.kindOf x = some .globalImplicit
theorem ld_glob {E : Value → Shared → Prop} {pins : List (Addr × Obj)} {s : Shared} {σ : St} {H : Hp} {x : Str} {u : Value} {pos : Pos} {Q : Value → Shared → Prop} (I : Inv X pins σ H s) (hg : Gl X x) (hm : X.mg x = some u) (h : Q u s)
  (hd : (x == ("__debug__" : Str)) = false := by decide) : wpAny (model X.prog X.w) X.A (eval (.Name x pos) X.env) Q E s :=
 Calls.Name_function_global I.ok.kind hg (Calls.loadGlobal_global (by rw [I.ok.glob]; exact I.mod.glob.keeps I.bk) hm h) hd
theorem ld_blt {E : Value → Shared → Prop} {pins : List (Addr × Obj)} {s : Shared} {σ : St} {H : Hp} {x : Str} {u : Value} {pos : Pos} {Q : Value → Shared → Prop} (I : Inv X pins σ H s) (hg : Gl X x) (hm : X.mg x = none) (hv : bootBuiltins x = some u) (h : Q u s)
  (hn : x ≠ "__name__" := by decide) (hd : (x == ("__debug__" : Str)) = false := by decide) : wpAny (model X.prog X.w) X.A (eval (.Name x pos) X.env) Q E s := by
 obtain ⟨mb, h1, h2⟩ := I.mod.blt
 exact Calls.Name_function_global I.ok.kind hg (Calls.loadGlobal_builtin (by rw [I.ok.glob]; exact I.mod.glob.keeps I.bk) hm (by rw [I.ok.blt]; exact h1.keeps I.bk) ((h2 x hn).trans hv) h) hd
theorem pe_glob {x : Str} {v : V} {u : Value} {pos : Pos} (hg : Gl X x) (hm : X.mg x = some u) (r : RelV v u) (hd : (x == ("__debug__" : Str)) = false := by decide) : PE X (.Name x pos) (tC v) :=
 fun _ _ _ H _ I h => ld_glob I hg hm ⟨v, H, I, r, h⟩ hd
theorem pe_bltn {x : Str} {v : V} {u : Value} {pos : Pos} (hg : Gl X x) (hm : X.mg x = none) (hv : bootBuiltins x = some u) (r : RelV v u) (hn : x ≠ "__name__" := by decide) (hd : (x == ("__debug__" : Str)) = false := by decide) : PE X (.Name x pos) (tC v) :=
 fun _ _ _ H _ I h => ld_blt I hg hm hv ⟨v, H, I, r, h⟩ hn hd
variable {a b : Expr} {ta tb : TE} {pos : Pos}
def PC (X : Cx) (op : CmpOp) (a b : Expr) (t : TE) : Prop :=
 ∀ (pins : List (Addr × Obj)) (s : Shared) (σ : St) (H : Hp) (Q : VK), Inv X pins σ H s → t σ H Q →
  wpAny (model X.prog X.w) X.A (eval a X.env) (fun v s₁ => wpAny (model X.prog X.w) X.A (eval b X.env) (fun u s₂ => wpAny (model X.prog X.w) X.A (compareOp op v u) (EP X pins σ Q) X.xe s₂) X.xe s₁) X.xe s
theorem nobehind (b : Expr) {op : CmpOp} (h : op ≠ .In) (h2 : op ≠ .NotIn) : behindInMarks op b = false := by
 have e1 : (op == CmpOp.In) = false := by cases op <;> first | rfl | exact absurd rfl h
 have e2 : (op == CmpOp.NotIn) = false := by cases op <;> first | rfl | exact absurd rfl h2
 cases b <;> simp [behindInMarks, e1, e2]
def tB (t : TE) : TT := fun σ H Q => t σ H fun x H1 => ∃ c, x = .bl c ∧ Q c H1
theorem pt_cmp {op : CmpOp} {t : TE} (h : PC X op a b t) (h1 : behindInMarks op b = false := by first | exact nobehind _ (by decide) (by decide) | rfl) : PT X (.Compare a [op] [b] pos) (tB t) := by
 intro pins s σ H Q I hw
 refine wpAny_isTrue_Compare1 (thn (h pins s σ H _ I hw) fun v s1 h1 => thn h1 fun u s2 h2 => thn h2 fun c s3 ⟨x, H1, I1, r1, q1⟩ => ?_) h1
 obtain ⟨d, rfl, q⟩ := q1
 cases r1
 exact wpAny_truthy_bool ⟨H1, I1, q⟩
theorem pt_val {e : Expr} {t : TE} (h : PE X e t) (he : ∀ whole, isTrue e X.env whole = (do let v ← whole; standAt e.pos; holding [v] (truthy v)) := by intro _; rfl) : PT X e (tB t) := by
 intro pins s σ H Q I hw
 refine isTrue_plain (thn (h pins s σ H _ I hw) fun v s1 ⟨x, H1, I1, r1, q1⟩ => ?_) (he _)
 obtain ⟨d, rfl, q⟩ := q1
 cases r1
 exact wpAny_truthy_bool ⟨H1, I1, q⟩
variable {tA tB' : TT} {rest : List Expr}
def tAnd (t u : TT) : TT := fun σ H Q => t σ H fun c H1 => if c = true then u σ H1 Q else Q false H1
def tOr (t u : TT) : TT := fun σ H Q => t σ H fun c H1 => if c = true then Q true H1 else u σ H1 Q
def tNot (t : TT) : TT := fun σ H Q => t σ H fun c H1 => Q (!c) H1
theorem pw_and1 (ha : PT X a tA) : PW X (.BoolOp .And [a] pos) tA := by
 intro wh pins s σ H Q I h
 refine isTrue_and (thn (ha pins s σ H Q I h) fun c s1 e => ?_)
 cases c with
 | true => exact isTrue_and_nil e
 | false => exact e
theorem pw_or1 (ha : PT X a tA) : PW X (.BoolOp .Or [a] pos) tA := by
 intro wh pins s σ H Q I h
 refine isTrue_or (thn (ha pins s σ H Q I h) fun c s1 e => ?_)
 cases c with
 | false => exact isTrue_or_nil e
 | true => exact e
theorem pw_and (ha : PT X a tA) (hb : PW X (.BoolOp .And (b :: rest) pos) tB') : PW X (.BoolOp .And (a :: b :: rest) pos) (tAnd tA tB') := by
 intro wh pins s σ H Q I h
 refine isTrue_and (thn (ha pins s σ H _ I h) fun c s1 ⟨H1, I1, q1⟩ => ?_)
 cases c with
 | true => exact hb wh pins s1 σ H1 Q I1 q1
 | false => exact ⟨H1, I1, q1⟩
theorem pw_or (ha : PT X a tA) (hb : PW X (.BoolOp .Or (b :: rest) pos) tB') : PW X (.BoolOp .Or (a :: b :: rest) pos) (tOr tA tB') := by
 intro wh pins s σ H Q I h
 refine isTrue_or (thn (ha pins s σ H _ I h) fun c s1 ⟨H1, I1, q1⟩ => ?_)
 cases c with
 | true => exact ⟨H1, I1, q1⟩
 | false => exact hb wh pins s1 σ H1 Q I1 q1
theorem pt_not (ha : PT X a tA) : PT X (.UnaryOp .Not a pos) (tNot tA) := by
 intro pins s σ H Q I h
 exact isTrue_not (ha pins s σ H (fun c H1 => Q (!c) H1) I h)
def tAndV (ta tb : TE) : TE := fun σ H Q => ta σ H fun x H1 => ∃ c, x = .bl c ∧ if c = true then tb σ H1 Q else Q (.bl false) H1
def tOrV (ta tb : TE) : TE := fun σ H Q => ta σ H fun x H1 => ∃ c, x = .bl c ∧ if c = true then Q (.bl true) H1 else tb σ H1 Q
def tNotV (ta : TE) : TE := fun σ H Q => ta σ H fun x H1 => ∃ c, x = .bl c ∧ Q (.bl (!c)) H1
theorem pe_one {op} {t : TE} (h : PE X a t) : PE X (.BoolOp op [a] pos) t := fun pins s σ H Q I hw => BoolOp_one (h pins s σ H Q I hw)
theorem pe_and (ha : PE X a ta) (hb : PE X (.BoolOp .And (b :: rest) pos) tb) : PE X (.BoolOp .And (a :: b :: rest) pos) (tAndV ta tb) := by
 intro pins s σ H Q I h
 refine BoolOp_and (thn (ha pins s σ H _ I h) fun v s1 ⟨x, H1, I1, r1, q1⟩ => ?_)
 obtain ⟨c, rfl, q1⟩ := q1
 cases r1
 refine wpAny_truthy_bool ?_
 cases c with
 | true => exact hb pins s1 σ H1 Q I1 q1
 | false => exact ⟨.bl false, H1, I1, rfl, q1⟩
theorem pe_not (ha : PE X a ta) : PE X (.UnaryOp .Not a pos) (tNotV ta) := by
 intro pins s σ H Q I h
 refine UnaryOp_ (thn (ha pins s σ H _ I h) fun v s1 ⟨x, H1, I1, r1, q1⟩ => ?_)
 obtain ⟨c, rfl, q1⟩ := q1
 cases r1
 exact not_of (wpAny_truthy_bool ⟨.bl (!c), H1, I1, rfl, q1⟩)
def tIf (t : TT) (ta tb : TE) : TE := fun σ H Q => t σ H fun c H1 => if c = true then ta σ H1 Q else tb σ H1 Q
theorem pe_ifExp {c : Expr} (hc : PT X c tA) (ha : PE X a ta) (hb : PE X b tb) : PE X (.IfExp c a b pos) (tIf tA ta tb) := by
 intro pins s σ H Q I h
 refine wpAny_IfExp (thn (hc pins s σ H _ I h) fun d s1 ⟨H1, I1, q1⟩ => ?_)
 cases d with
 | true => exact ha pins s1 σ H1 Q I1 q1
 | false => exact hb pins s1 σ H1 Q I1 q1
end
end L2
namespace L2
open PySem PySem.Spec PyProof.Rows
def SqL (K : PySem.W.Frag) (H : Hp) (a : Addr) (xs : List V) : Prop :=
 Rd H a (.lst xs) ∨
  ∃ (o : Obj) (its : Array Value) (n : Nat), K.lookup a = some o ∧ o.cls = .type "list" ∧ o.dict = none ∧ o.data = .seq its n ∧ its.size ≤ sizeLine ∧ Vals xs its.toList
def SqT (K : PySem.W.Frag) (H : Hp) (a : Addr) (xs : List V) : Prop :=
 Rd H a (.tup xs) ∨
  ∃ (o : Obj) (its : Array Value) (n : Nat), K.lookup a = some o ∧ o.cls = .type "tuple" ∧ o.data = .seq its n ∧ its.size ≤ sizeLine ∧ Vals xs its.toList
def absV : Value → Option V
 | .none => some .non
 | .bool b => some (.bl b)
 | .int i _ => some (.int i)
 | .str x _ => some (.str x)
 | .bytes b _ => some (.byt b)
 | .float b _ => some (.flt b)
 | .ref a => some (.ref a)
 | .type n => some (.ty n)
 | _ => none
theorem RelV.abs {x : V} {u : Value} (r : RelV x u) : absV u = some x := by
 cases x with
 | non => cases r; rfl
 | bl _ => cases r; rfl
 | int _ => obtain ⟨t, rfl⟩ := r; rfl
 | str _ => obtain ⟨t, rfl⟩ := r; rfl
 | byt _ => obtain ⟨t, rfl⟩ := r; rfl
 | flt _ => obtain ⟨t, rfl⟩ := r; rfl
 | ref _ => cases r; rfl
 | ty _ => cases r; rfl
theorem RelV.inj {x y : V} {u : Value} (r : RelV x u) (q : RelV y u) : x = y := Option.some.inj (r.abs.symm.trans q.abs)
theorem Vals.inj : ∀ {xs ys : List V} {us : List Value}, Vals xs us → Vals ys us → xs = ys
 | _, _, _, .nil, .nil => rfl
 | _, _, _, .cons r t, .cons r' t' => by rw [r.inj r', Vals.inj t t']
section
variable {X : Cx} {pins : List (Addr × Obj)} {σ : St} {H : Hp} {s : Shared} {a : Addr} {xs ys : List V}
theorem SqL.of {K : PySem.W.Frag} (h : H a = some (.lst xs)) : SqL K H a xs := .inl (.inl h)
theorem SqT.of {K : PySem.W.Frag} (h : H a = some (.tup xs)) : SqT K H a xs := .inl (.inl h)
theorem Inv.list (I : Inv X pins σ H s) (h : SqL X.K H a xs) : ∃ its : List Value, Vals xs its ∧ PlainL s.heap a its.toArray ∧ xs.length ≤ sizeLine := by
 rcases h with h | ⟨o, its, n, hk, hc, hd, hs, hz, r⟩
 ·obtain ⟨z, its, n, r, e⟩ := h.ok I.hok
  exact ⟨its, r, ⟨_, n, e, rfl, rfl, rfl⟩, z⟩
 ·refine ⟨its.toList, r, ⟨o, n, I.kIn a o hk, hc, hd, by simpa using hs⟩, ?_⟩
  have e := r.length
  simp only [Array.length_toList] at e
  omega
theorem Inv.tuple (I : Inv X pins σ H s) (h : SqT X.K H a xs) : ∃ its : List Value, Vals xs its ∧ IsTup s.heap a its.toArray ∧ xs.length ≤ sizeLine := by
 rcases h with h | ⟨o, its, n, hk, hc, hs, hz, r⟩
 ·obtain ⟨z, its, r, p⟩ := h.ok I.hok
  exact ⟨its, r, p, z⟩
 ·refine ⟨its.toList, r, ⟨o, I.kIn a o hk, hc, n, by simpa using hs⟩, ?_⟩
  have e := r.length
  simp only [Array.length_toList] at e
  omega
theorem Inv.list_inj (I : Inv X pins σ H s) (h : SqL X.K H a xs) (h' : SqL X.K H a ys) : xs = ys := by
 obtain ⟨its, r, ⟨o, n, e, _, _, d⟩, _⟩ := I.list h
 obtain ⟨its', r', ⟨o', n', e', _, _, d'⟩, _⟩ := I.list h'
 rw [e] at e'; cases e'
 rw [d] at d'
 injection d' with d1 _
 have : its = its' := by simpa using congrArg Array.toList d1
 subst this
 exact r.inj r'
end
abbrev Cx.wish (X : Cx) (E : Value → Shared → Prop) : Cx := { X with xe := E }
abbrev Cx.nox (X : Cx) : Cx := X.wish fun _ _ => False
theorem Cx.Ok.wish {X : Cx} (ok : X.Ok) (E : Value → Shared → Prop) : (X.wish E).Ok :=
 ⟨ok.mod, ok.kind, ok.glob, ok.blt, ok.above, ok.inj, ok.has, ok.cab, ok.hd, ok.frames, ok.stk, ok.exf, ok.bs, ok.bsz, ok.noex, ok.exfs, ok.funs, ok.frf⟩
theorem Cx.Ok.unwish {X : Cx} {E : Value → Shared → Prop} (ok : (X.wish E).Ok) : X.Ok :=
 ⟨ok.mod, ok.kind, ok.glob, ok.blt, ok.above, ok.inj, ok.has, ok.cab, ok.hd, ok.frames, ok.stk, ok.exf, ok.bs, ok.bsz, ok.noex, ok.exfs, ok.funs, ok.frf⟩
section
variable {X : Cx} {pins : List (Addr × Obj)} {σ : St} {H : Hp} {s : Shared} {E : Value → Shared → Prop}
theorem Inv.wish (I : Inv X pins σ H s) (E : Value → Shared → Prop) : Inv (X.wish E) pins σ H s := ⟨I.ok.wish E, I.os, I.bare, I.base, I.loc, I.cell, I.free, I.freeC, I.pin, I.hok, I.len⟩
theorem Inv.unwish (I : Inv (X.wish E) pins σ H s) : Inv X pins σ H s := ⟨I.ok.unwish, I.os, I.bare, I.base, I.loc, I.cell, I.free, I.freeC, I.pin, I.hok, I.len⟩
theorem SP.unwish {D : Ends} {f : Flow} {s' : Shared} (h : SP (X.wish E) pins D f s') : SP X pins D f s' := by
 cases f with
 | next => obtain ⟨σ', H', I, q⟩ := h; exact ⟨σ', H', I.unwish, q⟩
 | brk => obtain ⟨σ', H', I, q⟩ := h; exact ⟨σ', H', I.unwish, q⟩
 | cont => obtain ⟨σ', H', I, q⟩ := h; exact ⟨σ', H', I.unwish, q⟩
 | ret u => obtain ⟨v, σ', H', I, r, q⟩ := h; exact ⟨v, σ', H', I.unwish, r, q⟩
theorem PSs.nox {st : List Stmt} {t : TS} (h : PSs X.nox st t) : PSs X st t := fun pins s σ H D I hw =>
 wpAny_mono (h pins s σ H D (I.wish _) hw) (fun _ _ q => q.unwish) fun _ _ z => False.elim z
end
section
variable {X : Cx} {st : Stmt} {rest : List Stmt} {t u : TS} {e : Expr} {te : TE} {pos : Pos}
def tNext : TS := fun D σ H => D.nx σ H
def tSeq (t u : TS) : TS := fun D σ H => t { D with nx := u D } σ H
theorem pss_nil : PSs X [] tNext := fun _ _ σ H _ I h => wpAny_execs_nil ⟨σ, H, I, h⟩
theorem pss_cons (h1 : PS X st t) (h2 : PSs X rest u) : PSs X (st :: rest) (tSeq t u) := by
 intro pins s σ H D I h
 refine wpAny_execs_cons (thn (h1 pins s σ H { D with nx := u D } I h) fun f s1 q => ?_)
 cases f with
 | next =>
  obtain ⟨σ', H', I', q⟩ := q
  exact h2 pins s1 σ' H' D I' q
 | ret v => exact q
 | brk => exact q
 | cont => exact q
theorem pss_one (h1 : PS X st t) : PSs X [st] t := by
 intro pins s σ H D I h
 refine wpAny_execs_cons (thn (h1 pins s σ H D I h) fun f s1 q => ?_)
 cases f with
 | next => exact wpAny_execs_nil q
 | ret v => exact q
 | brk => exact q
 | cont => exact q
theorem Inv.quiet {pins : List (Addr × Obj)} {σ : St} {H : Hp} {s : Shared} (I : Inv X pins σ H s) : interactive X.env = false := by simp [interactive, I.ok.kind]
def tDrop (te : TE) : TS := fun D σ H => te σ H fun _ H1 => D.nx σ H1
theorem ps_expr (he : PE X e te) (hs : swapsWith e none pos.line X.env = pure false := by rfl) : PS X (.Expr e pos) (tDrop te) := by
 intro pins s σ H D I h
 exact wpAny_Expr_any (thn (he pins s σ H _ I h) fun v s1 ⟨x, H1, I1, r1, q1⟩ => ⟨σ, H1, I1, q1⟩) I.quiet hs
def tRet (te : TE) : TS := fun D σ H => te σ H D.rt
theorem ps_ret (he : PE X e te) : PS X (.Return (some e) pos) (tRet te) := by
 intro pins s σ H D I h
 exact wpAny_Return_some (thn (he pins s σ H _ I h) fun v s1 ⟨x, H1, I1, r1, q1⟩ => ⟨x, σ, H1, I1, r1, q1⟩)
def tRetN : TS := fun D _ H => D.rt .non H
def tIfS (c : TT) (t u : TS) : TS := fun D σ H => c σ H fun b H1 => if b = true then t D σ H1 else u D σ H1
theorem ps_if {c : Expr} {a b : List Stmt} {tc : TT} (hc : PT X c tc) (ha : PSs X a t) (hb : PSs X b u) : PS X (.If c a b pos) (tIfS tc t u) := by
 intro pins s σ H D I h
 refine wpAny_If (thn (hc pins s σ H _ I h) fun d s1 ⟨H1, I1, q1⟩ => ?_)
 cases d with
 | true => exact ha pins s1 σ H1 D I1 q1
 | false => exact hb pins s1 σ H1 D I1 q1
def tNever : TS := fun _ _ _ => False
theorem ps_never : PS X st tNever := fun _ _ _ _ _ _ h => h.elim
end
abbrev TG := V → St → Hp → (St → Hp → Prop) → Prop
abbrev TGs := List V → St → Hp → (St → Hp → Prop) → Prop
def PG (X : Cx) (target : Expr) (t : TG) : Prop :=
 ∀ (pins : List (Addr × Obj)) (s : Shared) (σ : St) (H : Hp) (v : V) (u : Value) (Q : St → Hp → Prop), Inv X pins σ H s → RelV v u → t v σ H Q →
  wpAny (model X.prog X.w) X.A (assign target X.env u) (fun _ s' => ∃ σ' H', Inv X pins σ' H' s' ∧ Q σ' H') X.xe s
def PGs (X : Cx) (ts : List Expr) (t : TGs) : Prop :=
 ∀ (pins : List (Addr × Obj)) (s : Shared) (σ : St) (H : Hp) (vs : List V) (us : List Value) (Q : St → Hp → Prop), Inv X pins σ H s → Vals vs us → t vs σ H Q →
  wpAny (model X.prog X.w) X.A (assignInOrder ((assignEach ts X.env).map (·.2)) us) (fun _ s' => ∃ σ' H', Inv X pins σ' H' s' ∧ Q σ' H') X.xe s
abbrev TSet := V → V → V → Hp → (Hp → Prop) → Prop
def PSet (X : Cx) (t : TSet) : Prop :=
 ∀ (pins : List (Addr × Obj)) (s : Shared) (σ : St) (H : Hp) (o i v : V) (ov iv u : Value) (Q : Hp → Prop), Inv X pins σ H s → RelV o ov → RelV i iv → RelV v u → t o i v H Q →
  wpAny (model X.prog X.w) X.A (setItem ov iv u) (fun _ s' => ∃ H', Inv X pins σ H' s' ∧ Q H') X.xe s
section
variable {X : Cx} {pos : Pos}
def gName (i : Nat) : TG := fun v σ H Q => Q (σ.set i (some v)) H
theorem pg_name {i : Nat} {x : Str} (hN : X.N.Nodup) (hi : X.N[i]? = some x) (hx : Loc X.env.scope x) (hf : X.fn x = true ∨ X.env.scope.names.lookup x = some .local := by first | exact .inl rfl | exact .inr rfl | assumption) : PG X (.Name x pos) (gName i) := by
 intro pins s σ H v u Q I r h
 exact wpAny_assign_Name (store_ok I hN hi hx r (fun s' I' => ⟨_, H, I', h⟩) hf)
def gNil : TGs := fun vs σ H Q => vs = [] ∧ Q σ H
def gCons (t : TG) (u : TGs) : TGs := fun vs σ H Q => ∃ v r, vs = v :: r ∧ t v σ H fun σ' H' => u r σ' H' Q
theorem pgs_nil : PGs X [] gNil := by
 intro pins s σ H vs us Q I r h
 obtain ⟨e, h⟩ := h
 subst e
 cases r
 exact assignInOrder_nil ⟨σ, H, I, h⟩
theorem pgs_cons {e : Expr} {es : List Expr} {t : TG} {u : TGs} (h1 : PG X e t) (h2 : PGs X es u)
  (hs : (assignEach (e :: es) X.env).map (·.2) = assign e X.env :: (assignEach es X.env).map (·.2) := by rfl) : PGs X (e :: es) (gCons t u) := by
 intro pins s σ H vs us Q I r h
 obtain ⟨v, vr, e1, h⟩ := h
 subst e1
 cases r with
 | cons r rr =>
  rw [hs]
  refine assignInOrder_cons (thn (h1 pins s σ H _ _ _ I r h) fun _ s1 ⟨σ1, H1, I1, q1⟩ => ?_)
  exact h2 pins s1 σ1 H1 _ _ Q I1 rr q1
def gTup (K : PySem.W.Frag) (n : Nat) (t : TGs) : TG := fun v σ H Q => ∃ a xs, v = .ref a ∧ SqT K H a xs ∧ xs.length = n ∧ t xs σ H Q
theorem pg_tup {es : List Expr} {k : Nat} {t : TGs} {n : Nat} (hc : X.calm = true) (h : PGs X es t)
  (hn : (assignEach es X.env).length = n := by rfl) (hst : (assignEach es X.env).findIdx? (·.1) = none := by rfl) : PG X (.Tuple es k pos) (gTup X.K n t) := by
 intro pins s σ H v u Q I r hw
 obtain ⟨a, xs, e1, hq, hl, hw⟩ := hw
 subst e1
 cases r
 obtain ⟨its, rv, ht, hz⟩ := I.tuple hq
 refine assign_Tuple_tuple (I.ok.hd hc) ht (by simp [hn, ← hl, rv.length]) hst fun h' hx => ?_
 have I1 : Inv X pins σ H { s with heap := h' } := I.kept (t' := s.toks) fun b o e => hx b o (Nat.ne_of_lt (Heap.lt_size e)) e
 exact h pins _ σ H xs _ Q I1 (by simpa using rv) hw
def gSub (to ti : TE) (t : TSet) : TG := fun v σ H Q => to σ H fun o H1 => ti σ H1 fun i H2 => t o i v H2 fun H3 => Q σ H3
theorem pg_sub {o i : Expr} {to ti : TE} {t : TSet} (ho : PE X o to) (hi : PE X i ti) (hs : PSet X t)
  (ha : ∀ v, assign (.Subscript o i pos) X.env v = (do
   let ov ← holding [v] (eval o X.env)
   let iv ← holding [v, ov] (eval i X.env)
   standAt pos
   holding [v, ov, iv] (setItem ov iv v)
   release [v, ov, iv] []) := by intro _; rfl) : PG X (.Subscript o i pos) (gSub to ti t) := by
 intro pins s σ H v u Q I r h
 rw [ha]
 refine wpAny_bind (wpAny_holding (thn (ho pins s σ H _ I h) fun ov s1 ⟨x, H1, I1, r1, q1⟩ => ?_))
 refine wpAny_bind (wpAny_holding (thn (hi pins s1 σ H1 _ I1 q1) fun iv s2 ⟨y, H2, I2, r2, q2⟩ => ?_))
 refine wpAny_bind (wpAny_standAt (wpAny_bind (wpAny_holding (thn (hs pins s2 σ H2 x y v ov iv u _ I2 r1 r2 r q2) fun _ s3 ⟨H3, I3, q3⟩ => ?_))))
 exact wpAny_release ⟨σ, H3, I3, q3⟩
def tAsg (te : TE) (g : TG) : TS := fun D σ H => te σ H fun x H1 => g x σ H1 D.nx
theorem ps_asg {tg e : Expr} {te : TE} {g : TG} (he : PE X e te) (hg : PG X tg g) (hs : swapsWithSole [tg] e pos.line X.env = pure false := by rfl) (hw : swappedStores [tg] e X.env = pure none := by rfl)
  (h1 : (assignEach [tg] X.env).map (·.2) = [assign tg X.env] := by rfl) : PS X (.Assign [tg] e pos) (tAsg te g) := by
 intro pins s σ H D I h
 refine wpAny_Assign_stores (thn (he pins s σ H _ I h) fun v s1 ⟨x, H1, I1, r1, q1⟩ => ?_) hs hw
 rw [h1]
 exact thn (hg pins s1 σ H1 x v _ I1 r1 q1) fun _ s2 q => q
theorem ps_set {i : Nat} {x : Str} {e : Expr} {te : TE} {pos' : Pos} (hN : X.N.Nodup) (hi : X.N[i]? = some x) (hx : Loc X.env.scope x) (he : PE X e te) (hs : swapsWith e (some (.Name x pos')) pos.line X.env = pure false := by rfl) (hf : X.fn x = true ∨ X.env.scope.names.lookup x = some .local := by first | exact .inl rfl | exact .inr rfl | assumption) :
  PS X (.Assign [.Name x pos'] e pos) (tAsg te (gName i)) := by
 intro pins s σ H D I h
 refine wpAny_Assign_Name (thn (he pins s σ H _ I h) fun v s1 ⟨y, H1, I1, r1, q1⟩ => ?_) hs
 exact store_ok I1 hN hi hx r1 (fun s2 I2 => ⟨_, H1, I2, q1⟩) hf
def tPar (i j : Nat) (ta : TA) : TS := fun D σ H => ta σ H fun vs H1 => ∃ v w, vs = [v, w] ∧ D.nx ((σ.set i (some v)).set j (some w)) H1
theorem ps_par {i j : Nat} {x y : Str} {a b : Expr} {ta : TA} {px py pt : Pos} {kt k2 pt2} (hc : X.calm = true) (hN : X.N.Nodup) (hi : X.N[i]? = some x) (hj : X.N[j]? = some y) (hij : i ≠ j)
  (hx : X.env.scope.names.lookup x = some .local) (hy : X.env.scope.names.lookup y = some .local) (ha : PA X [a, b] ta)
  (hw : swappedStores [.Tuple [.Name x px, .Name y py] kt pt] (.Tuple [a, b] k2 pt2) X.env = pure (some [x, y]))
  (hs : swapsWithSole [.Tuple [.Name x px, .Name y py] kt pt] (.Tuple [a, b] k2 pt2) pos.line X.env = pure false := by rfl) :
  PS X (.Assign [.Tuple [.Name x px, .Name y py] kt pt] (.Tuple [a, b] k2 pt2) pos) (tPar i j ta) := by
 intro pins s σ H D I h
 rw [exec_Assign_arm]
 refine wpAny_bind (wpAny_standAt ?_)
 rw [hs]
 refine wpAny_bind (wpAny_pure ?_)
 rw [if_neg (by decide)]
 refine wpAny_bind (Tuple_ (thn (ha _ pins s σ H _ I h) fun us s1 ⟨vs, H1, I1, r1, q1⟩ => ?_))
 obtain ⟨v, w, e1, q1⟩ := q1
 subst e1
 obtain ⟨u1, u2, rfl, rv, rw'⟩ : ∃ u1 u2, us = [u1, u2] ∧ RelV v u1 ∧ RelV w u2 := by
  cases r1 with
  | cons p q =>
   cases q with
   | cons p' q' =>
    cases q'
    exact ⟨_, _, rfl, p, p'⟩
 refine wpAny_newObj_type ?_ (by show 2 ≤ sizeLine; decide)
 have I2 : Inv X pins σ H1 { s1 with heap := s1.heap.push { cls := .type "tuple", data := .seq [u1, u2].toArray } } := I1.kept (t' := s1.toks) fun b o e => Heap.get?_push_of_some _ e
 rw [hw]
 refine wpAny_bind (wpAny_pure ?_)
 show wpAny (model X.prog X.w) X.A (do rule "assign.swapped-stores"; let items ← unpackItems (.ref s1.heap.objs.size) 2 none; assignInOrder [fun v => bindName X.env y v, fun v => bindName X.env x v] items.reverse; pure Flow.next) _ _ _
 refine wpAny_bind (wpAny_rule (wpAny_bind (unpackItems_tuple (items := #[u1, u2]) (I.ok.hd hc) (IsTup.new s1.heap _) fun h' hx' => ?_)))
 have I3 := I2.kept (h' := h') (t' := s1.toks) fun b o e => hx' b o (Nat.ne_of_lt (Heap.lt_size e)) e
 show wpAny _ _ (assignInOrder [fun v => bindName X.env y v, fun v => bindName X.env x v] [u2, u1] >>= fun _ => pure Flow.next) _ _ _
 refine wpAny_bind (assignInOrder_cons (wpAny_bindName (store_ok I3 hN hj (.inl hy) rw' (fun s2 I4 => ?_) (.inr hy))))
 refine assignInOrder_cons (wpAny_bindName (store_ok I4 hN hi (.inl hx) rv (fun s3 I5 => assignInOrder_nil (wpAny_pure ?_)) (.inr hx)))
 rw [List.set_comm _ _ (Ne.symm hij)] at I5
 exact ⟨_, H1, I5, q1⟩
end
section
variable {X : Cx} {pos : Pos}
def tWhile (c : TT) (tb : TS) : TS := fun D σ H => ∃ W : Nat → St → Hp → Prop, (∃ m, W m σ H) ∧ ∀ m σ H, W m σ H →
 c σ H fun b H1 => if b = true then ∃ N : St → Hp → Prop, (∀ σ' H', N σ' H' → ∃ m', m' < m ∧ W m' σ' H') ∧ tb { D with nx := N, ct := N, bk := D.nx } σ H1 else D.nx σ H1
theorem ps_while {c : Expr} {body : List Stmt} {tc : TT} {tb : TS} (hp : PassesOwn (model X.prog X.w) X.A X.env X.xe) (hc : PT X c tc) (hb : PSs X body tb) : PS X (.While c body [] pos) (tWhile tc tb) := by
 intro pins s σ H D I h
 obtain ⟨W, ⟨m0, w0⟩, turn⟩ := h
 refine wpAny_While (codeAny_whileLoop (fun n s' => ∃ σ' H', Inv X pins σ' H' s' ∧ W n σ' H') ?_ m0 ⟨σ, H, I, w0⟩)
 rintro n s1 ⟨σ1, H1, I1, w1⟩
 refine wpAny_passesOwn hp (thn (hc pins s1 σ1 H1 _ I1 (turn n σ1 H1 w1)) fun b s2 ⟨H2, I2, q2⟩ => ?_)
 cases b with
 | true =>
  obtain ⟨N, hN, q2⟩ := q2
  rw [if_pos rfl]
  refine wpAny_passesOwn hp (thn (hb pins s2 σ1 H2 _ I2 q2) fun f s3 q3 => ?_)
  cases f with
  | next =>
   obtain ⟨σ3, H3, I3, n3⟩ := q3
   obtain ⟨m', hm, w3⟩ := hN σ3 H3 n3
   exact ⟨m', hm, σ3, H3, I3, w3⟩
  | cont =>
   obtain ⟨σ3, H3, I3, n3⟩ := q3
   obtain ⟨m', hm, w3⟩ := hN σ3 H3 n3
   exact ⟨m', hm, σ3, H3, I3, w3⟩
  | brk => exact q3
  | ret v => exact q3
 | false =>
  rw [if_neg Bool.false_ne_true]
  exact wpAny_execs_nil ⟨σ1, H2, I2, q2⟩
end
structure It where
 go : Nat → Hp → Prop
 yld : Nat → Hp → V → Hp → Prop
 stop : Nat → Hp → Prop
def FpOk (X : Cx) (pins : List (Addr × Obj)) (H : Hp) (b : Addr) : Prop :=
 H b = none ∧ b ≠ X.env.locals ∧ b ∉ X.fs ∧ (b ∈ X.ex ∨ X.s₀.heap.objs.size ≤ b) ∧ (∀ x c, X.env.cells.lookup x = some c → c ≠ b) ∧ ∀ p ∈ X.pn ++ pins, p.1 ≠ b
theorem Inv.fpOk {X : Cx} {pins : List (Addr × Obj)} {σ : St} {H H' : Hp} {s : Shared} {b : Addr} (I : Inv X pins σ H s) (hb : s.heap.objs.size ≤ b) (hn : H' b = none) : FpOk X pins H' b := by
 refine ⟨hn, Nat.ne_of_gt (Nat.lt_of_lt_of_le I.lt hb), I.nofs hb, .inr (Nat.le_trans I.sz hb), fun x c e z => ?_, fun p hp z => ?_⟩
 ·obtain ⟨v, q⟩ := I.cell x c e
  exact absurd (Nat.lt_of_lt_of_le q.lt (by rw [z]; exact hb)) (Nat.lt_irrefl _)
 ·exact absurd (Nat.lt_of_lt_of_le (Heap.lt_size (I.pin p hp).1) (by rw [z]; exact hb)) (Nat.lt_irrefl _)
structure Turn (P : Program) (w : World) (K : PySem.W.Frag) (tg : Expr) (J : It) (fp : List Addr) (it : Addr) (tn : Nat → Heap → Prop) : Prop where
 mem : it ∈ fp
 obj : ∀ i h, tn i h → ∀ b ∈ fp, ∃ o, h.get? b = some o ∧ ∀ v, o.data ≠ .cell v
 keep : ∀ i h h', tn i h → (∀ b ∈ fp, ∀ o, h.get? b = some o → h'.get? b = some o) → tn i h'
 item : ∀ (X : Cx), X.prog = P → X.w = w → X.K = K → X.calm = true → ∀ (i : Nat) (pins : List (Addr × Obj)) (s : Shared) (σ : St) (H : Hp) (E : Value → Shared → Prop), Inv X pins σ H s → (∀ b ∈ fp, FpOk X pins H b) → tn i s.heap → J.go i H →
  wpAny (model P w) X.A (pyNext (.ref it)) (fun r s1 => ∃ u, r = some u ∧
   wpAny (model P w) X.A (letOwnedTupleGo tg (.ref it) u) (fun _ s2 => ∃ x H', Inv X pins σ H' s2 ∧ RelV x u ∧ J.yld i H x H' ∧ tn (i + 1) s2.heap ∧ ∀ b ∈ fp, H' b = none) E s1) E s
 done : ∀ (X : Cx), X.prog = P → X.w = w → X.K = K → X.calm = true → ∀ (i : Nat) (pins : List (Addr × Obj)) (s : Shared) (σ : St) (H : Hp) (E : Value → Shared → Prop), Inv X pins σ H s → (∀ b ∈ fp, FpOk X pins H b) → tn i s.heap → J.stop i H →
  wpAny (model P w) X.A (pyNext (.ref it)) (fun r s1 => r = none ∧ Inv X pins σ H s1) E s
 self : ∀ (A : Around) (i : Nat) (s : Shared) (Q : Value → Shared → Prop) (E : Value → Shared → Prop), tn i s.heap → Q (.ref it) s → wpAny (model P w) A (pyIter (.ref it)) Q E s
abbrev TI := St → Hp → (It → Hp → Prop) → Prop
def PIE (X : Cx) (pins : List (Addr × Obj)) (σ : St) (tg : Expr) (R : It → Hp → Prop) (itv : Value) (s2 : Shared) : Prop :=
 ∃ (it : Addr) (fp : List Addr) (tn : Nat → Heap → Prop) (J : It) (H' : Hp), itv = .ref it ∧ Inv X pins σ H' s2 ∧ Turn X.prog X.w X.K tg J fp it tn ∧ tn 0 s2.heap ∧ (∀ b ∈ fp, FpOk X pins H' b) ∧ R J H'
def PI (X : Cx) (tg iter : Expr) (wi : TI) : Prop :=
 ∀ (pins : List (Addr × Obj)) (s : Shared) (σ : St) (H : Hp) (R : It → Hp → Prop), Inv X pins σ H s → wi σ H R →
  wpAny (model X.prog X.w) X.A (eval iter X.env) (fun v s1 => wpAny (model X.prog X.w) X.A (pyIter v) (PIE X pins σ tg R) X.xe s1) X.xe s
theorem go_of {M : Model} {A : Around} {E : Value → Shared → Prop} {s : Shared} {tg : Expr} {it : Addr} {u : Value} {o : Obj} {n : String} {vs : Array Value} {Q : Unit → Shared → Prop} (ho : s.heap.get? it = some o) (hc : o.cls = .type n) (hd : o.data = .fields vs)
    (hn : ["enumerate", "zip", "dict_itemiterator", "dict_reverseitemiterator", "odict_iterator", "itertools.zip_longest", "itertools.pairwise"].contains n = false) (hQ : Q () s) : wpAny M A (letOwnedTupleGo tg (.ref it) u) Q E s := by
  unfold letOwnedTupleGo
  cases tg <;> first
    | exact wpAny_pure hQ
    | (cases u <;> first
        | exact wpAny_pure hQ
        | (refine wpAny_bind (wpAny_load ho ?_)
           rw [hc, hd]
           show wpAny M A (if (["enumerate", "zip", "dict_itemiterator", "dict_reverseitemiterator", "odict_iterator", "itertools.zip_longest", "itertools.pairwise"].contains n && vs[0]? == some (rawInt _)) = true then _ else _) Q E s
           rw [if_neg (by intro h; rw [hn, Bool.false_and] at h; cases h)]
           exact wpAny_pure hQ))
def Itl (K : PySem.W.Frag) (a : Addr) : It :=
 ⟨fun i H => ∃ xs x, SqL K H a xs ∧ xs[i]? = some x, fun i H x H' => H' = H ∧ ∀ xs, SqL K H a xs → xs[i]? = some x, fun i H => ∃ xs, SqL K H a xs ∧ xs.length ≤ i⟩
def Itr (lo : Int) (n : Nat) : It := ⟨fun i _ => i < n, fun i H x H' => H' = H ∧ x = .int (lo + i), fun i _ => n ≤ i⟩
theorem turn_list {P : Program} {w : World} {K : PySem.W.Frag} {tg : Expr} (a it : Addr) : Turn P w K tg (Itl K a) [it] it (fun i h => h.IsListIter it a i) where
 mem := by simp
 obj := fun i h st b hb => by
  have e : b = it := by simpa using hb
  subst e
  obtain ⟨o, e, c, d⟩ := st
  exact ⟨o, e, fun v z => by rw [d] at z; cases z⟩
 keep := fun i h h' st k => st.at fun o e => k it (by simp) o e
 item := by
  intro X hP hw hK hc i pins s σ H E I hf st hg
  subst hP hw hK
  obtain ⟨xs, x, hq, hx⟩ := hg
  obtain ⟨its, rv, p, hz⟩ := I.list hq
  obtain ⟨u, hu, ru⟩ := rv.get hx
  obtain ⟨f0, f1, f2, f3, f4, f5⟩ := hf it (by simp)
  refine wpAny_pyNext_list_item st p.isList (x := u) (by simpa using hu) fun h' st' sb => ?_
  have I1 : Inv X pins σ H { s with heap := h' } := I.turned (t' := s.toks) (fun b o hb e => (sb.2 b hb).trans e) f0 f1 f3 f4 f5
  obtain ⟨o, e, c, d⟩ := id st'
  exact ⟨u, rfl, go_of (s := { s with heap := h' }) e c d (by decide) ⟨x, H, I1, ru, ⟨rfl, fun ys hy => by rw [I.list_inj hy hq]; exact hx⟩, st', fun b hb => (hf b hb).1⟩⟩
 done := by
  intro X hP hw hK hc i pins s σ H E I hf st hg
  subst hP hw hK
  obtain ⟨xs, hq, hx⟩ := hg
  obtain ⟨its, rv, p, hz⟩ := I.list hq
  obtain ⟨f0, f1, f2, f3, f4, f5⟩ := hf it (by simp)
  have hl := rv.length
  exact wpAny_pyNext_list_end (I.ok.hd hc) st p.isList (by simp; omega) fun h' eb => ⟨rfl, I.turned (t' := s.toks) (fun b o hb e => eb b o hb e) f0 f1 f3 f4 f5⟩
 self := fun _ _ _ _ _ st h => wpAny_pyIter_listiter st h
theorem turn_range {P : Program} {w : World} {K : PySem.W.Frag} {tg : Expr} (it : Addr) (lo : Int) (n : Nat) : Turn P w K tg (Itr lo n) [it] it (fun i h => IsRangeIter h it (lo + (i : Nat) * 1) ((n : Int) - (i : Nat)) 1) where
 mem := by simp
 obj := fun i h st b hb => by
  have e : b = it := by simpa using hb
  subst e
  exact ⟨_, st, fun v z => by
   have z' : Data.fields _ = Data.cell v := z
   cases z'⟩
 keep := fun i h h' st k => k it (by simp) _ st
 item := by
  intro X hP hw hK hc i pins s σ H E I hf st hg
  subst hP hw hK
  obtain ⟨f0, f1, f2, f3, f4, f5⟩ := hf it (by simp)
  have W := Walks.range (prog := X.prog) (w := X.w) (I.ok.hd hc) it lo 1 n
  refine W.item i s _ _ hg st fun v h' tk hv st' kk => ?_
  obtain ⟨t, rfl⟩ := hv
  have I1 : Inv X pins σ H { s with heap := h', toks := tk } := I.turned (fun b o hb e => kk b o (by simpa using hb) e) f0 f1 f3 f4 f5
  refine ⟨_, rfl, go_of (s := { s with heap := h', toks := tk }) (n := "range_iterator") st' rfl rfl (by decide) ⟨.int (lo + i), H, I1, ⟨t, ?_⟩, ⟨rfl, rfl⟩, st', fun b hb => (hf b hb).1⟩⟩
  rw [Int.mul_one]
 done := by
  intro X hP hw hK hc i pins s σ H E I hf st hg
  subst hP hw hK
  obtain ⟨f0, f1, f2, f3, f4, f5⟩ := hf it (by simp)
  exact wpAny_pyNext_range_end (I.ok.hd hc) st (by have : n ≤ i := hg; omega) fun h' eb => ⟨rfl, I.turned (t' := s.toks) (fun b o hb e => eb b o hb e) f0 f1 f3 f4 f5⟩
 self := fun _ _ _ _ _ st h => wpAny_pyIter_rangeiter st h
end L2
namespace L2
open PySem PySem.Spec PyProof.Rows
section
variable {X : Cx} {tg : Expr}
def iList (K : PySem.W.Frag) (tl : TE) : TI := fun σ H R => tl σ H fun x H1 => ∃ a, x = .ref a ∧ (∃ xs, SqL K H1 a xs) ∧ R (Itl K a) H1
theorem pi_list {l : Expr} {tl : TE} (hl : PE X l tl) : PI X tg l (iList X.K tl) := by
 intro pins s σ H R I h
 refine thn (hl pins s σ H _ I h) fun v s1 ⟨x, H1, I1, r1, q1⟩ => ?_
 obtain ⟨a, e, ⟨xs, hq⟩, q⟩ := q1
 subst e
 cases r1
 obtain ⟨its, rv, p, hz⟩ := I1.list hq
 refine wpAny_pyIter_list p.isList ?_
 refine ⟨s1.heap.objs.size, [s1.heap.objs.size], _, _, H1, rfl, I1.kept (t' := s1.toks) fun b o e => Heap.get?_push_of_some _ e, turn_list a _, ⟨_, Heap.get?_push_size _ rfl, rfl, rfl⟩, fun b hb => ?_, q⟩
 have e : b = s1.heap.objs.size := by simpa using hb
 subst e
 exact I1.fpOk (Nat.le_refl _) (I1.hok.fresh (Nat.le_refl _))
theorem range_it {pins : List (Addr × Obj)} {σ : St} {H : Hp} {s : Shared} {R : It → Hp → Prop} {E : Value → Shared → Prop} {lo hi : Int} {t u v : Tok} {tk : Nat} (I : Inv X pins σ H s) (h1 : -(2 ^ 62) ≤ lo) (h2 : lo < 2 ^ 62) (h3 : -(2 ^ 62) ≤ hi) (h4 : hi < 2 ^ 62)
  (q : R (Itr lo (hi - lo).toNat) H) : wpAny (model X.prog X.w) X.A (pyIter (.ref s.heap.objs.size)) (PIE X pins σ tg R) E { s with heap := s.heap.push { cls := .type "range", data := .fields #[.int lo t, .int hi u, .int 1 v] }, toks := tk } := by
 refine wpAny_pyIter_range (IsRange.new ..) (small_one h1 h2 h3 h4) ?_
 have I1 : Inv X pins σ H { s with heap := s.heap.push { cls := .type "range", data := .fields #[.int lo t, .int hi u, .int 1 v] }, toks := tk } := I.kept fun b o e => Heap.get?_push_of_some _ e
 refine ⟨(s.heap.push { cls := .type "range", data := .fields #[.int lo t, .int hi u, .int 1 v] }).objs.size, [(s.heap.push { cls := .type "range", data := .fields #[.int lo t, .int hi u, .int 1 v] }).objs.size], _, _, H, rfl,
  I1.kept (t' := tk) fun b o e => Heap.get?_push_of_some _ e, turn_range _ lo (hi - lo).toNat, ?_, fun b hb => ?_, q⟩
 ·have e1 : lo + ((0 : Nat) : Int) * 1 = lo := by simp
  have e2 : (((hi - lo).toNat : Nat) : Int) - ((0 : Nat) : Int) = Builtin.Range.rangeSize lo hi 1 := by rw [rangeSize_one]; split <;> omega
  show IsRangeIter _ _ (lo + ((0 : Nat) : Int) * 1) ((((hi - lo).toNat : Nat) : Int) - ((0 : Nat) : Int)) 1
  rw [e1, e2]
  exact Heap.get?_push_size _ rfl
 ·have e : b = (s.heap.push { cls := .type "range", data := .fields #[.int lo t, .int hi u, .int 1 v] }).objs.size := by simpa using hb
  subst e
  exact I1.fpOk (Nat.le_refl _) (I1.hok.fresh (Nat.le_refl _))
def iRng1 (ta : TA) : TI := fun σ H R => ta σ H fun vs H1 => ∃ j : Int, vs = [.int j] ∧ -(2 ^ 62) ≤ j ∧ j < 2 ^ 62 ∧ R (Itr 0 j.toNat) H1
def iRng2 (ta : TA) : TI := fun σ H R => ta σ H fun vs H1 => ∃ i j : Int, vs = [.int i, .int j] ∧ (-(2 ^ 62) ≤ i ∧ i < 2 ^ 62 ∧ -(2 ^ 62) ≤ j ∧ j < 2 ^ 62) ∧ R (Itr i (j - i).toNat) H1
theorem pi_range1 {a : Expr} {ta : TA} {p pos : Pos} (hg : Gl X "range") (hm : X.mg "range" = none) (ha : PA X [a] ta) (hs : starEach [a] X.env = [(false, eval a X.env)] := by rfl) : PI X tg (.Call (.Name "range" p) [a] [] pos) (iRng1 ta) := by
 intro pins s σ H R I h
 refine Call_ (ld_blt I hg hm boot_range (PyProof.Rows.callWith_type1 (thn (ha pos pins s σ H _ I h) fun us s1 ⟨vs, H1, I1, r1, q1⟩ => ?_) hs rfl))
 obtain ⟨j, e, q1, q2, q⟩ := q1
 subst e
 cases r1 with
 | cons r rr =>
  cases rr
  obtain ⟨t, rfl⟩ := r
  exact call_range_1 (range_it I1 (by omega) (by omega) q1 q2 (by simpa using q))
theorem pi_range2 {a b : Expr} {ta : TA} {p pos : Pos} (hg : Gl X "range") (hm : X.mg "range" = none) (ha : PA X [a, b] ta) (hs : starEach [a, b] X.env = [(false, eval a X.env), (false, eval b X.env)] := by rfl) (hs2 : starEach [b] X.env = [(false, eval b X.env)] := by rfl) :
  PI X tg (.Call (.Name "range" p) [a, b] [] pos) (iRng2 ta) := by
 intro pins s σ H R I h
 refine Call_ (ld_blt I hg hm boot_range (PyProof.Rows.callWith_type1 (thn (ha pos pins s σ H _ I h) fun us s1 ⟨vs, H1, I1, r1, q1⟩ => ?_) (by rw [hs, hs2]) (by rw [hs2]; rfl)))
 obtain ⟨i, j, e, ⟨q1, q2, q3, q4⟩, q⟩ := q1
 subst e
 cases r1 with
 | cons r rr =>
  cases rr with
  | cons r' rr =>
   cases rr
   obtain ⟨t, rfl⟩ := r
   obtain ⟨t', rfl⟩ := r'
   exact call_range_2 (range_it I1 q1 q2 q3 q4 q)
def tFor (wi : TI) (g : TG) (tb : TS) : TS := fun D σ H => wi σ H fun J H1 => ∃ W : Nat → Nat → St → Hp → Prop, (∃ m, W 0 m σ H1) ∧ ∀ i m σ H, W i m σ H →
 (J.stop i H ∧ D.nx σ H) ∨ (J.go i H ∧ ∃ N : St → Hp → Prop, (∀ σ' H', N σ' H' → ∃ m', m' < m ∧ W (i + 1) m' σ' H') ∧ ∀ x H', J.yld i H x H' → g x σ H' fun σ2 H2 => tb { D with nx := N, ct := N, bk := D.nx } σ2 H2)
def pinsAt (fp : List Addr) (h : Heap) : List (Addr × Obj) := fp.filterMap fun b => (h.get? b).map fun o => (b, o)
theorem mem_pinsAt {fp : List Addr} {h : Heap} {b : Addr} {o : Obj} (hb : b ∈ fp) (e : h.get? b = some o) : (b, o) ∈ pinsAt fp h := List.mem_filterMap.mpr ⟨b, hb, by rw [e]; rfl⟩
theorem of_pinsAt {fp : List Addr} {h : Heap} {p : Addr × Obj} (hp : p ∈ pinsAt fp h) : p.1 ∈ fp ∧ h.get? p.1 = some p.2 := by
 obtain ⟨b, hb, e⟩ := List.mem_filterMap.mp hp
 cases q : h.get? b with
 | none => rw [q] at e; cases e
 | some o =>
  rw [q] at e
  have e' : (b, o) = p := Option.some.inj e
  subst e'
  exact ⟨hb, q⟩
theorem Inv.pinned {pins : List (Addr × Obj)} {σ : St} {H : Hp} {s : Shared} {fp : List Addr} (I : Inv X pins σ H s) (hf : ∀ b ∈ fp, FpOk X pins H b) (ho : ∀ b ∈ fp, ∃ o, s.heap.get? b = some o ∧ ∀ v, o.data ≠ .cell v) : Inv X (pins ++ pinsAt fp s.heap) σ H s :=
 I.pins_of fun p hp => (List.mem_append.mp hp).elim (fun z => I.pin p (List.mem_append_right _ z)) fun z => by
  obtain ⟨hb, e⟩ := of_pinsAt z
  obtain ⟨f0, f1, f2, _⟩ := hf p.1 hb
  obtain ⟨o, e', d⟩ := ho p.1 hb
  rw [e] at e'; cases e'
  exact ⟨e, f0, f1, f2, d⟩
theorem Inv.unpinned {pins pl : List (Addr × Obj)} {σ : St} {H : Hp} {s : Shared} (I : Inv X (pins ++ pl) σ H s) : Inv X pins σ H s := I.pins_of fun p hp => I.pin p (List.mem_append_right _ (List.mem_append_left _ hp))
theorem ps_for {iter : Expr} {body : List Stmt} {wi : TI} {g : TG} {tb : TS} {pos : Pos} (hp : PassesOwn (model X.prog X.w) X.A X.env X.xe) (hc : X.calm = true) (hi : PI X tg iter wi) (hg : PG X tg g) (hb : PSs X body tb)
  (hs : ∀ x, foldedSetIterable iter X.env x = pure x := by intro _; rfl) : PS X (.For tg iter body [] pos) (tFor wi g tb) := by
 intro pins s σ H D I h
 refine wpAny_For (thn (hi pins s σ H _ I h) fun v s1 h1 => thn h1 fun itv s2 h2 => ?_) hs
 obtain ⟨it, fp, tn, J, H2, e, I2, T, st2, f2, W, ⟨m0, w0⟩, turn⟩ := h2
 subst e
 -- what stays true of the iterator's objects through the loop
 have stat : ∀ {H' : Hp}, (∀ b ∈ fp, H' b = none) → ∀ b ∈ fp, FpOk X pins H' b := fun hn b hb => ⟨hn b hb, (f2 b hb).2⟩
 refine codeAny_forLoop_any (fun n s' => ∃ i σ' H', Inv X pins σ' H' s' ∧ tn i s'.heap ∧ (∀ b ∈ fp, H' b = none) ∧ W i n σ' H') ?_ m0 ⟨0, σ, H2, I2, st2, fun b hb => (f2 b hb).1, w0⟩
 rintro n s3 ⟨i, σ3, H3, I3, st3, fr3, w3⟩
 rcases turn i n σ3 H3 w3 with ⟨stop, qn⟩ | ⟨go, N, hN, step⟩
 ·refine wpAny_passesOwn hp (thn (T.done X rfl rfl rfl hc i pins s3 σ3 H3 X.xe I3 (stat fr3) st3 stop) fun r s4 ⟨hr, I4⟩ => ?_)
  subst hr
  exact wpAny_execs_nil ⟨σ3, H3, I4, qn⟩
 ·refine wpAny_passesOwn hp (thn (T.item X rfl rfl rfl hc i pins s3 σ3 H3 X.xe I3 (stat fr3) st3 go) fun r s4 ⟨u, hr, h4⟩ => ?_)
  subst hr
  refine wpAny_passesOwn hp (thn h4 fun _ s5 ⟨x, H5, I5, r5, y5, st5, fr5⟩ => ?_)
  have I5' := I5.pinned (stat fr5) (T.obj _ _ st5)
  refine wpAny_passesOwn hp (thn (hg _ s5 σ3 H5 x u _ I5' r5 (step x H5 y5)) fun _ s6 ⟨σ6, H6, I6, q6⟩ => ?_)
  refine wpAny_passesOwn hp (thn (hb _ s6 σ6 H6 _ I6 q6) fun f s7 q7 => ?_)
  have again : ∀ {σ7 : St} {H7 : Hp}, Inv X (pins ++ pinsAt fp s5.heap) σ7 H7 s7 → N σ7 H7 → ∃ m, m < n ∧ ∃ i σ' H', Inv X pins σ' H' s7 ∧ tn i s7.heap ∧ (∀ b ∈ fp, H' b = none) ∧ W i m σ' H' := fun {σ7 H7} I7 n7 => by
   obtain ⟨m', hm, w7⟩ := hN σ7 H7 n7
   refine ⟨m', hm, i + 1, σ7, H7, I7.unpinned, T.keep _ _ _ st5 fun b hb o e => (I7.pin (b, o) (List.mem_append_right _ (List.mem_append_right _ (mem_pinsAt hb e)))).1, fun b hb => ?_, w7⟩
   obtain ⟨o, e, d⟩ := T.obj _ _ st5 b hb
   exact (I7.pin (b, o) (List.mem_append_right _ (List.mem_append_right _ (mem_pinsAt hb e)))).2.1
  cases f with
  | next => obtain ⟨σ7, H7, I7, n7⟩ := q7; exact again I7 n7
  | cont => obtain ⟨σ7, H7, I7, n7⟩ := q7; exact again I7 n7
  | brk => obtain ⟨σ7, H7, I7, q7⟩ := q7; exact ⟨σ7, H7, I7.unpinned, q7⟩
  | ret v => obtain ⟨x7, σ7, H7, I7, r7, q7⟩ := q7; exact ⟨x7, σ7, H7, I7.unpinned, r7, q7⟩
end
theorem for_list {K : PySem.W.Frag} {a : Addr} {xs : List V} {g : TG} {tb : TS} {D : Ends} {σ : St} {H : Hp} (Pv : Nat → St → Hp → Prop) (h0 : Pv 0 σ H) (hl : ∀ i σ H, i ≤ xs.length → Pv i σ H → SqL K H a xs)
  (hs : ∀ i x σ H, xs[i]? = some x → Pv i σ H → g x σ H fun σ2 H2 => tb { D with nx := Pv (i + 1), ct := Pv (i + 1), bk := D.nx } σ2 H2) (hd : ∀ σ H, Pv xs.length σ H → D.nx σ H) :
  ∃ W : Nat → Nat → St → Hp → Prop, (∃ m, W 0 m σ H) ∧ ∀ i m σ H, W i m σ H →
   ((Itl K a).stop i H ∧ D.nx σ H) ∨ ((Itl K a).go i H ∧ ∃ N : St → Hp → Prop, (∀ σ' H', N σ' H' → ∃ m', m' < m ∧ W (i + 1) m' σ' H') ∧ ∀ x H', (Itl K a).yld i H x H' → g x σ H' fun σ2 H2 => tb { D with nx := N, ct := N, bk := D.nx } σ2 H2) := by
 refine ⟨fun i m σ H => m = xs.length - i ∧ i ≤ xs.length ∧ Pv i σ H, ⟨xs.length, by simp, Nat.zero_le _, h0⟩, ?_⟩
 rintro i m σ H ⟨rfl, hi, p⟩
 have q := hl i σ H hi p
 by_cases hlt : i < xs.length
 ·refine .inr ⟨⟨xs, xs[i], q, by simp [hlt]⟩, Pv (i + 1), fun σ' H' p' => ⟨xs.length - (i + 1), by omega, rfl, hlt, p'⟩, fun x H' y => ?_⟩
  obtain ⟨e, y⟩ := y
  subst e
  exact hs i x σ _ (y xs q) p
 ·have e : i = xs.length := by omega
  subst e
  exact .inl ⟨⟨xs, q, Nat.le_refl _⟩, hd σ H p⟩
end L2
namespace L2
open PySem PySem.Spec PyProof.Rows
abbrev R2 := V → V → Hp → VK → Prop
def OpR (X : Cx) (f : Value → Value → Sem Value) (r : R2) : Prop :=
 ∀ (pins : List (Addr × Obj)) (s : Shared) (σ : St) (H : Hp) (x y : V) (v u : Value) (Q : VK), Inv X pins σ H s → RelV x v → RelV y u → r x y H Q →
  wpAny (model X.prog X.w) X.A (f v u) (EP X pins σ Q) X.xe s
def UnR (X : Cx) (f : Value → Sem Value) (r : V → Hp → VK → Prop) : Prop :=
 ∀ (pins : List (Addr × Obj)) (s : Shared) (σ : St) (H : Hp) (x : V) (v : Value) (Q : VK), Inv X pins σ H s → RelV x v → r x H Q →
  wpAny (model X.prog X.w) X.A (f v) (EP X pins σ Q) X.xe s
def CallR (X : Cx) (f : Value) (r : List V → Hp → VK → Prop) : Prop :=
 ∀ (pins : List (Addr × Obj)) (s : Shared) (σ : St) (H : Hp) (xs : List V) (us : List Value) (Q : VK), Inv X pins σ H s → Vals xs us → r xs H Q →
  wpAny (model X.prog X.w) X.A (call f us) (EP X pins σ Q) X.xe s
def TruR (X : Cx) (r : V → Hp → (Bool → Hp → Prop) → Prop) : Prop :=
 ∀ (pins : List (Addr × Obj)) (s : Shared) (σ : St) (H : Hp) (x : V) (v : Value) (Q : Bool → Hp → Prop), Inv X pins σ H s → RelV x v → r x H Q →
  wpAny (model X.prog X.w) X.A (truthy v) (TP X pins σ Q) X.xe s
def tOp (r : R2) (ta tb : TE) : TE := fun σ H Q => ta σ H fun x H1 => tb σ H1 fun y H2 => r x y H2 Q
def tUn (r : V → Hp → VK → Prop) (ta : TE) : TE := fun σ H Q => ta σ H fun x H1 => r x H1 Q
def rI (C : Int → Int → Prop) (g : Int → Int → V) : R2 := fun x y H Q => ∃ i j, x = .int i ∧ y = .int j ∧ C i j ∧ Q (g i j) H
def rI0 (g : Int → Int → V) : R2 := fun x y H Q => ∃ i j, x = .int i ∧ y = .int j ∧ Q (g i j) H
def rU (g : Int → V) : V → Hp → VK → Prop := fun x H Q => ∃ i, x = .int i ∧ Q (g i) H
section
variable {X : Cx} {a b c : Expr} {ta tb tc : TE} {pos : Pos}
theorem binT (ha : PE X a ta) (hb : PE X b tb) {pins : List (Addr × Obj)} {s : Shared} {σ : St} {H : Hp} {R : V → V → Hp → Prop} (I : Inv X pins σ H s)
  (h : ta σ H fun x H1 => tb σ H1 fun y H2 => R x y H2) {Q : Value → Shared → Prop} {f : Value → Value → Sem Value}
  (hf : ∀ v u s2 x y H2, Inv X pins σ H2 s2 → RelV x v → RelV y u → R x y H2 → wpAny (model X.prog X.w) X.A (f v u) Q X.xe s2) :
  wpAny (model X.prog X.w) X.A (eval a X.env) (fun v s₁ => wpAny (model X.prog X.w) X.A (eval b X.env) (fun u s₂ => wpAny (model X.prog X.w) X.A (f v u) Q X.xe s₂) X.xe s₁) X.xe s := by
 refine thn (ha pins s σ H _ I h) fun v s1 ⟨x, H1, I1, r1, q1⟩ => ?_
 refine thn (hb pins s1 σ H1 _ I1 q1) fun u s2 ⟨y, H2, I2, r2, q2⟩ => ?_
 exact hf v u s2 x y H2 I2 r1 r2 q2
theorem pe_op {op : Operator} {r : R2} (ho : OpR X (binaryOp op) r) (ha : PE X a ta) (hb : PE X b tb) : PE X (.BinOp a op b pos) (tOp r ta tb) := by
 intro pins s σ H Q I h
 exact wpAny_BinOp (binT ha hb I h fun v u s2 x y H2 I2 rx ry q => ho pins s2 σ H2 x y v u Q I2 rx ry q)
theorem pe_un {op : UnaryOp} {r : V → Hp → VK → Prop} (ho : UnR X (unaryOp op) r) (ha : PE X a ta) : PE X (.UnaryOp op a pos) (tUn r ta) := by
 intro pins s σ H Q I h
 exact UnaryOp_ (thn (ha pins s σ H _ I h) fun v s1 ⟨x, H1, I1, r1, q1⟩ => ho pins s1 σ H1 x v Q I1 r1 q1)
theorem opI {f : Value → Value → Sem Value} {C : Int → Int → Prop} {g : Int → Int → Int}
  (rule : ∀ (i j : Int) (t u : Tok) (s : Shared) (Q : Value → Shared → Prop) (E : Value → Shared → Prop), C i j → Q (.int (g i j) s.toks) { s with toks := s.toks + 1 } → wpAny (model X.prog X.w) X.A (f (.int i t) (.int j u)) Q E s) :
  OpR X f (rI C fun i j => .int (g i j)) := by
 intro pins s σ H x y v u Q I rx ry h
 obtain ⟨i, j, rfl, rfl, hc, q⟩ := h
 obtain ⟨t, rfl⟩ := rx
 obtain ⟨t', rfl⟩ := ry
 exact rule i j t t' s _ _ hc ⟨.int (g i j), H, I.tok _, ⟨_, rfl⟩, q⟩
theorem opI0 {f : Value → Value → Sem Value} {g : Int → Int → Int}
  (rule : ∀ (i j : Int) (t u : Tok) (s : Shared) (Q : Value → Shared → Prop) (E : Value → Shared → Prop), Q (.int (g i j) s.toks) { s with toks := s.toks + 1 } → wpAny (model X.prog X.w) X.A (f (.int i t) (.int j u)) Q E s) :
  OpR X f (rI0 fun i j => .int (g i j)) := by
 intro pins s σ H x y v u Q I rx ry h
 obtain ⟨i, j, rfl, rfl, q⟩ := h
 obtain ⟨t, rfl⟩ := rx
 obtain ⟨t', rfl⟩ := ry
 exact rule i j t t' s _ _ ⟨.int (g i j), H, I.tok _, ⟨_, rfl⟩, q⟩
theorem opB0 {f : Value → Value → Sem Value} {g : Int → Int → Bool}
  (rule : ∀ (i j : Int) (t u : Tok) (s : Shared) (Q : Value → Shared → Prop) (E : Value → Shared → Prop), Q (.bool (g i j)) s → wpAny (model X.prog X.w) X.A (f (.int i t) (.int j u)) Q E s) :
  OpR X f (rI0 fun i j => .bl (g i j)) := by
 intro pins s σ H x y v u Q I rx ry h
 obtain ⟨i, j, rfl, rfl, q⟩ := h
 obtain ⟨t, rfl⟩ := rx
 obtain ⟨t', rfl⟩ := ry
 exact rule i j t t' s _ _ ⟨.bl (g i j), H, I, rfl, q⟩
def CDiv (i j : Int) : Prop := 0 < j ∧ j < 1073741824
def CPow (i j : Int) : Prop := 0 ≤ j ∧ j ≤ 1000000 ∧ i.natAbs < 2 ^ 64
def CMul (i j : Int) : Prop := (-(2 ^ 64) < i ∧ i < 2 ^ 64) ∨ (-(2 ^ 64) < j ∧ j < 2 ^ 64)
theorem CMul.ok {i j : Int} (h : CMul i j) : IntMulOk i j := by
 rcases h with ⟨h1, h2⟩ | ⟨h1, h2⟩
 ·exact .of_left (intBits_le_64 h1 h2)
 ·exact .of_right (intBits_le_64 h1 h2)
theorem op_add : OpR X (binaryOp .Add) (rI0 fun i j => .int (i + j)) := opI0 fun _ _ _ _ _ _ _ q => add_int q
theorem op_sub : OpR X (binaryOp .Sub) (rI0 fun i j => .int (i - j)) := opI0 fun _ _ _ _ _ _ _ q => sub_int q
theorem op_mul : OpR X (binaryOp .Mult) (rI CMul fun i j => .int (i * j)) := opI fun _ _ _ _ _ _ _ hc q => mul_int q hc.ok
theorem op_fdiv : OpR X (binaryOp .FloorDiv) (rI CDiv fun i j => .int (i / j)) := opI fun i j _ _ _ _ _ hc q => by
 have h1 : (0 : Int) < j := hc.1
 have h2 : j < 1073741824 := hc.2
 exact floordiv_int (by omega) (by rw [Int.fdiv_eq_ediv_of_nonneg i (by omega)]; exact q) (.inl (PyProof.noPylong_small (by omega)))
theorem op_mod : OpR X (binaryOp .Mod) (rI (fun _ j => 0 < j) fun i j => .int (i % j)) := opI fun i j _ _ _ _ _ hc q => by
 have h1 : (0 : Int) < j := hc
 exact mod_int' (by omega) (by rw [Int.fmod_eq_emod_of_nonneg i (by omega)]; exact q)
theorem op_modN : OpR X (binaryOp .Mod) (rI (fun _ j => j ≠ 0) fun i j => .int (i.fmod j)) := opI fun _ _ _ _ _ _ _ hc q => mod_int' hc q
theorem op_pow : OpR X (binaryOp .Pow) (rI CPow fun i j => .int (i ^ j.toNat)) := opI fun _ _ _ _ _ _ _ hc q => pow_int_small hc.1 hc.2.1 hc.2.2 q
theorem unI {f : Value → Sem Value} {g : Int → Int}
  (rule : ∀ (i : Int) (t : Tok) (s : Shared) (Q : Value → Shared → Prop) (E : Value → Shared → Prop), Q (.int (g i) s.toks) { s with toks := s.toks + 1 } → wpAny (model X.prog X.w) X.A (f (.int i t)) Q E s) :
  UnR X f (rU fun i => .int (g i)) := by
 intro pins s σ H x v Q I rx h
 obtain ⟨i, rfl, q⟩ := h
 obtain ⟨t, rfl⟩ := rx
 exact rule i t s _ _ ⟨.int (g i), H, I.tok _, ⟨_, rfl⟩, q⟩
theorem un_neg : UnR X (unaryOp .USub) (rU fun i => .int (-i)) := unI fun _ _ _ _ _ q => neg_int q
end
def scal : V → V → Bool
 | .non, .non => true | .non, .int _ => true | .int _, .non => true | .non, .bl _ => true | .bl _, .non => true | .non, .str _ => true | .str _, .non => true
 | .int _, .int _ => true | .bl _, .bl _ => true | .str _, .str _ => true | .byt _, .byt _ => true
 | .int _, .str _ => true | .str _, .int _ => true | .bl _, .str _ => true | .str _, .bl _ => true
 | _, _ => false
def rEq : R2 := fun x y H Q => scal x y = true ∧ Q (.bl (decide (x = y))) H
def rNe : R2 := fun x y H Q => scal x y = true ∧ Q (.bl (!decide (x = y))) H
theorem dec_int {i j : Int} : decide (V.int i = V.int j) = (i == j) := by
 rw [Bool.eq_iff_iff]
 simp
theorem dec_bl {i j : Bool} : decide (V.bl i = V.bl j) = (i == j) := by
 rw [Bool.eq_iff_iff]
 simp
theorem dec_str {i j : Str} : decide (V.str i = V.str j) = (i == j) := by
 rw [Bool.eq_iff_iff]
 simp
theorem dec_byt {i j : Array UInt8} : decide (V.byt i = V.byt j) = (i.toList == j.toList) := by
 rw [Bool.eq_iff_iff]
 cases i
 cases j
 simp
section
variable {X : Cx} {a b c : Expr} {ta tb tc : TE} {pos : Pos}
theorem fin_bl {pins : List (Addr × Obj)} {σ : St} {H : Hp} {s : Shared} {Q : VK} {k k' : Bool} (I : Inv X pins σ H s) (q : Q (.bl k) H) (e : k = k') : EP X pins σ Q (.bool k') s := by
 subst e
 exact ⟨.bl k, H, I, rfl, q⟩
theorem op_eq : OpR X (compareOp .Eq) rEq := by
 intro pins s σ H x y v u Q I rx ry h
 obtain ⟨hs, q⟩ := h
 cases x with
 | non =>
  cases rx
  cases y with
  | non => cases ry; exact PySem.EqNone.eq_none_none (fin_bl I q (by simp))
  | bl j => cases ry; exact PySem.EqNone.eq_none_bool (fin_bl I q (by simp))
  | int j => obtain ⟨t', rfl⟩ := ry; exact PySem.EqNone.eq_none_int (fin_bl I q (by simp))
  | str j => obtain ⟨t', rfl⟩ := ry; exact PySem.EqNone.eq_none_str (fin_bl I q (by simp))
  | _ => exact absurd (show false = true from hs) Bool.false_ne_true
 | bl i =>
  cases rx
  cases y with
  | non => cases ry; exact PySem.EqNone.eq_bool_none (fin_bl I q (by simp))
  | bl j => cases ry; exact eq_bool (fin_bl I q dec_bl)
  | str j => obtain ⟨t', rfl⟩ := ry; exact PySem.EqMixed.eq_bool_str (fin_bl I q (by simp))
  | _ => exact absurd (show false = true from hs) Bool.false_ne_true
 | int i =>
  obtain ⟨t, rfl⟩ := rx
  cases y with
  | non => cases ry; exact PySem.EqNone.eq_int_none (fin_bl I q (by simp))
  | int j => obtain ⟨t', rfl⟩ := ry; exact eq_int (fin_bl I q dec_int)
  | str j => obtain ⟨t', rfl⟩ := ry; exact PySem.EqMixed.eq_int_str (fin_bl I q (by simp))
  | _ => exact absurd (show false = true from hs) Bool.false_ne_true
 | str i =>
  obtain ⟨t, rfl⟩ := rx
  cases y with
  | non => cases ry; exact PySem.EqNone.eq_str_none (fin_bl I q (by simp))
  | bl j => cases ry; exact PySem.EqMixed.eq_str_bool (fin_bl I q (by simp))
  | int j => obtain ⟨t', rfl⟩ := ry; exact PySem.EqMixed.eq_str_int (fin_bl I q (by simp))
  | str j => obtain ⟨t', rfl⟩ := ry; exact eq_str (fin_bl I q dec_str)
  | _ => exact absurd (show false = true from hs) Bool.false_ne_true
 | byt i =>
  obtain ⟨t, rfl⟩ := rx
  cases y with
  | byt j => obtain ⟨t', rfl⟩ := ry; exact PySem.W.eq_bytes (fin_bl I q dec_byt)
  | _ => exact absurd (show false = true from hs) Bool.false_ne_true
 | _ => cases y <;> exact absurd (show false = true from hs) Bool.false_ne_true
theorem op_ne : OpR X (compareOp .NotEq) rNe := by
 intro pins s σ H x y v u Q I rx ry h
 obtain ⟨hs, q⟩ := h
 cases x with
 | non =>
  cases rx
  cases y with
  | non => cases ry; exact PySem.EqNone.ne_none_none (fin_bl I q (by simp))
  | bl j => cases ry; exact PySem.EqNone.ne_none_bool (fin_bl I q (by simp))
  | int j => obtain ⟨t', rfl⟩ := ry; exact PySem.EqNone.ne_none_int (fin_bl I q (by simp))
  | str j => obtain ⟨t', rfl⟩ := ry; exact PySem.EqNone.ne_none_str (fin_bl I q (by simp))
  | _ => exact absurd (show false = true from hs) Bool.false_ne_true
 | bl i =>
  cases rx
  cases y with
  | non => cases ry; exact PySem.EqNone.ne_bool_none (fin_bl I q (by simp))
  | bl j => cases ry; exact ne_bool (fin_bl I q (congrArg not dec_bl))
  | str j => obtain ⟨t', rfl⟩ := ry; exact PySem.EqMixed.ne_bool_str (fin_bl I q (by simp))
  | _ => exact absurd (show false = true from hs) Bool.false_ne_true
 | int i =>
  obtain ⟨t, rfl⟩ := rx
  cases y with
  | non => cases ry; exact PySem.EqNone.ne_int_none (fin_bl I q (by simp))
  | int j => obtain ⟨t', rfl⟩ := ry; exact ne_int (fin_bl I q (congrArg not dec_int))
  | str j => obtain ⟨t', rfl⟩ := ry; exact PySem.EqMixed.ne_int_str (fin_bl I q (by simp))
  | _ => exact absurd (show false = true from hs) Bool.false_ne_true
 | str i =>
  obtain ⟨t, rfl⟩ := rx
  cases y with
  | non => cases ry; exact PySem.EqNone.ne_str_none (fin_bl I q (by simp))
  | bl j => cases ry; exact PySem.EqMixed.ne_str_bool (fin_bl I q (by simp))
  | int j => obtain ⟨t', rfl⟩ := ry; exact PySem.EqMixed.ne_str_int (fin_bl I q (by simp))
  | str j => obtain ⟨t', rfl⟩ := ry; exact ne_str (fin_bl I q (congrArg not dec_str))
  | _ => exact absurd (show false = true from hs) Bool.false_ne_true
 | byt i =>
  obtain ⟨t, rfl⟩ := rx
  cases y with
  | byt j => obtain ⟨t', rfl⟩ := ry; exact PySem.W.ne_bytes (fin_bl I q (congrArg not dec_byt))
  | _ => exact absurd (show false = true from hs) Bool.false_ne_true
 | _ => cases y <;> exact absurd (show false = true from hs) Bool.false_ne_true
theorem op_lt : OpR X (compareOp .Lt) (rI0 fun i j => .bl (decide (i < j))) := opB0 fun _ _ _ _ _ _ _ q => lt_int q
theorem op_le : OpR X (compareOp .LtE) (rI0 fun i j => .bl (decide (i ≤ j))) := opB0 fun _ _ _ _ _ _ _ q => le_int q
theorem op_gt : OpR X (compareOp .Gt) (rI0 fun i j => .bl (decide (j < i))) := opB0 fun _ _ _ _ _ _ _ q => gt_int q
theorem op_ge : OpR X (compareOp .GtE) (rI0 fun i j => .bl (decide (j ≤ i))) := opB0 fun _ _ _ _ _ _ _ q => ge_int q
theorem op_in_str : OpR X (compareOp .In) (fun x y H Q => ∃ i j, x = .str i ∧ y = .str j ∧ Q (.bl (!(Builtin.Str.occurrences j i 0 j.length 1).isEmpty)) H) := by
 intro pins s σ H x y v u Q I rx ry h
 obtain ⟨i, j, rfl, rfl, q⟩ := h
 obtain ⟨t, rfl⟩ := rx
 obtain ⟨t', rfl⟩ := ry
 exact in_str (fin_bl I q rfl)
theorem op_notN : OpR X (compareOp .IsNot) (fun x y H Q => y = .non ∧ Q (.bl (!decide (x = .non))) H) := by
 intro pins s σ H x y v u Q I rx ry h
 obtain ⟨rfl, q⟩ := h
 cases ry
 refine isnot_none_gen (fin_bl I q ?_)
 cases x <;> first
  | (cases rx; rfl)
  | (obtain ⟨t, rfl⟩ := rx; rfl)
theorem nomark (b : Expr) {op : CmpOp} (h : op ≠ .In := by decide) (h2 : op ≠ .NotIn := by decide) : behindInMarks op b = false := by
 have e1 : (op == CmpOp.In) = false := by cases op <;> first | rfl | exact absurd rfl h
 have e2 : (op == CmpOp.NotIn) = false := by cases op <;> first | rfl | exact absurd rfl h2
 cases b <;> simp [behindInMarks, e1, e2]
theorem pe_cmpR {op : CmpOp} {r : R2} (ho : OpR X (compareOp op) r) (ha : PE X a ta) (hb : PE X b tb) (hm : behindInMarks op b = false) : PE X (.Compare a [op] [b] pos) (tOp r ta tb) := by
 intro pins s σ H Q I h
 exact wpAny_Compare1 (binT ha hb I h fun v u s2 x y H2 I2 rx ry q => ho pins s2 σ H2 x y v u Q I2 rx ry q) hm
def tTest (t : TE) : TT := fun σ H Q => t σ H fun x H' => ∃ k, x = .bl k ∧ Q k H'
theorem pt_cmpR {op : CmpOp} {r : R2} (ho : OpR X (compareOp op) r) (ha : PE X a ta) (hb : PE X b tb) (hm : behindInMarks op b = false) : PT X (.Compare a [op] [b] pos) (tTest (tOp r ta tb)) := by
 intro pins s σ H Q I h
 refine wpAny_isTrue_Compare1 (thn (ha pins s σ H _ I h) fun v s1 ⟨x, H1, I1, r1, q1⟩ => thn (hb pins s1 σ H1 _ I1 q1) fun u s2 ⟨y, H2, I2, r2, q2⟩ =>
  thn (ho pins s2 σ H2 x y v u _ I2 r1 r2 q2) fun c s3 ⟨z, H3, I3, r3, k, e, q3⟩ => ?_) hm
 subst e
 cases r3
 exact wpAny_truthy_bool ⟨H3, I3, q3⟩
def tChain (r r' : R2) (ta tb tc : TE) : TE := fun σ H Q => ta σ H fun x H1 => tb σ H1 fun y H2 => r x y H2 fun z H3 => ∃ k, z = .bl k ∧
 (if k = true then tc σ H3 fun w' H4 => r' y w' H4 Q else Q (.bl false) H3)
theorem pe_chain {op op' : CmpOp} {r r' : R2} (ho : OpR X (compareOp op) r) (ho' : OpR X (compareOp op') r') (ha : PE X a ta) (hb : PE X b tb) (hc : PE X c tc)
  (hm : lastMarks [op, op'] [b, c] = false := by with_unfolding_all rfl) : PE X (.Compare a [op, op'] [b, c] pos) (tChain r r' ta tb tc) := by
 intro pins s σ H Q I h
 refine Compare_chain (thn (ha pins s σ H _ I h) fun v s1 ⟨x, H1, I1, r1, q1⟩ => chain_link (thn (hb pins s1 σ H1 _ I1 q1) fun u s2 ⟨y, H2, I2, r2, q2⟩ =>
  thn (ho pins s2 σ H2 x y v u _ I2 r1 r2 q2) fun d s3 ⟨z, H3, I3, r3, k, e, q3⟩ => ?_)) hm
 subst e
 cases r3
 refine wpAny_truthy_bool ?_
 cases k with
 | false => exact ite_ff ⟨.bl false, H3, I3, rfl, q3⟩
 | true => exact ite_tt (chain_last (thn (hc pins s3 σ H3 _ I3 q3) fun w' s4 ⟨z', H4, I4, r4, q4⟩ => ho' pins s4 σ H4 y z' u w' Q I4 r2 r4 q4))
theorem pt_chain {op op' : CmpOp} {r r' : R2} (ho : OpR X (compareOp op) r) (ho' : OpR X (compareOp op') r') (ha : PE X a ta) (hb : PE X b tb) (hc : PE X c tc)
  (hm : lastMarks [op, op'] [b, c] = false := by with_unfolding_all rfl) : PT X (.Compare a [op, op'] [b, c] pos) (tTest (tChain r r' ta tb tc)) := by
 intro pins s σ H Q I h
 refine isTrue_chain (thn (ha pins s σ H _ I h) fun v s1 ⟨x, H1, I1, r1, q1⟩ => test_link (thn (hb pins s1 σ H1 _ I1 q1) fun u s2 ⟨y, H2, I2, r2, q2⟩ =>
  thn (ho pins s2 σ H2 x y v u _ I2 r1 r2 q2) fun d s3 ⟨z, H3, I3, r3, k, e, q3⟩ => ?_)) hm
 subst e
 cases r3
 refine wpAny_truthy_bool ?_
 cases k with
 | false =>
  obtain ⟨k', e', q'⟩ := q3
  cases e'
  exact ite_ff ⟨H3, I3, q'⟩
 | true =>
  refine ite_tt (test_last (thn (hc pins s3 σ H3 _ I3 q3) fun w' s4 ⟨z', H4, I4, r4, q4⟩ => thn (ho' pins s4 σ H4 y z' u w' _ I4 r2 r4 q4) fun d' s5 ⟨z2, H5, I5, r5, k2, e2, q5⟩ => ?_))
  subst e2
  cases r5
  exact wpAny_truthy_bool ⟨H5, I5, q5⟩
def TruV (K : PySem.W.Frag) (x : V) (H : Hp) (k : Bool) : Prop :=
 match x with
 | .non => k = false
 | .bl b => k = b
 | .int i => k = (i != 0)
 | .str y => y.length ≤ sizeLine ∧ k = ((y.length : Int) != 0)
 | .byt y => y.size ≤ sizeLine ∧ k = ((y.size : Int) != 0)
 | .ref p => (∃ xs, SqL K H p xs ∧ k = !xs.isEmpty) ∨ (∃ xs, SqT K H p xs ∧ k = !xs.isEmpty) ∨ ∃ kvs, H p = some (.dK kvs) ∧ k = !kvs.isEmpty
 | _ => False
theorem isEmpty_kv {κ : Type} {kvs : List (κ × V)} {vs : List (κ × Value)} (r : KV kvs vs) : (!vs.isEmpty) = !kvs.isEmpty := by
 cases r <;> rfl
theorem isEmpty_of {xs : List V} {its : List Value} (r : Vals xs its) : (!its.toArray.isEmpty) = !xs.isEmpty := by
 cases r <;> simp
theorem line63 : (sizeLine : Nat) < 2 ^ 63 := by rw [sizeLine_eq]; decide
theorem tru_ok : TruR X (fun x H Q => ∃ k, TruV X.K x H k ∧ Q k H) := by
 intro pins s σ H x v Q I rx h
 obtain ⟨k, e, q⟩ := h
 have hl := line63
 have hs : sizeLine = 16777216 := sizeLine_eq
 cases x with
 | non =>
  cases rx
  have e' : k = false := e
  subst e'
  exact truthy_none ⟨H, I, q⟩
 | bl b =>
  cases rx
  have e' : k = b := e
  subst e'
  exact wpAny_truthy_bool ⟨H, I, q⟩
 | int i =>
  obtain ⟨t, rfl⟩ := rx
  have e' : k = (i != 0) := e
  subst e'
  exact PySem.P.truthy_int ⟨H, I, q⟩
 | str y =>
  obtain ⟨t, rfl⟩ := rx
  obtain ⟨hy, e'⟩ : y.length ≤ sizeLine ∧ k = ((y.length : Int) != 0) := e
  subst e'
  exact PySem.P.truthy_str (by omega) ⟨H, I.tok _, q⟩
 | byt y =>
  obtain ⟨t, rfl⟩ := rx
  obtain ⟨hy, e'⟩ : y.size ≤ sizeLine ∧ k = ((y.size : Int) != 0) := e
  subst e'
  exact PySem.W.truthy_bytes (by omega) ⟨H, I.tok _, q⟩
 | ref p =>
  cases rx
  have e' : (∃ xs, SqL X.K H p xs ∧ k = !xs.isEmpty) ∨ (∃ xs, SqT X.K H p xs ∧ k = !xs.isEmpty) ∨ ∃ kvs, H p = some (.dK kvs) ∧ k = !kvs.isEmpty := e
  rcases e' with ⟨xs, hx, e'⟩ | ⟨xs, hx, e'⟩ | ⟨kvs, hx, e'⟩
  ·subst e'
   obtain ⟨its, r, pl, hz⟩ := I.list hx
   have hlen := r.length
   exact wpAny_truthy_list pl.isList (by simp only [List.size_toArray]; omega) ⟨H, I.tok _, by rw [isEmpty_of r]; exact q⟩
  ·subst e'
   obtain ⟨its, r, pl, hz⟩ := I.tuple hx
   have hlen := r.length
   exact truthy_tuple pl (by simp only [List.size_toArray]; omega) ⟨H, I.tok _, by rw [isEmpty_of r]; exact q⟩
  ·subst e'
   obtain ⟨hz, hS, vs, r, m⟩ : kvs.length ≤ sizeLine ∧ (p == sysModules) = false ∧ ∃ vs, KV kvs vs ∧ s.heap.DictOf (mixKind X.prog X.w) p vs := I.hok p _ hx
   have hlen : kvs.length = vs.length := Paired.length r
   exact wpAny_truthy_dict hS m (by omega) ⟨H, I.tok _, by rw [isEmpty_kv r]; exact q⟩
 | _ => exact (show False from e).elim
theorem pt_truth (ha : PE X a ta) (he : ∀ whole, isTrue a X.env whole = (do let v ← whole; standAt a.pos; holding [v] (truthy v))) :
  PT X a (fun σ H Q => ta σ H fun x H' => ∃ k, TruV X.K x H' k ∧ Q k H') := by
 intro pins s σ H Q I h
 exact isTrue_plain (thn (ha pins s σ H _ I h) fun v s1 ⟨x, H1, I1, r1, q1⟩ => tru_ok pins s1 σ H1 x v Q I1 r1 q1) (he _)
theorem op_add_str : OpR X (binaryOp .Add) (fun x y H Q => ∃ i j, x = .str i ∧ y = .str j ∧ i.length + j.length ≤ sizeLine ∧ Q (.str (i ++ j)) H) := by
 intro pins s σ H x y v u Q I rx ry h
 obtain ⟨i, j, rfl, rfl, hz, q⟩ := h
 obtain ⟨t, rfl⟩ := rx
 obtain ⟨t', rfl⟩ := ry
 exact add_str (fun t' tk => ⟨.str (i ++ j), H, I.tok _, ⟨_, rfl⟩, q⟩) hz
theorem vals1 {x : V} {us : List Value} (r : Vals [x] us) : ∃ u, us = [u] ∧ RelV x u := by
 cases r with
 | cons r1 r2 => cases r2; exact ⟨_, rfl, r1⟩
theorem vals2 {x y : V} {us : List Value} (r : Vals [x, y] us) : ∃ u w', us = [u, w'] ∧ RelV x u ∧ RelV y w' := by
 cases r with
 | cons r1 r2 =>
  cases r2 with
  | cons r3 r4 => cases r4; exact ⟨_, _, rfl, r1, r3⟩
theorem call_abs : CallR X (.builtin "abs") (fun xs H Q => ∃ i, xs = [.int i] ∧ Q (.int (if i < 0 then -i else i)) H) := by
 intro pins s σ H xs us Q I r h
 obtain ⟨i, rfl, q⟩ := h
 obtain ⟨u, rfl, t, rfl⟩ := vals1 r
 exact call_abs_int fun u tk => ⟨.int (if i < 0 then -i else i), H, I.tok _, ⟨_, rfl⟩, q⟩
theorem call_max2 (hc : X.calm = true) : CallR X (.builtin "max") (fun xs H Q => ∃ i j, xs = [.int i, .int j] ∧ Q (.int (if j > i then j else i)) H) := by
 intro pins s σ H xs us Q I r h
 obtain ⟨i, j, rfl, q⟩ := h
 obtain ⟨u, w', rfl, ⟨t, rfl⟩, ⟨t', rfl⟩⟩ := vals2 r
 refine max_two_ints (I.ok.hd hc) fun h' tk k => ⟨_, H, I.kept k, ?_, q⟩
 by_cases hj : j > i
 ·rw [if_pos hj, if_pos hj]; exact ⟨_, rfl⟩
 ·rw [if_neg hj, if_neg hj]; exact ⟨_, rfl⟩
theorem call_min2 (hc : X.calm = true) : CallR X (.builtin "min") (fun xs H Q => ∃ i j, xs = [.int i, .int j] ∧ Q (.int (if j < i then j else i)) H) := by
 intro pins s σ H xs us Q I r h
 obtain ⟨i, j, rfl, q⟩ := h
 obtain ⟨u, w', rfl, ⟨t, rfl⟩, ⟨t', rfl⟩⟩ := vals2 r
 refine min_two_ints (I.ok.hd hc) fun h' tk k => ⟨_, H, I.kept k, ?_, q⟩
 by_cases hj : j < i
 ·rw [if_pos hj, if_pos hj]; exact ⟨_, rfl⟩
 ·rw [if_neg hj, if_neg hj]; exact ⟨_, rfl⟩
theorem call_int1 : CallR X (.type "int") (fun xs H Q => (∃ i, xs = [.int i] ∧ Q (.int i) H) ∨ ∃ k, xs = [.bl k] ∧ Q (.int (if k then 1 else 0)) H) := by
 intro pins s σ H xs us Q I r h
 rcases h with ⟨i, rfl, q⟩ | ⟨k, rfl, q⟩
 ·obtain ⟨u, rfl, t, rfl⟩ := vals1 r
  exact call_int_int ⟨.int i, H, I, ⟨_, rfl⟩, q⟩
 ·obtain ⟨u, rfl, r1⟩ := vals1 r
  cases r1
  exact call_int_bool ⟨.int (if k then 1 else 0), H, I.tok _, ⟨_, rfl⟩, q⟩
end
end L2
namespace L2
open PySem PySem.Spec PyProof.Rows
structure ObjM (h : Heap) (x dx C : Addr) (mA : Str → Option Value) : Prop where
 obj : h.get? x = some (PySem.W.instObj C dx)
 ns : h.Ns1 dx mA
 ne : dx ≠ x
theorem lookIn_ns {h : Heap} {dx : Addr} {mA : Str → Option Value} (n : h.Ns1 dx mA) : ∃ od, h.get? dx = some od ∧ ∀ name, PySem.W.lookIn name od = some (mA name) := by
 obtain ⟨o, es, ep, ho, hd, hk, _, hm⟩ := n
 refine ⟨o, ho, fun name => ?_⟩
 have e := hm name
 unfold nsFind findBy at e
 rw [← Array.find?_toList] at e
 unfold PySem.W.lookIn
 rw [hd]
 dsimp only
 split
 ·rename_i y q
  rw [q] at e
  exact congrArg some e
 ·rename_i q
  rw [q] at e
  have a : es.toList.any (·.refKey) = false := by
   rw [List.any_eq_false]
   intro y hy
   obtain ⟨z, t, hkey⟩ := hk y (Array.mem_toList_iff.mp hy)
   simp [DictEntry.refKey, hkey]
  have a' : ¬ es.toList.any (·.refKey) = true := by rw [a]; exact Bool.false_ne_true
  rw [if_neg a']
  exact congrArg some e
theorem ObjM.look {h : Heap} {x dx C : Addr} {mA : Str → Option Value} (I : ObjM h x dx C mA) : ∃ od, PySem.W.InstAt h x (PySem.W.instObj C dx) C (some od) ∧ ∀ name, PySem.W.lookIn name od = some (mA name) :=
 let ⟨od, ho, hl⟩ := lookIn_ns I.ns
 ⟨od, ⟨I.obj, rfl, rfl, ho⟩, hl⟩
section
variable {prog : Program} {w : World} {A : Around} {E : Value → Shared → Prop} {s : Shared} {K : PySem.W.Frag} {x dx C f : Addr} {mA : Str → Option Value} {name : Str} {v : Value}
theorem get_map {expr : Bool} {Q : Value → Shared → Prop} (X : K.In s.heap) (I : ObjM s.heap x dx C mA) (hg : PySem.W.plainGet K C name = true) (hh : PySem.W.hasDictIn K C = true)
  (ha : PySem.W.findIn K (.ref C) name = some none) (hv : mA name = some v) (hv' : PySem.W.handedIn v = true) (h : Q v { s with toks := s.toks + 1 }) :
  wpAny (model prog w) A (getAttr (.ref x) name expr) Q E s := by
 obtain ⟨od, J, hl⟩ := I.look
 exact PySem.W.get_value X J (PySem.W.plainGet_of hg).1 (PySem.W.findObj_own hh ha rfl (by rw [hl, hv])) hv' h
theorem get_meth {pl : Sem Bool} {Q : Value × List Value → Shared → Prop} (X : K.In s.heap) (I : ObjM s.heap x dx C mA) (hg : PySem.W.plainGet K C name = true)
  (hf : PySem.W.findIn K (.ref C) name = some (some (.ref f))) (ht : PySem.W.isFn K (.ref f) = true) (hv : mA name = none) (h : Q (.ref f, [.ref x]) s) :
  wpAny (model prog w) A (getMethod (.ref x) name pl) Q E s := by
 obtain ⟨od, J, hl⟩ := I.look
 exact PySem.W.method_fn X J (PySem.W.plainGet_of hg).1 (PySem.W.plainGet_of hg).2 hf (beq_iff_eq.mp ht) (by show (PySem.W.lookIn name od).map (·.isSome) = some false; rw [hl, hv]; rfl) h
theorem set_map {ns : List Str} {Q : Unit → Shared → Prop} (X : K.In s.heap) (I : ObjM s.heap x dx C mA)
  (hs : PySem.W.findIn K (.ref C) "__setattr__" = some (some (.builtin "object.__setattr__"))) (hp : PySem.W.plainOver K C = true) (ht : PySem.W.takerIn K C name = some none) (hh : PySem.W.hasDictIn K C = true)
  (hw : PySem.Within mA ns) (hsz : ns.length ≤ sizeLine)
  (h : ∀ h', ObjM h' x dx C (fun y => if y = name then some v else mA y) → Heap.SameBut dx s.heap h' → Q () { s with heap := h', toks := s.toks + 2 }) :
  wpAny (model prog w) A (setAttr (.ref x) name v) Q E s := by
 obtain ⟨od, J, hl⟩ := I.look
 refine PySem.W.set_plain X J hs (PySem.W.osa_open (s := { s with toks := s.toks + 1 }) (r := none) X J hp ht fun b => ?_)
 obtain ⟨cd, hc, hd'⟩ := PySem.W.any_some hh
 have hx : s.heap.get? x = some ⟨.ref C, some dx, .plain, #[]⟩ := I.obj
 refine wpAny_bind (wpAny_pure (wpAny_bind (wpAny_bind (wpAny_loadPart hx (wpAny_bind (PySem.W.Looks.here (s := { s with toks := s.toks + 1 }) (PySem.W.looks_clsIn X hc) ?_))))))
 rw [hd']
 refine wpAny_pure (a := some dx) (wpAny_bind (wpAny_pure (wpAny_bind ?_)))
 refine wpAny_nsSet1 (s := { s with toks := s.toks + 1 }) I.ns fun h' hn2 hs2 => ?_
 obtain ⟨oD, esD, epD, hoD, hdD, hcD⟩ := hn2.count (PySem.Within.cons name v hw)
 refine wpAny_bind (wpAny_lookBehind hoD (by rw [hdD]; exact pastItsLine_dict (Nat.le_trans hcD (by rw [List.length_cons]; omega))) ?_)
 exact wpAny_pure (h _ ⟨(hs2.2 _ (Ne.symm I.ne)).trans I.obj, hn2, I.ne⟩ hs2)
theorem make_map {R : Result → Shared → Prop} {vs : List Value} {kw : List (Str × Value)} (X : K.In s.heap) (hm : PySem.W.makesIn K C = true)
  (hi : PySem.W.findIn K (.ref C) "__init__" = some (some (.ref f))) (hf : PySem.W.typeIn K (.ref f) = some (.type "function"))
  (h : codeAny (model prog w) (A.under (.builtin "type.__call__" ⟨.ref C :: vs, kw⟩)) (.call (.ref f) ⟨.ref (s.heap.objs.size + 1) :: vs, kw⟩) (PySem.W.InitBack (s.heap.objs.size + 1) R)
   { s with heap := (s.heap.push PySem.W.emptyDict).push (PySem.W.instObj C s.heap.objs.size) }) :
  codeAny (model prog w) A (.call (.ref C) ⟨vs, kw⟩) R s := by
 obtain ⟨hh, g, d, t, os⟩ := s
 exact PySem.W.make_core (PySem.W.makes_of X hm) (PySem.W.looks_findIn X hi) (fun self => PySem.W.bind_fn X self hf) (.inl rfl) h
end
def putF (f : Str) (v : V) : List (Str × V) → List (Str × V)
 | [] => [(f, v)]
 | (g, x) :: r => if g = f then (g, v) :: r else (g, x) :: putF f v r
theorem lookup_putF (f g : Str) (v : V) : ∀ fs : List (Str × V), (putF f v fs).lookup g = if g = f then some v else fs.lookup g
 | [] => by
  show List.lookup g [(f, v)] = _
  by_cases h : g = f
  ·have hb : (g == f) = true := beq_iff_eq.mpr h
   simp only [List.lookup, hb, if_pos h]
  ·have hb : (g == f) = false := beq_eq_false_iff_ne.mpr h
   simp only [List.lookup, hb, if_neg h]
 | (k, x) :: r => by
  have ih := lookup_putF f g v r
  rw [show putF f v ((k, x) :: r) = (if k = f then (k, v) :: r else (k, x) :: putF f v r) from rfl]
  by_cases hk : k = f
  ·rw [if_pos hk]
   by_cases h : g = k
   ·have hb : (g == k) = true := beq_iff_eq.mpr h
    simp only [List.lookup, hb, if_pos (h.trans hk)]
   ·have hb : (g == k) = false := beq_eq_false_iff_ne.mpr h
    simp only [List.lookup, hb, if_neg (fun e : g = f => h (e.trans hk.symm))]
  ·rw [if_neg hk]
   by_cases h : g = k
   ·have hb : (g == k) = true := beq_iff_eq.mpr h
    simp only [List.lookup, hb, if_neg (fun e : g = f => hk (h.symm.trans e))]
   ·have hb : (g == k) = false := beq_eq_false_iff_ne.mpr h
    simp only [List.lookup, hb]
    exact ih
theorem keys_putF (f : Str) (v : V) : ∀ fs : List (Str × V), f ∈ (putF f v fs).map (·.1) ∧ ∀ g, g ∈ fs.map (·.1) → g ∈ (putF f v fs).map (·.1)
 | [] => ⟨by simp [putF], fun g h => by simp at h⟩
 | (k, x) :: r => by
  obtain ⟨i1, i2⟩ := keys_putF f v r
  rw [show putF f v ((k, x) :: r) = (if k = f then (k, v) :: r else (k, x) :: putF f v r) from rfl]
  by_cases hk : k = f
  ·rw [if_pos hk]
   subst hk
   exact ⟨by simp, fun g h => by simpa using h⟩
  ·rw [if_neg hk]
   refine ⟨?_, fun g h => ?_⟩
   ·rw [List.map_cons]
    exact List.mem_cons_of_mem _ i1
   ·rw [List.map_cons] at h ⊢
    rcases List.mem_cons.mp h with e | e
    ·exact List.mem_cons.mpr (.inl e)
    ·exact List.mem_cons_of_mem _ (i2 g e)
theorem length_putF (f : Str) (v : V) : ∀ fs : List (Str × V), (putF f v fs).length ≤ fs.length + 1
 | [] => by simp [putF]
 | (k, x) :: r => by
  have ih := length_putF f v r
  rw [show putF f v ((k, x) :: r) = (if k = f then (k, v) :: r else (k, x) :: putF f v r) from rfl]
  by_cases hk : k = f
  ·rw [if_pos hk, List.length_cons, List.length_cons]; omega
  ·rw [if_neg hk, List.length_cons, List.length_cons]; omega
theorem RelO.some_of {v : V} {o : Option Value} (r : RelO (some v) o) : ∃ u, o = some u ∧ RelV v u := by
 cases o with
 | none => exact (show False from r).elim
 | some u => exact ⟨u, rfl, r⟩
theorem RelO.none_of {o : Option Value} (r : RelO none o) : o = none := by
 cases o with
 | none => rfl
 | some u => exact (show False from r).elim
theorem handed_of {v : V} {u : Value} (r : RelV v u) : PySem.W.handedIn u = true := by
 cases v with
 | non => cases (show u = Value.none from r); rfl
 | bl b => cases (show u = Value.bool b from r); rfl
 | int i => obtain ⟨t, e⟩ := (show ∃ t, u = Value.int i t from r); cases e; rfl
 | str x => obtain ⟨t, e⟩ := (show ∃ t, u = Value.str x t from r); cases e; rfl
 | byt b => obtain ⟨t, e⟩ := (show ∃ t, u = Value.bytes b t from r); cases e; rfl
 | flt b => obtain ⟨t, e⟩ := (show ∃ t, u = Value.float b t from r); cases e; rfl
 | ref a => cases (show u = Value.ref a from r); rfl
 | ty n => cases (show u = Value.type n from r); rfl
section
variable {P : Program} {w : World} {H H' : Hp} {h h' : Heap} {a C dx : Addr} {fs fs' : List (Str × V)}
theorem ins_get (hok : HOk P w H h) (e : H a = some (.ins C dx fs)) : ∃ mA, ObjM h a dx C mA ∧ (∀ f, RelO (fs.lookup f) (mA f)) ∧ PySem.Within mA (fs.map (·.1)) ∧ fs.length ≤ 1000 ∧ H dx = some (.own a) := by
 obtain ⟨d, z, ne, ob, mA, n, r, q⟩ := (show ObjOk P w H h a (.ins C dx fs) from hok a _ e)
 exact ⟨mA, ⟨ob, n, ne⟩, r, q, z, d⟩
end
structure Cls (K : PySem.W.Frag) (C : Addr) : Prop where
 pg : PySem.W.plainGet K C Str.empty = true
 hd : PySem.W.hasDictIn K C = true
 po : PySem.W.plainOver K C = true
 sa : PySem.W.findIn K (.ref C) "__setattr__" = some (some (.builtin "object.__setattr__"))
theorem Cls.get {K : PySem.W.Frag} {C : Addr} (c : Cls K C) (f : Str) : PySem.W.plainGet K C f = true := c.pg
def NoAttr (K : PySem.W.Frag) (C : Addr) (f : Str) : Prop := PySem.W.findIn K (.ref C) f = some none
theorem NoAttr.taker {K : PySem.W.Frag} {C : Addr} {f : Str} (n : NoAttr K C f) : PySem.W.takerIn K C f = some none := by
 unfold PySem.W.takerIn
 rw [show PySem.W.findIn K (.ref C) f = some none from n]
 rfl
structure Con (K : PySem.W.Frag) (C : Addr) (f : Str) (v : V) (u : Value) : Prop where
 at_ : PySem.W.findIn K (.ref C) f = some (some u)
 rel : RelV v u
 get : PySem.W.specialIn K u "__get__" = some none
 cp : PySem.W.copiedNames.contains f = false
structure Meth (K : PySem.W.Frag) (C : Addr) (m : Str) (f : Addr) : Prop where
 at_ : PySem.W.findIn K (.ref C) m = some (some (.ref f))
 fn : PySem.W.isFn K (.ref f) = true
 kp : PySem.W.keepIn K (.ref f) = true
section
variable {X : Cx} {pins : List (Addr × Obj)} {σ : St} {H : Hp} {s : Shared} {a C dx : Addr} {fs : List (Str × V)} {f : Str} {v : V} {A : Around} {E : Value → Shared → Prop}
theorem getattr_ok {b : Bool} {Q : Value → Shared → Prop} (I : Inv X pins σ H s) (e : H a = some (.ins C dx fs)) (c : Cls X.K C) (n : NoAttr X.K C f) (l : fs.lookup f = some v)
  (h : ∀ u s', Inv X pins σ H s' → RelV v u → Q u s') : wpAny (model X.prog X.w) A (getAttr (.ref a) f b) Q E s := by
 obtain ⟨mA, O, r, _, _, _⟩ := ins_get I.hok e
 obtain ⟨u, hu, ru⟩ := RelO.some_of (v := v) (o := mA f) (by rw [← l]; exact r f)
 exact get_map I.kIn O (c.get f) c.hd n hu (handed_of ru) (h u _ (I.tok _) ru)
theorem getmeth_ok {m : Str} {g : Addr} {pl : Sem Bool} {Q : Value × List Value → Shared → Prop} (I : Inv X pins σ H s) (e : H a = some (.ins C dx fs)) (c : Cls X.K C) (k : Meth X.K C m g) (l : fs.lookup m = none)
  (h : Q (.ref g, [.ref a]) s) : wpAny (model X.prog X.w) A (getMethod (.ref a) m pl) Q E s := by
 obtain ⟨mA, O, r, _, _, _⟩ := ins_get I.hok e
 have hn : mA m = none := RelO.none_of (by rw [← l]; exact r m)
 exact get_meth I.kIn O (c.get m) k.at_ k.fn hn h
theorem setattr_ok {y : V} {u : Value} {Q : Unit → Shared → Prop} (I : Inv X pins σ H s) (e : H a = some (.ins C dx fs)) (c : Cls X.K C) (n : NoAttr X.K C f) (hl : fs.length < 1000) (ry : RelV y u)
  (h : ∀ s', Inv X pins σ (upd H a (.ins C dx (putF f y fs))) s' → Q () s') : wpAny (model X.prog X.w) A (setAttr (.ref a) f u) Q E s := by
 obtain ⟨mA, O, r, wi, _, ho⟩ := ins_get I.hok e
 have hz : (fs.map (·.1)).length ≤ sizeLine := by rw [List.length_map, sizeLine_eq]; omega
 refine set_map I.kIn O c.sa c.po n.taker c.hd wi hz fun h' O' sb => h _ ?_
 have hd : ∃ o, h'.get? dx = some o := let ⟨o, _, _, e', _⟩ := O'.ns; ⟨o, e'⟩
 refine I.write (x := a) (e := dx) (by rw [e]; exact True.intro) (.inr ho) (fun b q hb z => (sb.2 b hb).trans z) hd ?_
 refine ⟨by rw [upd_ne O.ne]; exact ho, ?_, O.ne, O'.obj, _, O'.ns, fun g => ?_, fun g hg => ?_⟩
 ·have := length_putF f y fs; omega
 ·show RelO ((putF f y fs).lookup g) (if g = f then some u else mA g)
  rw [lookup_putF]
  by_cases q : g = f
  ·rw [if_pos q, if_pos q]; exact ry
  ·rw [if_neg q, if_neg q]; exact r g
 ·by_cases q : g = f
  ·rw [q]; exact (keys_putF f y fs).1
  ·refine (keys_putF f y fs).2 g (wi g fun z => hg ?_)
   show (if g = f then some u else mA g) = none
   rw [if_neg q]; exact z
theorem Inv.made (I : Inv X pins σ H s) : Inv X pins σ (upd (upd H s.heap.objs.size (.own (s.heap.objs.size + 1))) (s.heap.objs.size + 1) (.ins C s.heap.objs.size []))
  { s with heap := (s.heap.push PySem.W.emptyDict).push (PySem.W.instObj C s.heap.objs.size) } := by
 have e1 : (s.heap.push PySem.W.emptyDict).get? s.heap.objs.size = some PySem.W.emptyDict := Heap.get?_push_size s.heap rfl
 have e2 : ((s.heap.push PySem.W.emptyDict).push (PySem.W.instObj C s.heap.objs.size)).get? (s.heap.objs.size + 1) = some (PySem.W.instObj C s.heap.objs.size) := by
  have := Heap.get?_push_size (s.heap.push PySem.W.emptyDict) (o := PySem.W.instObj C s.heap.objs.size) rfl
  rwa [Heap.size_push] at this
 have e3 : (s.heap.push PySem.W.emptyDict).Ns s.heap.objs.size (fun _ => none) := ⟨PySem.W.emptyDict, #[], _, e1, rfl, (fun e he => absurd he (by simp)), fun _ => rfl⟩
 have I1 := I.laid (a := s.heap.objs.size) (o := .own (s.heap.objs.size + 1)) (h' := s.heap.push PySem.W.emptyDict) (t' := s.toks) (fun b u q => Heap.get?_push_of_some _ q) (Nat.le_refl _) ⟨_, e1⟩
 refine I1.laid (a := s.heap.objs.size + 1) (o := .ins C s.heap.objs.size []) (t' := s.toks) (fun b u q => Heap.get?_push_of_some _ q) (Nat.le_of_eq (Heap.size_push _ _)) ?_
 have ne : s.heap.objs.size ≠ s.heap.objs.size + 1 := Nat.ne_of_lt (Nat.lt_succ_self _)
 refine ⟨by rw [upd_ne ne, upd_same], Nat.zero_le _, ne, e2, fun _ => none, (Heap.Ns1.of_empty e3).at fun o q => Heap.get?_push_of_some _ q, fun _ => True.intro, fun y hy => absurd rfl hy⟩
theorem attr_of {prog : Program} {w : World} {env : Env} {e : Expr} {f : Str} {pos : Pos} {s : Shared} {Q : Value → Shared → Prop} (hb : attributeBase e f env (eval e env) = eval e env)
  (h : wpAny (model prog w) A (eval e env) (fun o s₁ => wpAny (model prog w) A (getAttr o f true) Q E s₁) E s) : wpAny (model prog w) A (eval (.Attribute e f pos) env) Q E s :=
 Attribute_any_ h (by rw [arm_eval_Attribute, hb])
end
def tFld (K : PySem.W.Frag) (ta : TE) (f : Str) : TE := fun σ H Q => ta σ H fun x H1 => ∃ a C dx fs v, x = .ref a ∧ H1 a = some (.ins C dx fs) ∧ Cls K C ∧ NoAttr K C f ∧ fs.lookup f = some v ∧ Q v H1
def sFld (K : PySem.W.Frag) (ta tv : TE) (f : Str) : TS := fun D σ H => tv σ H fun y H1 => ta σ H1 fun x H2 => ∃ a C dx fs, x = .ref a ∧ H2 a = some (.ins C dx fs) ∧ Cls K C ∧ NoAttr K C f ∧ fs.length < 1000 ∧
 D.nx σ (upd H2 a (.ins C dx (putF f y fs)))
section
variable {X : Cx} {o e value : Expr} {f : Str} {pos pos' tpos : Pos} {ta tv : TE}
theorem pe_fld (he : PE X e ta) (hb : attributeBase e f X.env (eval e X.env) = eval e X.env) : PE X (.Attribute e f pos) (tFld X.K ta f) := by
 intro pins s σ H Q I h
 refine attr_of hb (thn (he pins s σ H _ I h) fun u s1 ⟨x, H1, I1, rx, a, C, dx, fs, v, ex, ea, c, n, l, q⟩ => ?_)
 subst ex
 obtain rfl : u = Value.ref a := rx
 exact getattr_ok I1 ea c n l fun u' s2 I2 ru => ⟨v, H1, I2, ru, q⟩
theorem ps_fld (ha : PE X o ta) (hv : PE X value tv) (hs : swapsWith value (some (.Attribute o f pos')) pos.line X.env = pure false) : PS X (.Assign [.Attribute o f pos'] value pos) (sFld X.K ta tv f) := by
 intro pins s σ H D I h
 refine plainObj_wpAny_Assign_Attribute (thn (hv pins s σ H _ I h) fun u s1 ⟨y, H1, I1, ry, q⟩ => thn (ha pins s1 σ H1 _ I1 q) fun ov s2 ⟨x, H2, I2, rx, a, C, dx, fs, ex, ea, c, n, l, q2⟩ => ?_) hs
 subst ex
 obtain rfl : ov = Value.ref a := rx
 exact setattr_ok I2 ea c n l ry fun s3 I3 => ⟨σ, _, I3, q2⟩
end
section
variable {X : Cx} {pins : List (Addr × Obj)} {σ : St} {H : Hp} {s : Shared} {A : Around} {E : Value → Shared → Prop} {Q : Value → Shared → Prop} {c : Value} {b : Bool}
inductive TyOf (K : PySem.W.Frag) (H : Hp) : V → Value → Prop where
 | non : TyOf K H .non (.type "NoneType")
 | bl (x : Bool) : TyOf K H (.bl x) (.type "bool")
 | int (i : Int) : TyOf K H (.int i) (.type "int")
 | str (x : Str) : TyOf K H (.str x) (.type "str")
 | flt (x : UInt64) : TyOf K H (.flt x) (.type "float")
 | lst {a : Addr} {xs : List V} (e : H a = some (.lst xs)) : TyOf K H (.ref a) (.type "list")
 | frz {a : Addr} {o : Obj} {xs : List V} (e : H a = some (.frz o (.lst xs))) : TyOf K H (.ref a) (.type "list")
 | tup {a : Addr} {xs : List V} (e : H a = some (.tup xs)) : TyOf K H (.ref a) (.type "tuple")
 | dK {a : Addr} {kvs : List (Key × V)} (e : H a = some (.dK kvs)) : TyOf K H (.ref a) (.type "dict")
 | dT {a : Addr} {kvs : List (List Key × V)} (e : H a = some (.dT kvs)) : TyOf K H (.ref a) (.type "dict")
 | ins {a C dx : Addr} {fs : List (Str × V)} (e : H a = some (.ins C dx fs)) (cl : Cls K C) (ha : PySem.W.findIn K (.ref C) "__class__" = some (some (.builtin "object.__class__")))
   (hn : PySem.W.specialIn K (.builtin "object.__class__") "__get__" = some (some (.builtin "getset_descriptor.__get__"))) (htk : PySem.W.takesIn K (.builtin "object.__class__") = some true)
   (hm : PySem.W.mroIn K C (.type "object") = some true) : TyOf K H (.ref a) (.ref C)
theorem isinst_ok {x : V} {u t : Value} (I : Inv X pins σ H s) (rx : RelV x u) (ty : TyOf X.K H x t) (e : PySem.W.kitOne X.K t c = some b) (h : ∀ tk, Q (.bool b) { s with toks := tk }) :
  wpAny (model X.prog X.w) A (call (.builtin "isinstance") [u, c]) Q E s := by
 cases ty with
 | non => cases (show u = Value.none from rx); exact PySem.W.kia_one PySem.W.kitx_none I.kIn True.intro e (fun z => nomatch z) h
 | bl y => cases (show u = Value.bool y from rx); exact PySem.W.kia_one PySem.W.kitx_bool I.kIn True.intro e (fun z => nomatch z) h
 | int i => obtain ⟨t, q⟩ := (show ∃ t, u = Value.int i t from rx); cases q; exact PySem.W.kia_one PySem.W.kitx_int I.kIn True.intro e (fun z => nomatch z) h
 | str y => obtain ⟨t, q⟩ := (show ∃ t, u = Value.str y t from rx); cases q; exact PySem.W.kia_one PySem.W.kitx_str I.kIn True.intro e (fun z => nomatch z) h
 | flt y => obtain ⟨t, q⟩ := (show ∃ t, u = Value.float y t from rx); cases q; exact PySem.W.kia_one PySem.W.kitx_float I.kIn True.intro e (fun z => nomatch z) h
 | @lst a xs ea =>
  cases (show u = Value.ref a from rx)
  obtain ⟨_, _, n, _, h1⟩ := (show ObjOk X.prog X.w H s.heap a (.lst xs) from I.hok a _ ea)
  exact PySem.W.kia_one PySem.W.kitx_list I.kIn ⟨_, h1, rfl⟩ e (fun z => nomatch z) h
 | @frz a ob xs ea =>
  cases (show u = Value.ref a from rx)
  obtain ⟨_, _, _, n, _, h1⟩ := (show ObjOk X.prog X.w H s.heap a (.frz ob (.lst xs)) from I.hok a _ ea)
  exact PySem.W.kia_one PySem.W.kitx_list I.kIn ⟨_, h1, rfl⟩ e (fun z => nomatch z) h
 | @tup a xs ea =>
  cases (show u = Value.ref a from rx)
  obtain ⟨_, _, _, p⟩ := (show ObjOk X.prog X.w H s.heap a (.tup xs) from I.hok a _ ea)
  obtain ⟨o, h1, h2, _⟩ := p
  exact PySem.W.kia_one PySem.W.kitx_tuple I.kIn ⟨o, h1, h2⟩ e (fun z => nomatch z) h
 | @dK a kvs ea =>
  cases (show u = Value.ref a from rx)
  obtain ⟨_, _, vs, _, p⟩ := (show ObjOk X.prog X.w H s.heap a (.dK kvs) from I.hok a _ ea)
  obtain ⟨o, es, ep, h1, h2, _⟩ := p
  exact PySem.W.kia_one PySem.W.kitx_dict I.kIn ⟨o, h1, h2.1⟩ e (fun z => nomatch z) h
 | @dT a kvs ea =>
  cases (show u = Value.ref a from rx)
  obtain ⟨_, _, xs, _, o, es, ep, h1, h2, _⟩ := (show ObjOk X.prog X.w H s.heap a (.dT kvs) from I.hok a _ ea)
  exact PySem.W.kia_one PySem.W.kitx_dict I.kIn ⟨o, h1, h2.1⟩ e (fun z => nomatch z) h
 | @ins a C dx fs ea cl ha hn htk hm =>
  cases (show u = Value.ref a from rx)
  obtain ⟨mA, O, _⟩ := ins_get I.hok ea
  obtain ⟨od, J, _⟩ := O.look
  exact PySem.W.kia_one (PySem.W.kitx_own (cl.get _) cl.hd ha hn htk hm) I.kIn J e (fun z => nomatch z) h
end
end L2
namespace L2
open PySem PySem.Spec PyProof.Rows
structure Room (k : Nat) (A : Around) : Prop where
 hd : A.handled = none
 dp : A.depth + 3 * k + 5 < recursionLimit
 un : A.units + 16 * k + 200 < cLine
theorem Room.mono {j k : Nat} {A : Around} (r : Room k A) (h : j ≤ k) : Room j A := ⟨r.hd, by have := r.dp; omega, by have := r.un; omega⟩
theorem Room.deeper {k : Nat} {A : Around} (r : Room (k + 1) A) (env : Env) : Room k (A.deeper env) :=
 ⟨r.hd, by have := r.dp; show A.depth + 1 + 3 * k + 5 < _; omega, by have := r.un; show A.units + 3 + 16 * k + 200 < _; omega⟩
theorem make_depth {A : Around} {C : Addr} {us : List Value} {kw : List (Str × Value)} : (A.under (.builtin "type.__call__" ⟨.ref C :: us, kw⟩)).depth = A.depth + 1 := by
 first | rfl | simp [Around.under, Code.weight, Code.isCreation, Code.isGuard, Code.isCaller, Code.frames, Code.isFrame, guardIds]
theorem make_units {A : Around} {C : Addr} {us : List Value} {kw : List (Str × Value)} : (A.under (.builtin "type.__call__" ⟨.ref C :: us, kw⟩)).units = A.units + 1 := by
 first | rfl | simp [Around.under, Code.cUnits, Code.frames, Code.isFrame]
theorem Room.make {k : Nat} {A : Around} (r : Room (k + 1) A) (C : Addr) (us : List Value) (kw : List (Str × Value)) : Room k (A.under (.builtin "type.__call__" ⟨.ref C :: us, kw⟩)) :=
 ⟨r.hd, by have := r.dp; rw [make_depth]; omega, by have := r.un; rw [make_units]; omega⟩
theorem Room.depth {k : Nat} {A : Around} (r : Room k A) : A.depth < recursionLimit := by have := r.dp; omega
theorem Room.units {k : Nat} {A : Around} (r : Room k A) : A.units + 64 < cLine := by have := r.un; omega
def tNil : TA := fun _ H Q => Q [] H
def tCons (ta : TE) (tr : TA) : TA := fun σ H Q => ta σ H fun x H1 => tr σ H1 fun xs H2 => Q (x :: xs) H2
section
variable {X : Cx} {e : Expr} {es : List Expr} {te : TE} {t : TA} {pos : Pos}
theorem pa_nil : PA X [] tNil := fun _ _ _ _ H Q I h => Calls.spliced_nil ⟨[], H, I, .nil, h⟩
theorem pa_cons (ha : PE X e te) (hr : PA X es t) (hs : starEach (e :: es) X.env = (false, eval e X.env) :: starEach es X.env := by rfl) : PA X (e :: es) (tCons te t) := by
 intro pos pins s σ H Q I h
 rw [hs]
 show wpAny _ _ (spliced ((false, eval e X.env) :: backTo pos (starEach es X.env))) _ _ s
 refine Calls.spliced_cons (thn (ha pins s σ H _ I h) fun u s1 ⟨x, H1, I1, r1, q1⟩ => ?_)
 exact thn (hr pos pins s1 σ H1 _ I1 q1) fun us s2 ⟨xs, H2, I2, r2, q2⟩ => ⟨x :: xs, H2, I2, .cons r1 r2, q2⟩
end
abbrev Sp := List V → Hp → VK → XK → Prop
abbrev CXT := List Env → Hp → Shared → XK → Value → Shared → Prop
structure Env0 (P : Program) (w : World) (K : PySem.W.Frag) (mg : Str → Option Value) (base : Heap) (A : Around) (outer : List Env) (s : Shared) (H : Hp) : Prop where
 frames : A.frames = some outer
 mod : Mod K mg base
 bs : ∀ b o, base.get? b = some o → s.heap.get? b = some o ∧ H b = none
 bsz : base.objs.size ≤ s.heap.objs.size
 funs : s.heap.FunFrames base outer
 frf : ∀ b ∈ frs outer, H b = none
 hok : HOk P w H s.heap
 bare : AllBare s.gens
def CE (outer : List Env) (P : Program) (w : World) (H : Hp) (s : Shared) (Q : VK) (u : Value) (s' : Shared) : Prop :=
 ∃ v H', s'.os = s.os ∧ AllBare s'.gens ∧ Un (frs outer) [] H H' s.heap s'.heap ∧ HOk P w H' s'.heap ∧ RelV v u ∧ Q v H'
def CR (CX : CXT) (outer : List Env) (P : Program) (w : World) (H : Hp) (s : Shared) (Q : VK) (E : XK) (r : Result) (s' : Shared) : Prop :=
 match r with
 | .ok (.ret u) => CE outer P w H s Q u s'
 | .ok _ => False
 | .error e => CX outer H s E e s'
structure FnOk (P : Program) (w : World) (K : PySem.W.Frag) (mg : Str → Option Value) (base : Heap) (CX : CXT) (k : Nat) (f : Addr) (fd : FuncData) (ps : List Str) (sp : Sp) : Prop where
 len : ∀ vs H Q E, sp vs H Q E → vs.length = ps.length
 run : ∀ (A : Around) (outer : List Env) (s : Shared) (H : Hp) (args : Args) (us : List Value) (vs : List V) (Q : VK) (E : XK), Room k A → Env0 P w K mg base A outer s H → BindsTo s fd args (ps.zip us) → Vals vs us → sp vs H Q E →
  codeAny (model P w) A (.call (.ref f) args) (CR CX outer P w H s Q E) s
theorem FnOk.mono {P : Program} {w : World} {K : PySem.W.Frag} {mg : Str → Option Value} {base : Heap} {CX : CXT} {j k : Nat} {f : Addr} {fd : FuncData} {ps : List Str} {sp : Sp} (F : FnOk P w K mg base CX j f fd ps sp) (h : j ≤ k) :
  FnOk P w K mg base CX k f fd ps sp := ⟨F.len, fun A outer s H args us vs Q E hr => F.run A outer s H args us vs Q E (hr.mono h)⟩
theorem FnOk.imp {P : Program} {w : World} {K : PySem.W.Frag} {mg : Str → Option Value} {base : Heap} {CX : CXT} {k : Nat} {f : Addr} {fd : FuncData} {ps : List Str} {sp sp' : Sp} (F : FnOk P w K mg base CX k f fd ps sp)
  (h : ∀ vs H Q E, sp' vs H Q E → sp vs H Q E) : FnOk P w K mg base CX k f fd ps sp' :=
 ⟨fun vs H Q E q => F.len vs H Q E (h _ _ _ _ q), fun A outer s H args us vs Q E hr he hb hv hs => F.run A outer s H args us vs Q E hr he hb hv (h _ _ _ _ hs)⟩
theorem Env0.make {P : Program} {w : World} {K : PySem.W.Frag} {mg : Str → Option Value} {base : Heap} {A : Around} {outer : List Env} {s : Shared} {H : Hp} (e : Env0 P w K mg base A outer s H) (C : Addr) (us : List Value) (kw : List (Str × Value)) :
  Env0 P w K mg base (A.under (.builtin "type.__call__" ⟨.ref C :: us, kw⟩)) outer s H := ⟨by first | exact e.frames | (simpa [Around.under, Code.envs, Code.isFrame, pushEnvs] using e.frames), e.mod, e.bs, e.bsz, e.funs, e.frf, e.hok, e.bare⟩
section
variable {X : Cx} {pins : List (Addr × Obj)} {σ : St} {H : Hp} {s s' : Shared}
theorem Inv.env0 (I : Inv X pins σ H s) : Env0 X.prog X.w X.K X.mg X.base X.A X.stack s H :=
 ⟨I.ok.frames, I.ok.mod, I.bs, Nat.le_trans I.ok.bsz I.sz, I.stack, I.stkFree, I.hok, I.bare⟩
theorem Inv.after {Q : VK} {u : Value} (I : Inv X pins σ H s) (h : CE X.stack X.prog X.w H s Q u s') : EP X pins σ Q u s' := by
 obtain ⟨v, H', os, bare, un, hok, r, q⟩ := h
 obtain ⟨hh, g, d, t, os'⟩ := s'
 obtain rfl : os' = s.os := os
 exact ⟨v, H', I.call (h' := hh) (g' := g) (d' := d) (t' := t) (ch := []) un hok bare (fun b z => absurd z (by simp)), r, q⟩
end
def tCall (sp : Sp) (dvs : List V) (E : XK) (t : TA) : TE := fun σ H Q => t σ H fun vs H1 => sp (vs ++ dvs) H1 Q E
def tMeth (C : Addr) (m : Str) (sp : Sp) (dvs : List V) (E : XK) (ta : TE) (t : TA) : TE := fun σ H Q => ta σ H fun x H1 => ∃ a dx fs, x = .ref a ∧ H1 a = some (.ins C dx fs) ∧ fs.lookup m = none ∧
 t σ H1 fun vs H2 => sp (x :: (vs ++ dvs)) H2 Q E
def tMake (C : Addr) (sp : Sp) (dvs : List V) (E : XK) (t : TA) : TE := fun σ H Q => t σ H fun vs H1 => ∀ x dx, H1 x = none → H1 dx = none → dx ≠ x →
 sp (.ref x :: (vs ++ dvs)) (upd (upd H1 dx (.own x)) x (.ins C dx [])) (fun v H2 => v = .non ∧ Q (.ref x) H2) E
def Binds (K : PySem.W.Frag) (fd : FuncData) (ps : List Str) (ds : List Value) : Prop :=
 ∀ (s : Shared) (us : List Value), K.In s.heap → (us ++ ds).length = ps.length → BindsTo s fd ⟨us, []⟩ (ps.zip (us ++ ds))
theorem Binds.all {K : PySem.W.Frag} {fd : FuncData} {ps : List Str} (h : ∀ us : List Value, us.length = ps.length → bindArgs fd ⟨us, []⟩ = pure (ps.zip us)) : Binds K fd ps [] := fun s us _ hl => by
 rw [List.append_nil] at hl ⊢
 exact .of_eq (h us hl)
def Passes (CX : CXT) (X : Cx) (E : XK) : Prop := ∀ (pins : List (Addr × Obj)) (σ : St) (H : Hp) (s : Shared) (e : Value) (s' : Shared), Inv X pins σ H s → CX X.stack H s E e s' → X.xe e s'
section
variable {X : Cx} {CX : CXT} {k : Nat} {f C : Addr} {fd : FuncData} {ps : List Str} {sp : Sp} {dvs : List V} {ds : List Value} {E : XK} {x m : Str} {p pos apos : Pos} {e o : Expr} {es : List Expr} {ta : TE} {t : TA}
theorem run_fn {pins : List (Addr × Obj)} {σ : St} {H : Hp} {s : Shared} {Q : VK} {us : List Value} {vs : List V} (F : FnOk X.prog X.w X.K X.mg X.base CX k f fd ps sp) (hr : Room k X.A) (hb : Binds X.K fd ps ds) (hd : Vals dvs ds) (hx : Passes CX X E)
  (I : Inv X pins σ H s) (r : Vals vs us) (h : sp (vs ++ dvs) H Q E) : wpAny (model X.prog X.w) X.A (call (.ref f) us) (EP X pins σ Q) X.xe s := by
 have r2 : Vals (vs ++ dvs) (us ++ ds) := r.append hd
 have hl : (us ++ ds).length = ps.length := by rw [← r2.length]; exact F.len _ _ _ _ h
 refine wpAny_call (codeAny_mono (F.run X.A X.stack s H ⟨us, []⟩ (us ++ ds) (vs ++ dvs) Q E hr I.env0 (hb s us I.kIn hl) r2 h) fun r s' hq => ?_)
 cases r with
 | error e => exact hx pins σ H s e s' I hq
 | ok fl =>
  cases fl with
  | ret u => exact I.after hq
  | next => exact False.elim hq
  | brk => exact False.elim hq
  | cont => exact False.elim hq
theorem pe_call (F : FnOk X.prog X.w X.K X.mg X.base CX k f fd ps sp) (hr : Room k X.A) (hg : Gl X x) (hm : X.mg x = some (.ref f)) (hk : PySem.W.keepIn X.K (.ref f) = true) (hb : Binds X.K fd ps ds) (hd : Vals dvs ds) (hx : Passes CX X E)
  (ha : PA X (e :: es) t) (hdb : (x == ("__debug__" : Str)) = false := by decide) (he : starEach (e :: es) X.env = (false, eval e X.env) :: starEach es X.env := by rfl) (hpl : (backTo pos (starEach es X.env)).any (·.1) = false := by rfl) :
  PE X (.Call (.Name x p) (e :: es) [] pos) (tCall sp dvs E t) := by
 intro pins s σ H Q I h
 refine wpAny_Call_Name_kw (ld_glob I hg hm ?_ hdb)
 refine PySem.W.callWith_K (h₀ := X.base) I.ok.mod.kin hk (thn (ha pos pins s σ H _ I h) fun us s1 ⟨vs, H1, I1, r, q⟩ => ⟨I1.kIn, ?_⟩) he hpl
 exact run_fn F hr hb hd hx I1 r q
theorem pe_meth {pl : Sem Bool} (he : PE X o ta) (c : Cls X.K C) (hm : Meth X.K C m f) (F : FnOk X.prog X.w X.K X.mg X.base CX k f fd ps sp) (hr : Room k X.A) (hb : Binds X.K fd ps ds) (hd : Vals dvs ds) (hx : Passes CX X E) (ha : PA X (e :: es) t)
  (hst : starEach (e :: es) X.env = (false, eval e X.env) :: starEach es X.env := by rfl) (hpl : (backTo pos (starEach es X.env)).any (·.1) = false := by rfl)
  (ht : eval (.Call (.Attribute o m apos) (e :: es) [] pos) X.env = (do
   let ov ← eval o X.env
   standAt apos.atName
   let (f, first) ← holding [ov] (getMethod ov m pl)
   callWith pos f first (backTo pos (starEach (e :: es) X.env)) (backToKw pos (keywordEach [] X.env))) := by rfl) :
  PE X (.Call (.Attribute o m apos) (e :: es) [] pos) (tMeth C m sp dvs E ta t) := by
 intro pins s σ H Q I h
 refine PySem.W.methodCall_KW (pl := pl) (thn (he pins s σ H _ I h) fun u s1 ⟨x, H1, I1, rx, a, dx, fs, ex, ea, l, q⟩ => ?_) ht
 subst ex
 obtain rfl : u = Value.ref a := rx
 refine getmeth_ok I1 ea c hm l ?_
 refine PySem.W.callWith_K (first := [.ref a]) (h₀ := X.base) I.ok.mod.kin hm.kp (thn (ha pos pins s1 σ H1 _ I1 q) fun us s2 ⟨vs, H2, I2, r, q2⟩ => ⟨I2.kIn, ?_⟩) hst hpl
 exact run_fn (us := .ref a :: us) (vs := .ref a :: vs) F hr hb hd hx I2 (.cons rfl r) q2
theorem pe_meth0 {pl : Sem Bool} (he : PE X o ta) (c : Cls X.K C) (hm : Meth X.K C m f) (F : FnOk X.prog X.w X.K X.mg X.base CX k f fd ps sp) (hr : Room k X.A) (hb : Binds X.K fd ps ds) (hd : Vals dvs ds) (hx : Passes CX X E)
  (ht : eval (.Call (.Attribute o m apos) [] [] pos) X.env = (do
   let ov ← eval o X.env
   standAt apos.atName
   let (f, first) ← holding [ov] (getMethod ov m pl)
   callWith pos f first (backTo pos (starEach [] X.env)) (backToKw pos (keywordEach [] X.env))) := by rfl) :
  PE X (.Call (.Attribute o m apos) [] [] pos) (tMeth C m sp dvs E ta tNil) := by
 intro pins s σ H Q I h
 refine PySem.W.methodCall_KW (pl := pl) (thn (he pins s σ H _ I h) fun u s1 ⟨x, H1, I1, rx, a, dx, fs, ex, ea, l, q⟩ => ?_) ht
 subst ex
 obtain rfl : u = Value.ref a := rx
 refine getmeth_ok I1 ea c hm l ?_
 exact PySem.W.callWith_K0 (first := [.ref a]) I1.kIn hm.kp (run_fn (us := [.ref a]) (vs := [.ref a]) F hr hb hd hx I1 (.cons rfl .nil) q)
structure Mk (K : PySem.W.Frag) (C f : Addr) : Prop where
 makes : PySem.W.makesIn K C = true
 init : PySem.W.findIn K (.ref C) "__init__" = some (some (.ref f))
 fn : PySem.W.isFn K (.ref f) = true
 kp : PySem.W.keepIn K (.ref C) = true
theorem run_make {pins : List (Addr × Obj)} {σ : St} {H : Hp} {s : Shared} {Q : VK} {us : List Value} {vs : List V} (M : Mk X.K C f) (F : FnOk X.prog X.w X.K X.mg X.base CX k f fd ps sp) (hr : Room (k + 1) X.A) (hb : Binds X.K fd ps ds) (hd : Vals dvs ds)
  (hx : Passes CX X E) (I : Inv X pins σ H s) (r : Vals vs us)
  (h : ∀ x dx, H x = none → H dx = none → dx ≠ x → sp (.ref x :: (vs ++ dvs)) (upd (upd H dx (.own x)) x (.ins C dx [])) (fun v H2 => v = .non ∧ Q (.ref x) H2) E) :
  wpAny (model X.prog X.w) X.A (call (.ref C) us) (EP X pins σ Q) X.xe s := by
 have hq := h (s.heap.objs.size + 1) s.heap.objs.size (I.hok.fresh (Nat.le_succ _)) (I.hok.fresh (Nat.le_refl _)) (Nat.ne_of_lt (Nat.lt_succ_self _))
 have I2 := Inv.made (C := C) I
 have r2 : Vals (V.ref (s.heap.objs.size + 1) :: (vs ++ dvs)) (Value.ref (s.heap.objs.size + 1) :: (us ++ ds)) := .cons rfl (r.append hd)
 have hl : (Value.ref (s.heap.objs.size + 1) :: us ++ ds).length = ps.length := by
  have e := r2.length
  rw [F.len _ _ _ _ hq] at e
  exact e.symm
 refine wpAny_call (make_map (f := f) I.kIn M.makes M.init (beq_iff_eq.mp M.fn) (codeAny_mono (F.run _ X.stack _ _ ⟨Value.ref (s.heap.objs.size + 1) :: us, []⟩ (Value.ref (s.heap.objs.size + 1) :: (us ++ ds)) _ _ E (hr.make C us [])
  (I2.env0.make C us []) (hb _ (Value.ref (s.heap.objs.size + 1) :: us) I2.kIn hl) r2 hq) fun r s' hq' => ?_))
 cases r with
 | error e => exact hx pins σ _ _ e s' I2 hq'
 | ok fl =>
  cases fl with
  | ret u =>
   obtain ⟨v, H', I3, rv, ev, q3⟩ := I2.after hq'
   subst ev
   exact ⟨rv, ⟨V.ref (s.heap.objs.size + 1), H', I3, rfl, q3⟩⟩
  | next => exact False.elim hq'
  | brk => exact False.elim hq'
  | cont => exact False.elim hq'
theorem pe_make (M : Mk X.K C f) (F : FnOk X.prog X.w X.K X.mg X.base CX k f fd ps sp) (hr : Room (k + 1) X.A) (hg : Gl X x) (hm : X.mg x = some (.ref C)) (hb : Binds X.K fd ps ds) (hd : Vals dvs ds) (hx : Passes CX X E)
  (ha : PA X (e :: es) t) (hdb : (x == ("__debug__" : Str)) = false := by decide) (he : starEach (e :: es) X.env = (false, eval e X.env) :: starEach es X.env := by rfl) (hpl : (backTo pos (starEach es X.env)).any (·.1) = false := by rfl) :
  PE X (.Call (.Name x p) (e :: es) [] pos) (tMake C sp dvs E t) := by
 intro pins s σ H Q I h
 refine wpAny_Call_Name_kw (ld_glob I hg hm ?_ hdb)
 refine PySem.W.callWith_K (h₀ := X.base) I.ok.mod.kin M.kp (thn (ha pos pins s σ H _ I h) fun us s1 ⟨vs, H1, I1, r, q⟩ => ⟨I1.kIn, ?_⟩) he hpl
 exact run_make M F hr hb hd hx I1 r q
end
section
variable {X : Cx} {CX : CXT} {k : Nat} {f C : Addr} {fd : FuncData} {ps ks : List Str} {sp : Sp} {E : XK} {x m : Str} {p pos apos kpos : Pos} {e o : Expr} {es : List Expr} {kws : List Keyword} {te ta : TE} {t tk : TA} {nm : Option Str}
structure KBinds (K : PySem.W.Frag) (fd : FuncData) (ps ks : List Str) (g : List Value → List Value → List Value) (gV : List V → List V → List V) : Prop where
 to : ∀ (s : Shared) (us ws : List Value), K.In s.heap → (g us ws).length = ps.length → BindsTo s fd ⟨us, ks.zip ws⟩ (ps.zip (g us ws))
 rel : ∀ {vs : List V} {us : List Value} {zs : List V} {ws : List Value}, Vals vs us → Vals zs ws → Vals (gV vs zs) (g us ws)
variable {g : List Value → List Value → List Value} {gV : List V → List V → List V}
end
structure FnScope (N P : List Str) (sc : Scope) : Prop where
 kind : sc.kind = .function
 co : sc.isCoroutine = false
 gen : sc.isGenerator = false
 nd : N.Nodup
 pre : N.take P.length = P
 par : ∀ x ∈ P, sc.names.lookup x = some .local ∨ sc.names.lookup x = some .cell
 nofree : ∀ y ∈ sc.names, y.2 ≠ .free
theorem bindL_out {kindOf : Str → Option NameKind} {x : Str} : ∀ {binds : List (Str × Value)} {m : Str → Option Value}, (∀ v, (x, v) ∉ binds) → bindL kindOf binds m x = m x
 | [], _, _ => rfl
 | (n, v) :: r, m, h => by
  unfold bindL
  rw [bindL_out fun w hw => h w (List.mem_cons_of_mem _ hw)]
  split
  ·have : x ≠ n := by rintro rfl; exact h v List.mem_cons_self
   simp [this]
  ·rfl
theorem bindC_out {kindOf : Str → Option NameKind} {x : Str} : ∀ {binds : List (Str × Value)} {m : Str → Option Value}, (∀ v, (x, v) ∉ binds) → bindC kindOf binds m x = m x
 | [], _, _ => rfl
 | (n, v) :: r, m, h => by
  unfold bindC
  rw [bindC_out fun w hw => h w (List.mem_cons_of_mem _ hw)]
  split
  ·rfl
  ·have : x ≠ n := by rintro rfl; exact h v List.mem_cons_self
   simp [this]
theorem bindL_get {kindOf : Str → Option NameKind} {x : Str} {v : Value} : ∀ {P : List Str} {vs : List Value} {i : Nat} {m : Str → Option Value}, P.Nodup → P[i]? = some x → vs[i]? = some v → kindOf x = some .local →
  bindL kindOf (P.zip vs) m x = some v
 | [], _, _, _, _, h, _, _ => by simp at h
 | _ :: _, [], _, _, _, _, h, _ => by simp at h
 | p :: P, w :: vs, 0, m, nd, h1, h2, hk => by
  simp at h1 h2; subst h1; subst h2
  show bindL kindOf ((p, w) :: P.zip vs) m p = _
  unfold bindL
  rw [bindL_out fun v hv => (List.nodup_cons.mp nd).1 (List.of_mem_zip hv).1, if_pos hk]
  simp
 | p :: P, w :: vs, i + 1, m, nd, h1, h2, hk => by
  show bindL kindOf ((p, w) :: P.zip vs) m x = _
  unfold bindL
  exact bindL_get (i := i) (List.nodup_cons.mp nd).2 (by simpa using h1) (by simpa using h2) hk
theorem bindC_get {kindOf : Str → Option NameKind} {x : Str} {v : Value} : ∀ {P : List Str} {vs : List Value} {i : Nat} {m : Str → Option Value}, P.Nodup → P[i]? = some x → vs[i]? = some v → kindOf x ≠ some .local →
  bindC kindOf (P.zip vs) m x = some v
 | [], _, _, _, _, h, _, _ => by simp at h
 | _ :: _, [], _, _, _, _, h, _ => by simp at h
 | p :: P, w :: vs, 0, m, nd, h1, h2, hk => by
  simp at h1 h2; subst h1; subst h2
  show bindC kindOf ((p, w) :: P.zip vs) m p = _
  unfold bindC
  rw [bindC_out fun v hv => (List.nodup_cons.mp nd).1 (List.of_mem_zip hv).1, if_neg hk]
  simp
 | p :: P, w :: vs, i + 1, m, nd, h1, h2, hk => by
  show bindC kindOf ((p, w) :: P.zip vs) m x = _
  unfold bindC
  exact bindC_get (i := i) (List.nodup_cons.mp nd).2 (by simpa using h1) (by simpa using h2) hk
def start (N : List Str) (vs : List V) : St := vs.map some ++ List.replicate (N.length - vs.length) none
def cxOf (CX : CXT) (P : Program) (w : World) (K : PySem.W.Frag) (mg : Str → Option Value) (base : Heap) (N : List Str) (qual : Str) (scope : Scope) (f : Addr) (cd : Value) (A : Around) (outer : List Env) (s : Shared) (H : Hp) (E : XK) : Cx where
 prog := P
 w := w
 K := K
 mg := mg
 base := base
 A := A.deeper (envOfC qual scope s.heap.objs.size f cd)
 N := N
 s₀ := s
 H₀ := H
 env := envOfC qual scope s.heap.objs.size f cd
 outer := outer
 stack := envOfC qual scope s.heap.objs.size f cd :: outer
 ex := []
 calm := true
 fn := fun _ => true
 pn := []
 xe := fun e s' => wpAny (model P w) (A.deeper (envOfC qual scope s.heap.objs.size f cd)) (leaving (envOfC qual scope s.heap.objs.size f cd) e) (fun _ s'' => CX outer H s E e s'') (fun e' s'' => CX outer H s E e' s'') s'
theorem cell_has {sc : Scope} {n : Nat} {x : Str} (h : sc.names.lookup x = some .cell) : ∃ c, (cellsFrom n sc.names []).lookup x = some c := by
 have q := PySem.W.cellsFrom_some sc.names n [] (.inl h)
 exact Option.isSome_iff_exists.mp q
theorem inv_start {CX : CXT} {P : Program} {w : World} {K : PySem.W.Frag} {mg : Str → Option Value} {base : Heap} {N ps : List Str} {qual : Str} {scope : Scope} {f : Addr} {cd : Value} {A : Around} {outer : List Env} {s s1 : Shared} {H : Hp} {E : XK} {us : List Value} {vs : List V}
  (S : FnScope N ps scope) (hd : A.handled = none) (e0 : Env0 P w K mg base A outer s H) (hl : vs.length = ps.length) (r : Vals vs us)
  (x : InCallC s s.heap.objs.size (bindL (envOfC qual scope s.heap.objs.size f cd).kindOf (ps.zip us) fun _ => none) (cellsFrom (s.heap.objs.size + 1) scope.names []) (bindC (envOfC qual scope s.heap.objs.size f cd).kindOf (ps.zip us) fun _ => none) s1) :
  Inv (cxOf CX P w K mg base N qual scope f cd A outer s H E) [] (start N vs) H s1 := by
 have hpl : ps.length ≤ N.length := by have := congrArg List.length S.pre; rw [List.length_take] at this; omega
 obtain ⟨h1, tk, rfl, hk⟩ := x.done
 have noA : ∀ b : Addr, b ∉ (cxOf CX P w K mg base N qual scope f cd A outer s H E).ex := fun b z => absurd (show b ∈ ([] : List Addr) from z) (by simp)
 refine ⟨⟨e0.mod, S.kind, rfl, rfl, Nat.le_refl _, fun y z c h1 h2 => ?_, fun y hy => ?_, fun y c _ h => ?_, fun _ => hd, Around.frames_deeper e0.frames, .inr ⟨rfl, rfl⟩, fun b z => absurd z (noA b), e0.bs, e0.bsz, fun b _ _ => noA b, fun b z => absurd z (noA b), e0.funs, e0.frf⟩,
  rfl, e0.bare, Un.kept hk, ⟨_, x.toInCall.ns, fun i y v h1 h2 h3 => ?_⟩, fun y c h => ⟨_, x.cell y c h⟩, e0.hok.fresh (Nat.le_refl _), fun y c h => ?_, fun p hp => absurd (show p ∈ ([] : List (Addr × Obj)) from hp) (by simp), e0.hok.kept hk, ?_⟩
 ·exact name_of_addr x.apart (PySem.mem_of_lookup h1) (PySem.mem_of_lookup h2)
 ·have hy : scope.names.lookup y = some .cell ∨ scope.names.lookup y = some .free := hy
  rcases hy with hy | hy
  ·exact cell_has hy
  ·exact absurd rfl (S.nofree _ (PySem.mem_of_lookup hy))
 ·exact Nat.le_of_lt (x.above y c (PySem.mem_of_lookup h))
 ·have hi : i < vs.length := by
   unfold start at h2
   by_cases hi : i < vs.length
   ·exact hi
   ·rw [List.getElem?_append_right (by simpa using hi)] at h2
    rw [List.getElem?_replicate] at h2
    split at h2 <;> cases h2
  have ha : vs[i]? = some v := by
   unfold start at h2
   rw [List.getElem?_append_left (by simpa using hi), List.getElem?_map] at h2
   cases e : vs[i]? with
   | none => rw [e] at h2; cases h2
   | some a => rw [e] at h2; cases h2; rfl
  obtain ⟨u, hu, rv⟩ := r.get ha
  have hp : ps[i]? = some y := by
   rw [← S.pre, List.getElem?_take_of_lt (by omega)]; exact h1
  have ndP : ps.Nodup := by rw [← S.pre]; exact S.nd.sublist (List.take_sublist _ _)
  refine ⟨u, rv, ?_⟩
  rcases S.par y (List.mem_of_getElem? hp) with k | k
  ·exact .inl ⟨k, bindL_get ndP hp hu k⟩
  ·obtain ⟨c, e⟩ := cell_has (n := s.heap.objs.size + 1) k
   refine .inr ⟨.inl k, c, e, ?_⟩
   have q := x.cell y c e
   rw [bindC_get ndP hp hu (by show scope.names.lookup y ≠ _; rw [k]; decide)] at q
   exact q
 ·exact e0.hok.fresh (Nat.le_of_lt (x.above y c (PySem.mem_of_lookup h)))
 ·unfold start
  show _ = N.length
  rw [List.length_append, List.length_map, List.length_replicate]
  omega
theorem fn_of {CX : CXT} {P : Program} {w : World} {K : PySem.W.Frag} {mg : Str → Option Value} {base : Heap} {k : Nat} {f : Addr} {name qual : Str} {params : Arguments} {body : List Stmt} {scope : Scope} {dV kV doc pm cdv ct oc : Value} {an od : Option Addr}
  {osl : Array (Option Value)} {N ps : List Str} {sp : Sp} (lk : K.lookup f = some ⟨oc, od, .func (PySem.W.fnOf name qual params body scope dV kV doc pm an cdv ct), osl⟩) (hcd : PySem.W.codeIn K cdv qual = true) (S : FnScope N ps scope)
  (len : ∀ vs H Q E, sp vs H Q E → vs.length = ps.length)
  (hbody : ∀ (A : Around) (outer : List Env) (s : Shared) (H : Hp) (vs : List V) (Q : VK) (E : XK), Room k (A.deeper (envOfC qual scope s.heap.objs.size f cdv)) → sp vs H Q E →
   ∃ t, PSs (cxOf CX P w K mg base N qual scope f cdv A outer s H E) body t ∧ t { nx := fun _ H' => Q .non H', rt := Q } (start N vs) H) :
  FnOk P w K mg base CX (k + 1) f (PySem.W.fnOf name qual params body scope dV kV doc pm an cdv ct) ps sp := by
 refine ⟨len, fun A outer s H args us vs Q E hr e0 hb r hsp => ?_⟩
 have hl := len _ _ _ _ hsp
 have KX : K.In s.heap := e0.mod.kin.keeps fun b o e => (e0.bs b o e).1
 have lim : s.heap.NoLimit := e0.mod.nolimit.keeps fun b o e => (e0.bs b o e).1
 have hkind : ∀ y ∈ ps.zip us, scope.names.lookup y.1 = some .local ∨ (scope.names.lookup y.1 = some .cell ∧ ((cellsFrom (s.heap.objs.size + 1) scope.names []).lookup y.1).isSome = true) := fun ⟨n, v⟩ hy => by
  rcases S.par n (List.of_mem_zip hy).1 with q | q
  ·exact .inl q
  ·exact .inr ⟨q, PySem.W.cellsFrom_some _ _ _ (.inl q)⟩
 refine codeAny_call_function hr.depth (KX _ _ lk) rfl S.co S.gen rfl (PySem.W.codeRec_of KX hcd) (hb _ _ _ _ ?_)
 refine wpAny_newFunctionEnv_cells S.kind hkind fun env he s1 x => ?_
 subst he
 refine ⟨lim.keeps x.toInCall.keep, codeAny_func ?_⟩
 obtain ⟨t, ht, hq⟩ := hbody A outer s H vs Q E (hr.deeper _) hsp
 have I : Inv (cxOf CX P w K mg base N qual scope f cdv A outer s H E) [] (start N vs) H s1 := inv_start S hr.hd e0 hl r x
 refine wpAny_mono (ht [] s1 (start N vs) H _ I hq) (fun fl s' hs => ?_) fun e s' hs => hs
 have fin : ∀ {σ' : St} {H' : Hp} {v : V} {u : Value}, Inv (cxOf CX P w K mg base N qual scope f cdv A outer s H E) [] σ' H' s' → RelV v u → Q v H' → CE outer P w H s Q u s' :=
  fun {σ' H' v u} J rv q => ⟨v, H', J.os, J.bare, J.base, J.hok, rv, q⟩
 cases fl with
 | ret u =>
  obtain ⟨v, σ', H', J, rv, q⟩ := hs
  exact fin J rv q
 | next =>
  obtain ⟨σ', H', J, q⟩ := hs
  exact fin (v := V.non) (u := Value.none) J rfl q
 | brk =>
  obtain ⟨_, _, _, q⟩ := hs
  exact False.elim q
 | cont =>
  obtain ⟨_, _, _, q⟩ := hs
  exact False.elim q
end L2
namespace L2
open PySem PySem.Spec PyProof.Rows
section
variable {X : Cx} {x : Str} {p pos : Pos} {e : Expr} {es : List Expr} {t : TA} {id T : String} {r : List V → Hp → VK → Prop}
def tCB (r : List V → Hp → VK → Prop) (t : TA) : TE := fun σ H Q => t σ H fun vs H1 => r vs H1 Q
theorem pe_callB (hc : CallR X (.builtin id) r) (hg : Gl X x) (hm : X.mg x = none) (hv : bootBuiltins x = some (.builtin id)) (ha : PA X (e :: es) t) (hn : x ≠ "__name__" := by decide) (hdb : (x == ("__debug__" : Str)) = false := by decide)
  (he : starEach (e :: es) X.env = (false, eval e X.env) :: starEach es X.env := by rfl) (hpl : (backTo pos (starEach es X.env)).any (·.1) = false := by rfl) : PE X (.Call (.Name x p) (e :: es) [] pos) (tCB r t) := by
 intro pins s σ H Q I h
 refine wpAny_Call_Name_kw (ld_blt I hg hm hv ?_ hn hdb)
 exact PyProof.Rows.callWith_builtin1 (thn (ha pos pins s σ H _ I h) fun us s1 ⟨vs, H1, I1, r1, q1⟩ => hc pins s1 σ H1 vs us Q I1 r1 q1) he hpl
theorem pe_callTy (hc : CallR X (.type T) r) (hg : Gl X x) (hm : X.mg x = none) (hv : bootBuiltins x = some (.type T)) (ha : PA X (e :: es) t) (hn : x ≠ "__name__" := by decide) (hdb : (x == ("__debug__" : Str)) = false := by decide)
  (he : starEach (e :: es) X.env = (false, eval e X.env) :: starEach es X.env := by rfl) (hpl : (backTo pos (starEach es X.env)).any (·.1) = false := by rfl) : PE X (.Call (.Name x p) (e :: es) [] pos) (tCB r t) := by
 intro pins s σ H Q I h
 refine wpAny_Call_Name_kw (ld_blt I hg hm hv ?_ hn hdb)
 exact PyProof.Rows.callWith_type1 (thn (ha pos pins s σ H _ I h) fun us s1 ⟨vs, H1, I1, r1, q1⟩ => hc pins s1 σ H1 vs us Q I1 r1 q1) he hpl
end
end L2
namespace HT
open PySem PyProof.Rows
section
open PySem.SeqAt
open PySem.AutoSeq1 (wpAny_loadPart')
open PySem.MeetsSeq PySem.MeetsSeq2 PySem.MeetsSeq3
end
section
variable {prog : Program} {w : World} {A : Around} {E : Value → Shared → Prop} {s : Shared}
end
end HT
namespace L2
open PySem PySem.Spec PyProof.Rows
abbrev TO := St → Hp → (Option Int → Hp → Prop) → Prop
def tNoPart : TO := fun _ H Q => Q none H
def tPart (t : TE) : TO := fun σ H Q => t σ H fun x H1 => ∃ i, x = .int i ∧ Q (some i) H1
section
variable {X : Cx} {e : Expr} {te : TE} {lo hi : Option Expr} {tl th : TO} {pos p2 : Pos}
def tSl (r : V → Option Int → Option Int → Hp → VK → Prop) (te : TE) (tl th : TO) : TE := fun σ H Q => te σ H fun x H1 => tl σ H1 fun l H2 => th σ H2 fun u H3 => r x l u H3 Q
end
end L2
namespace L2
open PySem PySem.Spec PyProof.Rows
def ixN (n : Nat) (i : Int) : Option Nat := if 0 ≤ i then (if i < n then some i.toNat else none) else if -(n : Int) ≤ i then some (i + n).toNat else none
def atI {α : Type} (xs : List α) (i : Int) : Option α := (ixN xs.length i).bind fun j => xs[j]?
theorem ixN_seq {n : Nat} {i : Int} {j : Nat} (h : ixN n i = some j) : seqIndex? i n = some j ∧ j < n ∧ -(n : Int) ≤ i ∧ i < n := by
 unfold ixN at h
 by_cases h0 : 0 ≤ i
 ·rw [if_pos h0] at h
  by_cases h1 : i < n
  ·rw [if_pos h1] at h
   have e : i.toNat = j := Option.some.inj h
   exact ⟨by rw [seqIndex_of h0 h1, e], by omega, by omega, h1⟩
  ·rw [if_neg h1] at h; cases h
 ·rw [if_neg h0] at h
  by_cases h1 : -(n : Int) ≤ i
  ·rw [if_pos h1] at h
   have e : (i + n).toNat = j := Option.some.inj h
   exact ⟨by rw [seqIndex_neg (by omega) h1, e], by omega, h1, by omega⟩
  ·rw [if_neg h1] at h; cases h
theorem atI_get {α : Type} {xs : List α} {i : Int} {v : α} (h : atI xs i = some v) : ∃ j, seqIndex? i xs.length = some j ∧ xs[j]? = some v ∧ j < xs.length ∧ -(xs.length : Int) ≤ i ∧ i < xs.length := by
 unfold atI at h
 cases e : ixN xs.length i with
 | none => rw [e] at h; cases h
 | some j =>
  rw [e] at h
  obtain ⟨h1, h2, h3, h4⟩ := ixN_seq e
  exact ⟨j, h1, h, h2, h3, h4⟩
theorem atI_nat {α : Type} {xs : List α} {j : Nat} {v : α} (h : xs[j]? = some v) : atI xs (j : Int) = some v := by
 have hj : j < xs.length := (List.getElem?_eq_some_iff.mp h).1
 have e : ixN xs.length (j : Int) = some j := by
  unfold ixN
  rw [if_pos (by omega), if_pos (by omega)]; simp
 unfold atI; rw [e]; exact h
def PlainIx (b : Expr) : Prop := ∀ o i, subscripted b false o i = operate [o, i] (getItem o i)
def IxR (X : Cx) (r : R2) : Prop :=
 ∀ (value slice : Expr) (pins : List (Addr × Obj)) (s : Shared) (σ : St) (H : Hp) (x y : V) (v u : Value) (Q : VK), Inv X pins σ H s → RelV x v → RelV y u → r x y H Q →
  subscripted slice false v u = operate [v, u] (getItem v u) → wpAny (model X.prog X.w) X.A (subscriptTail value slice v u) (EP X pins σ Q) X.xe s
section
variable {X : Cx} {a b : Expr} {ta tb : TE} {pos : Pos}
theorem pe_ix {r : R2} (hr : IxR X r) (ha : PE X a ta) (hb : PE X b tb) (hs : PlainIx b) : PE X (.Subscript a b pos) (tOp r ta tb) := by
 intro pins s σ H Q I h
 exact Subscript_ (binT ha hb I h fun v u s2 x y H2 I2 rx ry q => hr a b pins s2 σ H2 x y v u Q I2 rx ry q (hs _ _))
def rIxL (K : PySem.W.Frag) : R2 := fun x y H Q => ∃ p xs i v, x = .ref p ∧ y = .int i ∧ SqL K H p xs ∧ atI xs i = some v ∧ Q v H
def rIxT (K : PySem.W.Frag) : R2 := fun x y H Q => ∃ p xs i v, x = .ref p ∧ y = .int i ∧ SqT K H p xs ∧ atI xs i = some v ∧ Q v H
def rIxS : R2 := fun x y H Q => ∃ z i c, x = .str z ∧ y = .int i ∧ z.length ≤ sizeLine ∧ atI z.cps.toList i = some c ∧ Q (.str ⟨#[c]⟩) H
theorem ix_list : IxR X (rIxL X.K) := by
 intro value slice pins s σ H x y v u Q I rx ry h hs
 obtain ⟨p, xs, i, z, rfl, rfl, hq, he, q⟩ := h
 cases rx
 obtain ⟨t, rfl⟩ := ry
 obtain ⟨its, r, pl, hz⟩ := I.list hq
 obtain ⟨j, h1, h2, h3, h4, h5⟩ := atI_get he
 obtain ⟨w, ew, rw'⟩ := r.get h2
 have hl := r.length
 have hn := line63
 have fin : EP X pins σ Q w s := ⟨z, H, I, rw', q⟩
 by_cases h0 : 0 ≤ i
 ·have hj : i.toNat = j := by
   rw [seqIndex_of h0 h5] at h1
   exact Option.some.inj h1
  exact item_listR pl.isList h0 (by omega) (by rw [hj]; simpa using ew) fin hs
 ·have hj : (i + (its.toArray.size : Int)).toNat = j := by
   rw [seqIndex_neg (by omega) h4] at h1
   rw [List.size_toArray, ← hl]
   exact Option.some.inj h1
  exact subscriptTail_builtinR (x := w) pl.isList.typeIs slot_list_getitem.lookup
   (wpAny_getItem_list_neg (Q := fun r s' => r = w ∧ EP X pins σ Q r s') pl.isList (by omega) (by rw [List.size_toArray] <;> omega) (by omega) (by rw [hj]; simpa using ew) ⟨rfl, fin⟩) hs
theorem ix_tup : IxR X (rIxT X.K) := by
 intro value slice pins s σ H x y v u Q I rx ry h hs
 obtain ⟨p, xs, i, z, rfl, rfl, hq, he, q⟩ := h
 cases rx
 obtain ⟨t, rfl⟩ := ry
 obtain ⟨its, r, pl, hz⟩ := I.tuple hq
 obtain ⟨j, h1, h2, h3, h4, h5⟩ := atI_get he
 obtain ⟨w, ew, rw'⟩ := r.get h2
 have hl := r.length
 have hn := line63
 have fin : EP X pins σ Q w s := ⟨z, H, I, rw', q⟩
 exact subscriptTail_builtinR (x := w) pl.typeIs slot_tuple_getitem.lookup
  (getItem_tuple (j := j) (Q := fun r s' => r = w ∧ EP X pins σ Q r s') pl (by omega) (by omega) (by rw [List.size_toArray, ← hl]; exact h1) (by simpa using ew) ⟨rfl, fin⟩) hs
theorem ix_str : IxR X rIxS := by
 intro value slice pins s σ H x y v u Q I rx ry h hs
 obtain ⟨z, i, c, rfl, rfl, hz, he, q⟩ := h
 obtain ⟨t, rfl⟩ := rx
 obtain ⟨t', rfl⟩ := ry
 obtain ⟨j, h1, h2, h3, h4, h5⟩ := atI_get he
 have hl : z.cps.toList.length = z.length := by simp [Str.length]
 rw [hl] at h1 h4 h5
 have hn := line63
 exact tail_any (typeIs_str s z t) slot_str_getitem.lookup (getItem_str (c := c) (by
  have e1 : decide (i < -(2 ^ 63 : Int)) = false := decide_eq_false (by omega)
  have e2 : decide (i ≥ 2 ^ 63) = false := decide_eq_false (by omega)
  rw [e1, e2, Bool.or_false]) (by rw [h1]; simpa using h2) ⟨.str ⟨#[c]⟩, H, I.tok _, ⟨_, rfl⟩, q⟩) hs
theorem mapSeq_set (its : List Value) (n j : Nat) (u : Value) : Obj.mapSeq (·.setIfInBounds j u) { cls := .type "list", data := .seq its.toArray n } = { cls := .type "list", data := .seq (its.set j u).toArray n } := by
 simp [Obj.mapSeq]
theorem Inv.lst {pins : List (Addr × Obj)} {σ : St} {H : Hp} {s : Shared} {p : Addr} {xs : List V} (I : Inv X pins σ H s) (h : H p = some (.lst xs)) :
  ∃ (its : List Value) (n : Nat), Vals xs its ∧ s.heap.get? p = some { cls := .type "list", data := .seq its.toArray n } ∧ xs.length ≤ sizeLine := by
 obtain ⟨z, its, n, r, e⟩ := I.hok p _ h
 exact ⟨its, n, r, e, z⟩
theorem Inv.lstUpd {pins : List (Addr × Obj)} {σ : St} {H : Hp} {s : Shared} {p : Addr} {xs ys : List V} {its its' : List Value} {n n' : Nat} {f : Obj → Obj} (I : Inv X pins σ H s) (h : H p = some (.lst xs))
  (ho : s.heap.get? p = some { cls := .type "list", data := .seq its.toArray n }) (hf : f { cls := .type "list", data := .seq its.toArray n } = { cls := .type "list", data := .seq its'.toArray n' }) (r : Vals ys its') (hz : ys.length ≤ sizeLine) (t : Nat) :
  Inv X pins σ (upd H p (.lst ys)) { s with heap := s.heap.update p f, toks := t } := by
 have e : (s.heap.update p f).get? p = some { cls := .type "list", data := .seq its'.toArray n' } := by
  rw [Heap.get?_update_self f ho (by rw [hf] <;> rfl), hf]
 refine I.write (x := p) (e := p) (by rw [h]; trivial) (.inl rfl) (fun b u hb q => (Heap.get?_update_other _ _ (Ne.symm hb)).trans q) ⟨_, e⟩ ?_
 exact ⟨hz, its', n', r, e⟩
def rSetL : V → V → V → Hp → (Hp → Prop) → Prop := fun o i v H Q => ∃ p xs k j, o = .ref p ∧ i = .int k ∧ H p = some (.lst xs) ∧ ixN xs.length k = some j ∧ Q (upd H p (.lst (xs.set j v)))
theorem set_list : PSet X rSetL := by
 intro pins s σ H o i v ov iv u Q I ro ri rv h
 obtain ⟨p, xs, k, j, rfl, rfl, hp, hj, q⟩ := h
 cases ro
 obtain ⟨t, rfl⟩ := ri
 obtain ⟨its, n, r, ho, hz⟩ := I.lst hp
 obtain ⟨h1, h2, h3, h4⟩ := ixN_seq hj
 have hl := r.length
 have hn := line63
 have I' : Inv X pins σ (upd H p (.lst (xs.set j v))) { s with heap := s.heap.update p (Obj.mapSeq (·.setIfInBounds j u)) } :=
  I.lstUpd hp ho (mapSeq_set its n j u) (r.set rv j) (by rw [List.length_set]; exact hz) s.toks
 by_cases h0 : 0 ≤ k
 ·have hk : k.toNat = j := by
   rw [seqIndex_of h0 h4] at h1
   exact Option.some.inj h1
  exact PySem.W.ki_setAt ho h0 (by omega) (by rw [List.size_toArray, ← hl]; exact h4) (by rw [hk]; exact ⟨_, I', q⟩)
 ·have hk : (k + (its.toArray.size : Int)).toNat = j := by
   rw [seqIndex_neg (by omega) h3] at h1
   rw [List.size_toArray, ← hl]
   exact Option.some.inj h1
  exact PySem.W.ki_setBack ho (by omega) (by rw [List.size_toArray, ← hl]; exact h3) (by omega) (by rw [hk]; exact ⟨_, I', q⟩)
def flatV : V → Bool
 | .non => true
 | .bl _ => true
 | .int _ => true
 | .str _ => true
 | _ => false
def eqV : V → V → Bool
 | .non, .non => true
 | .bl a, .bl b => a == b
 | .bl a, .int b => (if a then 1 else 0) == b
 | .int a, .bl b => a == (if b then 1 else 0)
 | .int a, .int b => a == b
 | .str a, .str b => a == b
 | _, _ => false
theorem eqAt_V {A : Around} {s : Shared} {y x : V} {u v : Value} (ry : RelV y u) (rx : RelV x v) (fy : flatV y = true) (fx : flatV x = true) : SeqAt.EqAt A s u v (eqV y x) := by
 cases y with
 | non =>
  cases ry
  cases x with
  | non => cases rx; exact SeqAt.EqAt.same _
  | bl b => cases rx; exact SeqAt.EqAt.none_bool b
  | int b => obtain ⟨t, rfl⟩ := rx; exact SeqAt.EqAt.none_int b t
  | str b => obtain ⟨t, rfl⟩ := rx; exact SeqAt.EqAt.none_str b t
  | _ => exact absurd (show false = true from fx) Bool.false_ne_true
 | bl a =>
  cases ry
  cases x with
  | non => cases rx; exact SeqAt.EqAt.bool_none a
  | bl b => cases rx; exact SeqAt.EqAt.bool_bool a b
  | int b => obtain ⟨t, rfl⟩ := rx; exact SeqAt.EqAt.bool_int a b t
  | str b => obtain ⟨t, rfl⟩ := rx; exact SeqAt.EqAt.bool_str a b t
  | _ => exact absurd (show false = true from fx) Bool.false_ne_true
 | int a =>
  obtain ⟨t', rfl⟩ := ry
  cases x with
  | non => cases rx; exact SeqAt.EqAt.int_none a t'
  | bl b => cases rx; exact SeqAt.EqAt.int_bool a t' b
  | int b => obtain ⟨t, rfl⟩ := rx; exact SeqAt.EqAt.int_int a t' b t
  | str b => obtain ⟨t, rfl⟩ := rx; exact SeqAt.EqAt.int_str a t' b t
  | _ => exact absurd (show false = true from fx) Bool.false_ne_true
 | str a =>
  obtain ⟨t', rfl⟩ := ry
  cases x with
  | non => cases rx; exact SeqAt.EqAt.str_none a t'
  | bl b => cases rx; exact SeqAt.EqAt.str_bool a t' b
  | int b => obtain ⟨t, rfl⟩ := rx; exact SeqAt.EqAt.str_int a t' b t
  | str b => obtain ⟨t, rfl⟩ := rx; exact SeqAt.EqAt.str_str a t' b t
  | _ => exact absurd (show false = true from fx) Bool.false_ne_true
 | _ => exact absurd (show false = true from fy) Bool.false_ne_true
def eqU (x : V) (u : Value) : Bool := match u with
 | .none => eqV .non x
 | .bool b => eqV (.bl b) x
 | .int i _ => eqV (.int i) x
 | .str z _ => eqV (.str z) x
 | _ => false
theorem eqU_of {x y : V} {u : Value} (r : RelV y u) (f : flatV y = true) : eqU x u = eqV y x := by
 cases y with
 | non => cases r; rfl
 | bl b => cases r; rfl
 | int i => obtain ⟨t, rfl⟩ := r; rfl
 | str z => obtain ⟨t, rfl⟩ := r; rfl
 | _ => exact absurd (show false = true from f) Bool.false_ne_true
theorem any_eqU {x : V} : ∀ {xs : List V} {us : List Value}, Vals xs us → xs.all flatV = true → us.any (eqU x) = xs.any fun y => eqV y x
 | _, _, .nil, _ => rfl
 | y :: xs, u :: us, .cons r t, f => by
  rw [List.all_cons, Bool.and_eq_true] at f
  rw [List.any_cons, List.any_cons, eqU_of r f.1, any_eqU t f.2]
theorem mem_eqAt {A : Around} {s : Shared} {x : V} {v : Value} (rx : RelV x v) (fx : flatV x = true) : ∀ {xs : List V} {us : List Value}, Vals xs us → xs.all flatV = true → ∀ u ∈ us, SeqAt.EqAt A s u v (eqU x u)
 | _, _, .nil, _ => fun u hu => by cases hu
 | y :: xs, u :: us, .cons r t, f => fun u' hu => by
  rw [List.all_cons, Bool.and_eq_true] at f
  rcases List.mem_cons.mp hu with rfl | hu
  ·rw [eqU_of r f.1]; exact eqAt_V r rx f.1 fx
  ·exact mem_eqAt rx fx t f.2 u' hu
def inV (x : V) (xs : List V) : Bool := xs.any fun y => eqV y x
def rIn (K : PySem.W.Frag) (neg : Bool) : R2 := fun x y H Q => ∃ p xs, y = .ref p ∧ (SqL K H p xs ∨ SqT K H p xs) ∧ flatV x = true ∧ xs.all flatV = true ∧ Q (.bl (if neg then !inV x xs else inV x xs)) H
theorem op_in_seq : OpR X (compareOp .In) (rIn X.K false) := by
 intro pins s σ H x y v u Q I rx ry h
 obtain ⟨p, xs, rfl, hq, fx, fs, q⟩ := h
 cases ry
 rcases hq with hq | hq
 ·obtain ⟨its, r, pl, hz⟩ := I.list hq
  refine SeqAt.in_listAt (eqU x) pl.isList (fun w hw => mem_eqAt rx fx r fs w (by simpa using hw)) ⟨.bl _, H, I, rfl, ?_⟩
  rw [show its.toArray.any (eqU x) = its.any (eqU x) by simp, any_eqU r fs]
  exact q
 ·obtain ⟨its, r, pl, hz⟩ := I.tuple hq
  refine SeqAt.in_tupleAt (eqU x) pl (fun w hw => mem_eqAt rx fx r fs w (by simpa using hw)) ⟨.bl _, H, I, rfl, ?_⟩
  rw [show its.toArray.any (eqU x) = its.any (eqU x) by simp, any_eqU r fs]
  exact q
theorem call_len_seq : CallR X (.builtin "len") (fun xs H Q => ∃ p ys, xs = [.ref p] ∧ (SqL X.K H p ys ∨ SqT X.K H p ys) ∧ Q (.int ys.length) H) := by
 intro pins s σ H xs us Q I r h
 obtain ⟨p, ys, rfl, hq, q⟩ := h
 obtain ⟨u, rfl, rx⟩ := vals1 r
 cases rx
 have hn := line63
 rcases hq with hq | hq
 ·obtain ⟨its, r', pl, hz⟩ := I.list hq
  have hlen := r'.length
  exact Calls.call_len_list pl.isList (by simp only [List.size_toArray] <;> omega) ⟨.int ys.length, H, I.tok _, ⟨s.toks + 1, by rw [List.size_toArray, hlen]⟩, q⟩
 ·obtain ⟨its, r', pl, hz⟩ := I.tuple hq
  have hlen := r'.length
  exact len_tuple pl (by simp only [List.size_toArray] <;> omega) ⟨.int ys.length, H, I.tok _, ⟨s.toks + 1, by rw [List.size_toArray, hlen]⟩, q⟩
theorem call_len_str : CallR X (.builtin "len") (fun xs H Q => ∃ z, xs = [.str z] ∧ z.length ≤ sizeLine ∧ Q (.int z.length) H) := by
 intro pins s σ H xs us Q I r h
 obtain ⟨z, rfl, hz, q⟩ := h
 obtain ⟨u, rfl, t, rfl⟩ := vals1 r
 have hn := line63
 exact len_str (by omega) ⟨.int z.length, H, I.tok _, ⟨_, rfl⟩, q⟩
theorem call_list_of : CallR X (.type "list") (fun xs H Q => ∃ p ys, xs = [.ref p] ∧ (SqL X.K H p ys ∨ SqT X.K H p ys) ∧ ∀ l, H l = none → Q (.ref l) (upd H l (.lst ys))) := by
 intro pins s σ H xs us Q I r h
 obtain ⟨p, ys, rfl, hq, q⟩ := h
 obtain ⟨u, rfl, rx⟩ := vals1 r
 cases rx
 have fin : ∀ (its : List Value), Vals ys its → ys.length ≤ sizeLine → ∀ (h' : Heap) (c' : Nat), (∀ b o', s.heap.get? b = some o' → h'.get? b = some o') →
   h'.get? s.heap.objs.size = some { cls := .type "list", dict := none, data := .seq its.toArray c', slots := #[] } → EP X pins σ Q (.ref s.heap.objs.size) { s with heap := h' } := fun its r' hz h' c' kp e =>
  ⟨.ref s.heap.objs.size, _, I.laid (t' := s.toks) kp (Nat.le_refl _) (show ObjOk X.prog X.w _ h' _ (.lst ys) from ⟨hz, its, c', r', e⟩), rfl, q _ (I.hok.fresh (Nat.le_refl _))⟩
 rcases hq with hq | hq
 ·obtain ⟨its, r', pl, hz⟩ := I.list hq
  have hlen := r'.length
  obtain ⟨o, ho, hc, n, hd⟩ := pl.isList
  exact call_list_seq p (.inl rfl) ho hc hd (fun h' c' kp e => fin its r' hz h' c' kp e) (by simp only [List.size_toArray] <;> omega)
 ·obtain ⟨its, r', pl, hz⟩ := I.tuple hq
  have hlen := r'.length
  obtain ⟨o, ho, hc, n, hd⟩ := pl
  exact call_list_seq p (.inr rfl) ho hc hd (fun h' c' kp e => fin its r' hz h' c' kp e) (by simp only [List.size_toArray] <;> omega)
def tyV (K : PySem.W.Frag) (T : String) (x : V) (H : Hp) : Prop := match x with
 | .str _ => T = "str"
 | .int _ => T = "int"
 | .ref p => (T = "list" ∧ ∃ xs, SqL K H p xs) ∨ (T = "tuple" ∧ ∃ o, K.lookup p = some o ∧ o.cls = .type "tuple" ∧ o.dict = none) ∨
   (T = "dict" ∧ ((∃ kvs, H p = some (.dK kvs)) ∨ ∃ kvs, H p = some (.dT kvs))) ∨ (T = "set" ∧ ∃ S n, H p = some (.set S n))
 | _ => False
theorem tyV_is {pins : List (Addr × Obj)} {σ : St} {H : Hp} {s : Shared} {T : String} {x : V} {v : Value} (I : Inv X pins σ H s) (r : RelV x v) (ty : tyV X.K T x H) :
  s.TypeIs v T ∧ ∀ a, v = .ref a → ∃ ob, s.heap.get? a = some ob ∧ ob.dict = none := by
 cases x with
 | str z =>
  obtain ⟨t, rfl⟩ := r
  cases (show T = "str" from ty)
  exact ⟨typeIs_str s z t, fun _ e => nomatch e⟩
 | int i =>
  obtain ⟨t, rfl⟩ := r
  cases (show T = "int" from ty)
  exact ⟨typeIs_int s i t, fun _ e => nomatch e⟩
 | ref p =>
  cases r
  rcases ty with ⟨rfl, xs, hq⟩ | ⟨rfl, o, hk, hc, hd⟩ | ⟨rfl, hk⟩ | ⟨rfl, S, n, hk⟩
  ·obtain ⟨its, _, pl, _⟩ := I.list hq
   refine ⟨pl.isList.typeIs, fun a e => ?_⟩
   cases e
   obtain ⟨o, n, e, c, hd, _⟩ := pl
   exact ⟨o, e, hd⟩
  ·refine ⟨⟨o, I.kIn p o hk, hc⟩, fun a e => ?_⟩
   cases e
   exact ⟨o, I.kIn _ o hk, hd⟩
  ·have z : ∃ o, s.heap.get? p = some o ∧ o.ExactDict := by
    rcases hk with ⟨kvs, hk⟩ | ⟨kvs, hk⟩
    ·obtain ⟨_, _, _, _, o, _, _, e, ex, _⟩ := I.hok p _ hk
     exact ⟨o, e, ex⟩
    ·obtain ⟨_, _, _, _, o, _, _, e, ex, _⟩ := I.hok p _ hk
     exact ⟨o, e, ex⟩
   obtain ⟨o, e, ex⟩ := z
   refine ⟨⟨o, e, ex.1⟩, fun a e2 => ?_⟩
   cases e2
   exact ⟨o, e, ex.2.1⟩
  ·obtain ⟨o, _, _, _, e, ex, _⟩ := I.hok p _ hk
   refine ⟨⟨o, e, ex.1⟩, fun a e2 => ?_⟩
   cases e2
   exact ⟨o, e, ex.2.1⟩
 | _ => exact False.elim ty
def tBM (K : PySem.W.Frag) (T : String) (r : V → List V → Hp → VK → Prop) (to : TE) (t : TA) : TE := fun σ H Q => to σ H fun x H1 => tyV K T x H1 ∧ t σ H1 fun xs H2 => r x xs H2 Q
variable {o e : Expr} {es : List Expr} {to : TE} {t : TA} {name : Str} {apos cpos : Pos} {T id : String} {r : V → List V → Hp → VK → Prop}
end
end L2
namespace L2
open PySem PySem.Spec PyProof.Rows
def MtM (X : Cx) (id : String) (r : V → List V → Hp → VK → Prop) : Prop :=
 ∀ (pins : List (Addr × Obj)) (s : Shared) (σ : St) (H : Hp) (x : V) (xs : List V) (v : Value) (us : List Value) (Q : VK), Inv X pins σ H s → RelV x v → Vals xs us → r x xs H Q →
  wpAny (model X.prog X.w) X.A (call (.builtin id) (v :: us)) (EP X pins σ Q) X.xe s
theorem Vals.one : ∀ {x : V} {us : List Value}, Vals [x] us → ∃ u, us = [u] ∧ RelV x u
 | _, _, .cons r .nil => ⟨_, rfl, r⟩
theorem Vals.zero : ∀ {us : List Value}, Vals [] us → us = []
 | _, .nil => rfl
theorem Vals.dropLast {xs : List V} {us : List Value} (h : Vals xs us) : Vals xs.dropLast us.dropLast := by
 induction h with
 | nil => exact .nil
 | cons r t ih =>
  cases t with
  | nil => exact .nil
  | cons q t' => exact .cons r ih
theorem erase_last {α : Type} (l : List α) : l.eraseIdx (l.length - 1) = l.dropLast := by
 induction l with
 | nil => rfl
 | cons a r ih =>
  cases r with
  | nil => rfl
  | cons b r =>
   have e : (a :: b :: r).length - 1 = ((b :: r).length - 1) + 1 := by
    have h1 : (a :: b :: r).length = r.length + 2 := rfl
    have h2 : (b :: r).length = r.length + 1 := rfl
    omega
   rw [e, List.eraseIdx_cons_succ, ih]
   all_goals rfl
section
variable {X : Cx} {pins : List (Addr × Obj)} {σ : St} {H : Hp} {s : Shared} {l b : Addr} {xs ys zs : List V}
theorem Inv.lset {its its' : List Value} {n : Nat} {f : Array Value → Array Value} {t' : Nat} (I : Inv X pins σ H s) (hH : H l = some (.lst xs))
  (e : s.heap.get? l = some { cls := .type "list", data := .seq its.toArray n }) (hf : f its.toArray = its'.toArray) (hv : Vals ys its') (hz : ys.length ≤ sizeLine) :
  Inv X pins σ (upd H l (.lst ys)) { s with heap := s.heap.update l (Obj.mapSeq f), toks := t' } := by
 have q := PySem.IsL.update e f
 rw [hf] at q
 refine I.write (x := l) (e := l) (by rw [hH]; exact trivial) (.inl rfl) (fun b' u hb hu => (Heap.get?_update_other s.heap (Obj.mapSeq f) (Ne.symm hb)).trans hu) ⟨_, q⟩ ?_
 exact ⟨hz, its', _, hv, q⟩
theorem Inv.lnew {its : List Value} {t' : Nat} (I : Inv X pins σ H s) (hv : Vals ys its) (hz : ys.length ≤ sizeLine) :
  Inv X pins σ (upd H s.heap.objs.size (.lst ys)) { s with heap := s.heap.push { cls := .type "list", data := .seq its.toArray }, toks := t' } :=
 I.laid (fun _ _ q => Heap.get?_push_of_some _ q) (Nat.le_refl _) ⟨hz, its, 0, hv, Heap.get?_push_size _ rfl⟩
theorem Inv.fresh (I : Inv X pins σ H s) : H s.heap.objs.size = none := I.hok.fresh (Nat.le_refl _)
theorem Inv.lstM (I : Inv X pins σ H s) (hH : H l = some (.lst xs)) : xs.length ≤ sizeLine ∧ ∃ (its : List Value) (n : Nat), Vals xs its ∧ xs.length = its.length ∧ s.heap.get? l = some { cls := .type "list", data := .seq its.toArray n } := by
 obtain ⟨z, its, n, r, e⟩ := I.hok l _ hH
 exact ⟨z, its, n, r, r.length, e⟩
end
section
variable {X : Cx}
def rAppend : V → List V → Hp → VK → Prop := fun x vs H Q => ∃ l xs y, x = .ref l ∧ vs = [y] ∧ H l = some (.lst xs) ∧ xs.length < sizeLine ∧ Q .non (upd H l (.lst (xs ++ [y])))
theorem mt_append : MtM X "list.append" rAppend := by
 intro pins s σ H x vs v us Q I rx rv h
 obtain ⟨l, xs, y, rfl, rfl, hH, hz, q⟩ := h
 cases rx
 obtain ⟨u, rfl, ru⟩ := rv.one
 obtain ⟨z, its, n, r, hl, e⟩ := I.lstM hH
 refine call_meets F.slot_list_append ⟨_, e, rfl⟩ F.entry_list_append (F.args_list_append_2 _ _) (PySem.list_append l its.toArray n u (by rw [List.size_toArray]; omega)) ⟨e, ?_⟩
 refine ⟨.non, _, I.lset (its' := its ++ [u]) hH e (by simp) (r.append (.cons ru .nil)) ?_, rfl, q⟩
 rw [List.length_append, List.length_singleton]
 omega
def rExtend : V → List V → Hp → VK → Prop := fun x vs H Q => ∃ l b xs zs, x = .ref l ∧ vs = [.ref b] ∧ H l = some (.lst xs) ∧ H b = some (.lst zs) ∧ xs.length + zs.length ≤ sizeLine ∧ Q .non (upd H l (.lst (xs ++ zs)))
def rPop : V → List V → Hp → VK → Prop := fun x vs H Q => ∃ l xs y, x = .ref l ∧ vs = [] ∧ H l = some (.lst xs) ∧ xs[xs.length - 1]? = some y ∧ Q y (upd H l (.lst xs.dropLast))
theorem mt_pop : MtM X "list.pop" rPop := by
 intro pins s σ H x vs v us Q I rx rv h
 obtain ⟨l, xs, y, rfl, rfl, hH, hy, q⟩ := h
 cases rx
 have hus := rv.zero
 subst hus
 obtain ⟨z, its, n, r, hl, e⟩ := I.lstM hH
 obtain ⟨u, hu, ru⟩ := r.get hy
 have hy' : its.toArray[its.toArray.size - 1]? = some u := by
  show its.toArray[its.length - 1]? = some u
  rw [← Array.getElem?_toList, ← hl]
  exact hu
 refine call_meets F.slot_list_pop ⟨_, e, rfl⟩ F.entry_list_pop (F.args_list_pop_1 _) (MeetsSeq.list_pop_last l its.toArray n u hy' (by rw [List.size_toArray]; omega)) ⟨e, ?_⟩
 refine ⟨y, _, I.lset (its' := its.dropLast) hH e ?_ r.dropLast ?_, ru, q⟩
 ·show its.toArray.eraseIdxIfInBounds (its.toArray.size - 1) = its.dropLast.toArray
  rw [List.size_toArray, List.eraseIdxIfInBounds_toArray, erase_last]
 ·rw [List.length_dropLast]
  omega
def rReverse : V → List V → Hp → VK → Prop := fun x vs H Q => ∃ l xs, x = .ref l ∧ vs = [] ∧ H l = some (.lst xs) ∧ Q .non (upd H l (.lst xs.reverse))
def rClear : V → List V → Hp → VK → Prop := fun x vs H Q => ∃ l xs, x = .ref l ∧ vs = [] ∧ H l = some (.lst xs) ∧ Q .non (upd H l (.lst []))
def rCat : R2 := fun x y H Q => ∃ l b xs zs, x = .ref l ∧ y = .ref b ∧ H l = some (.lst xs) ∧ H b = some (.lst zs) ∧ xs.length + zs.length ≤ sizeLine ∧ ∀ p, H p = none → Q (.ref p) (upd H p (.lst (xs ++ zs)))
theorem op_cat : OpR X (binaryOp .Add) rCat := by
 intro pins s σ H x y v u Q I rx ry h
 obtain ⟨l, b, xs, zs, rfl, rfl, hH, hB, hz, q⟩ := h
 cases rx
 cases ry
 obtain ⟨z, its, n, r, hl, e⟩ := I.lstM hH
 obtain ⟨z2, its2, n2, r2, hl2, e2⟩ := I.lstM hB
 refine PySem.P.add_list e e2 ?_ (by rw [List.size_toArray, List.size_toArray]; omega)
 have ea : its.toArray ++ its2.toArray = (its ++ its2).toArray := by simp
 rw [ea]
 exact ⟨.ref _, _, I.lnew (t' := s.toks) (r.append r2) (by rw [List.length_append]; omega), rfl, q _ I.fresh⟩
end
section
variable {prog : Program} {w : World} {A : Around} {E : Value → Shared → Prop} {s : Shared}
end
section
variable {X : Cx}
end
end L2
namespace Att
open PySem PySem.W PySem.Calls PyProof.Rows
theorem ints_of_wellAll {P : Params} {h : Heap} : ∀ (ns : List Int) (vs : List Value), WellAll P h vs (ns.map WData.int) → IntsAre vs ns := by
 intro ns
 induction ns with
 | nil =>
  intro vs w
  rw [List.map_nil] at w
  cases w
  exact .nil
 | cons n ns ih =>
  intro vs w
  rw [List.map_cons] at w
  cases w with
  | cons a b =>
   cases a
   exact .cons _ _ (ih _ b)
theorem script_of {l : OpenLaw} {n : Nat} (hn : l.most = some n) {P : Params} {h : Heap} {args : List WData} {vals : List Value}
  (hpre : l.row.toRowW.claim.pre args = true) (hwl : WellAll P h vals args) :
  ∃ a vs ns, vals = [Value.ref a] ∧ args = [WData.list (ns.map WData.int)] ∧ h.get? a = some { cls := .type "list", data := .seq vs.toArray } ∧ IntsAre vs ns ∧ ns.length ≤ n := by
 have hsh : WShape.hasAll [] args [.list .int] = true := (pre_splitW hpre).1
 have hc : l.pre.holds [] { args := args } = true := (pre_splitW hpre).2
 obtain ⟨d, r, rfl, h1, h2⟩ := hasAllW_cons hsh
 obtain rfl := hasAllW_nil h2
 obtain ⟨xs, rfl, h3⟩ := hasW_list h1
 obtain ⟨ns, rfl⟩ := items_int h3
 have hlen : ns.length ≤ n := by
  unfold OpenLaw.pre at hc
  have h4 : (WTm.not (.lt (.lit (.int (n : Int))) (.len (.arg 0)))).holds [] { args := [.list (ns.map .int)] } = true := by
   have h4 := (holds_andW hc).1
   rw [hn] at h4
   exact h4
  have h5 := condW_of h4 (w_not (w_lt w_lit (w_len_list (w_arg rfl))))
  rw [List.length_map] at h5
  refine Nat.le_of_not_lt fun q => ?_
  have q' : (n : Int) < ((ns.length : Nat) : Int) := by omega
  first
   | (rw [decide_eq_true q'] at h5; exact absurd h5 (by decide))
   | (simp at h5; omega)
 cases hwl with
 | cons w1 w2 =>
  cases w2
  cases w1 with
  | list ho hall => exact ⟨_, _, ns, rfl, rfl, ho, ints_of_wellAll ns _ hall, hlen⟩
theorem post_true (l : OpenLaw) (args : List WData) : l.row.toRowW.claim.post args (.bool true) args = true :=
 postW_of (r := l.row.toRowW) (X := (true == true))
  (show WShape.has [] (.bool true) .bool = true by first | rfl | decide | simp [WShape.has, WShape.arms, WShape.armsAll])
  (show (WTm.eq .res (.lit (.bool true))).value [] { args := args, res := some (.bool true), after := args } = some (.bool (true == true)) from w_eq_bool (w_res rfl) w_lit) rfl
section
variable {prog : Program} {w : World} {A : Around} {E : Value → Shared → Prop} {s : Shared} {K : Frag}
end
end Att
namespace L2
open PySem PySem.Spec PyProof.Rows
theorem vals_ints : ∀ {vs : List Value} {ns : List Int}, IntsAre vs ns → Vals (ns.map V.int) vs
 | _, _, .nil => .nil
 | _, _, .cons n t h => .cons ⟨t, rfl⟩ (vals_ints h)
def Only (H : Hp) : Prop := ∀ b, H b = none ∨ ∃ o xs, H b = some (.frz o (.lst xs))
theorem law_call {P : Program} {w : World} {K : PySem.W.Frag} {mg mb : Str → Option Value} {CX : CXT} {k : Nat} {fa a : Addr} {fd : FuncData} {x : Str} {sp : Sp} {s₁ : Shared} {vs : List Value} {ns : List Int}
  (KX : K.In s₁.heap) (hns : s₁.heap.Ns mainGlobals mg) (hb : s₁.heap.Ns builtinsNs mb) (hbb : ∀ x : Str, x ≠ "__name__" → mb x = bootBuiltins x) (hlim : s₁.heap.NoLimit) (hg : s₁.gens = #[])
  (ha : s₁.heap.get? a = some { cls := .type "list", data := .seq vs.toArray }) (hi : IntsAre vs ns) (hl : ns.length ≤ sizeLine) (hr : Room k callerA)
  (F : ∀ base : Heap, K.In base → base.Ns mainGlobals mg → FnOk P w K mg base CX k fa fd [x] sp) (hbind : ∀ (s : Shared) (u : Value), BindsTo s fd ⟨[u], []⟩ [(x, u)])
  (hsp : ∀ H : Hp, Only H → SqL K H a (ns.map V.int) → sp [.ref a] H (fun v _ => v = .bl true) fun _ _ _ => False)
  (hCX : ∀ H e s', CX [] H s₁ (fun _ _ _ => False) e s' → False) :
  codeAny (model P w) callerA (.call (.ref fa) ⟨[.ref a], []⟩) (fun r s' => r = .ok (.ret (.bool true)) ∧ OldK s₁.heap s'.heap ∧ s'.os = s₁.os ∧ AllBare s'.gens) s₁ := by
 have rv := vals_ints hi
 have lenV := hi.length
 -- from an abstract heap in which nothing but the script may be tracked
 have core : ∀ H : Hp, Only H → SqL K H a (ns.map V.int) → HOk P w H s₁.heap → (∀ b, H b ≠ none → b = a) → (H a ≠ none → K.lookup a = none) →
   codeAny (model P w) callerA (.call (.ref fa) ⟨[.ref a], []⟩) (fun r s' => r = .ok (.ret (.bool true)) ∧ OldK s₁.heap s'.heap ∧ s'.os = s₁.os ∧ AllBare s'.gens) s₁ := by
  intro H hO hS hok hA hK
  have base_of : ∀ {b : Addr} {o : Obj}, s₁.heap.get? b = some o → H b = none → (hidT s₁.heap H).get? b = some o := fun e n => hidT_get e n
  have noA : ∀ {b : Addr} {o : Obj} {es : Array DictEntry} {ep : Nat}, s₁.heap.get? b = some o → o.data = .dict es ep → H b = none := fun {b o es ep} e d => by
   cases q : H b with
   | none => rfl
   | some u =>
    have e' : b = a := hA b (by rw [q]; simp)
    subst e'
    rw [ha] at e; cases e
    have d' : Data.seq vs.toArray _ = Data.dict es ep := d
    cases d'
  have nsK : ∀ {b : Addr} {m : Str → Option Value}, s₁.heap.Ns b m → (hidT s₁.heap H).Ns b m := fun {b m} ⟨o, es, ep, e, d, r⟩ => ⟨o, es, ep, base_of e (noA e d), d, r⟩
  have hKb : K.In (hidT s₁.heap H) := fun b o e => base_of (KX b o e) (by
   cases q : H b with
   | none => rfl
   | some u =>
    have e' : b = a := hA b (by rw [q]; simp)
    subst e'
    rw [hK (by rw [q]; simp)] at e; cases e)
  have hM : Mod K mg (hidT s₁.heap H) := ⟨hKb, nsK hns, ⟨mb, nsK hb, hbb⟩, let ⟨mc, h1, h2⟩ := hlim; ⟨mc, nsK h1, h2⟩⟩
  have e0 : Env0 P w K mg (hidT s₁.heap H) callerA [] s₁ H := ⟨rfl, hM, fun b o e => of_hidT e, Nat.le_of_eq (hidT_size _ _), trivial, fun b hb => absurd (show b ∈ ([] : List Addr) from hb) (by simp), hok, .of_eq hg⟩
  refine codeAny_mono ((F _ hKb (nsK hns)).run callerA [] s₁ H ⟨[.ref a], []⟩ [.ref a] [.ref a] _ _ hr e0 (hbind s₁ (.ref a)) (.cons rfl .nil) (hsp H hO hS)) fun r s' h => ?_
  cases r with
  | error e => exact (hCX H e s' h).elim
  | ok fl =>
   cases fl with
   | next => exact False.elim h
   | brk => exact False.elim h
   | cont => exact False.elim h
   | ret u =>
    obtain ⟨v, H', os, bare, un, hok', r', q⟩ := h
    have q' : v = .bl true := q
    subst q'
    obtain rfl : u = Value.bool true := r'
    refine ⟨rfl, OldK.of_keep fun b o e => ?_, os, bare⟩
    cases q : H b with
    | none => exact un.keep b o e q (by intro z; exact absurd (show b ∈ ([] : List Addr) from z) (by simp)) (by simp)
    | some u =>
     rcases hO b with z | ⟨ob, xs, z⟩
     ·rw [q] at z; cases z
     ·have z2 := un.frzs b ob _ z
      obtain ⟨e1, _⟩ := hok b _ z
      obtain ⟨e2, _⟩ := hok' b _ z2
      rw [e] at e1; cases e1
      exact e2
 cases hk : K.lookup a with
 | some o =>
  -- the script is one of the module's own objects
  have e := KX a o hk
  rw [ha] at e
  cases e
  refine core (fun _ => none) (fun _ => .inl rfl) (.inr ⟨_, vs.toArray, _, hk, rfl, rfl, rfl, by rw [List.size_toArray, lenV]; exact hl, by simpa using rv⟩) (fun b u z => by have z' : (none : Option HO) = some u := z; cases z') (fun b z => absurd rfl z) fun z => absurd rfl z
 | none =>
  refine core (fun b => if b = a then some (.frz { cls := .type "list", data := .seq vs.toArray } (.lst (ns.map V.int))) else none) (fun b => ?_) (.inl (.inr ⟨{ cls := .type "list", data := .seq vs.toArray }, if_pos rfl⟩)) (fun b u z => ?_) (fun b z => ?_) fun _ => hk
  ·by_cases hb : b = a
   ·exact .inr ⟨_, _, if_pos hb⟩
   ·exact .inl (if_neg hb)
  ·by_cases hb : b = a
   ·have z' := (if_pos hb).symm.trans z
    cases z'
    subst hb
    exact ⟨ha, by rw [List.length_map]; exact hl, vs, _, rv, ha⟩
   ·have z' := (if_neg hb).symm.trans z
    cases z'
  ·by_cases hb : b = a
   ·exact hb
   ·exact absurd (if_neg hb) z
end L2
namespace L2
open PySem PySem.Spec PyProof.Rows
end L2
namespace L2
open PySem PySem.Spec PyProof.Rows
def inClass (s : Stmt) (j : Nat) : Stmt := match s with
 | .ClassDef _ _ _ body _ _ _ _ _ _ _ => body.getD j (.Pass ⟨0, 0, 0, 0⟩)
 | _ => .Pass ⟨0, 0, 0, 0⟩
def defArgs (s : Stmt) : Arguments := match s with
 | .FunctionDef _ a _ _ _ _ _ _ _ _ => a
 | _ => { posonlyargs := [], args := [], vararg := none, kwonlyargs := [], kw_defaults := [], kwarg := none, defaults := [] }
def defBody (s : Stmt) : List Stmt := match s with
 | .FunctionDef _ _ b _ _ _ _ _ _ _ => b
 | _ => []
def defScope (s : Stmt) : Scope := match s with
 | .FunctionDef _ _ _ _ _ _ sc _ _ _ => sc
 | _ => { kind := .function, names := [], isGenerator := false, isCoroutine := false }
abbrev CX0 : CXT := fun _ _ _ _ _ _ => False
abbrev E0 : XK := fun _ _ _ => False
theorem pass0 {X : Cx} : Passes CX0 X E0 := fun _ _ _ _ _ _ _ h => h.elim
structure Fun (K : PySem.W.Frag) (x qual : Str) (st : Stmt) (f : Addr) (fd : FuncData) : Prop where
 ex : ∃ (oc : Value) (od : Option Addr) (kV doc pm : Value) (an : Option Addr) (cdv ct : Value) (osl : Array (Option Value)),
  fd = PySem.W.fnOf x qual (defArgs st) (defBody st) (defScope st) .none kV doc pm an cdv ct ∧ K.lookup f = some ⟨oc, od, .func fd, osl⟩ ∧ PySem.W.codeIn K cdv qual = true
 kp : PySem.W.keepIn K (.ref f) = true
section
variable {P : Program} {w : World} {K : PySem.W.Frag} {mg : Str → Option Value} {base : Heap}
theorem Fun.ok {x qual : Str} {st : Stmt} {f : Addr} {fd : FuncData} {N ps : List Str} {k : Nat} {sp : Sp} (F : Fun K x qual st f fd) (S : FnScope N ps (defScope st)) (len : ∀ vs H Q E, sp vs H Q E → vs.length = ps.length)
  (hbody : ∀ (cdv : Value) (A : Around) (outer : List Env) (s : Shared) (H : Hp) (vs : List V) (Q : VK) (E : XK), Room k (A.deeper (envOfC qual (defScope st) s.heap.objs.size f cdv)) → sp vs H Q E →
   ∃ t, PSs (cxOf CX0 P w K mg base N qual (defScope st) f cdv A outer s H E).nox (defBody st) t ∧ t { nx := fun _ H' => Q .non H', rt := Q } (start N vs) H) : FnOk P w K mg base CX0 (k + 1) f fd ps sp := by
 obtain ⟨oc, od, kV, doc, pm, an, cdv, ct, osl, rfl, lk, hcd⟩ := F.ex
 refine fn_of lk hcd S len fun A outer s H vs Q E hr hsp => ?_
 obtain ⟨t, h, q⟩ := hbody cdv A outer s H vs Q E hr hsp
 exact ⟨t, h.nox, q⟩
theorem Fun.binds {x qual : Str} {st : Stmt} {f : Addr} {fd : FuncData} {ps : List Str} (F : Fun K x qual st f fd)
  (h : ∀ (kV doc pm : Value) (an : Option Addr) (cdv ct : Value) (us : List Value), us.length = ps.length → bindArgs (PySem.W.fnOf x qual (defArgs st) (defBody st) (defScope st) .none kV doc pm an cdv ct) ⟨us, []⟩ = pure (ps.zip us)) : Binds K fd ps [] := by
 obtain ⟨oc, od, kV, doc, pm, an, cdv, ct, osl, rfl, lk, hcd⟩ := F.ex
 exact .all (h kV doc pm an cdv ct)
theorem fun_mk {x qual : Str} {st : Stmt} {f : Addr} {oc : Value} {od an : Option Addr} {osl : Array (Option Value)} {kV doc pm cdv ct : Value} (l : K.lookup f = some ⟨oc, od, .func (PySem.W.fnOf x qual (defArgs st) (defBody st) (defScope st) .none kV doc pm an cdv ct), osl⟩)
  (c : PySem.W.codeIn K cdv qual = true) (k : PySem.W.keepIn K (.ref f) = true) : Fun K x qual st f (PySem.W.fnOf x qual (defArgs st) (defBody st) (defScope st) .none kV doc pm an cdv ct) := ⟨⟨oc, od, kV, doc, pm, an, cdv, ct, osl, rfl, l, c⟩, k⟩
end
theorem hu_of {A : Around} {k : Nat} (hr : Room k A) : A.units + 1 < cLine := Nat.lt_of_le_of_lt (Nat.add_le_add_left (by decide : 1 ≤ 64) _) hr.units
theorem small1000 {n : Nat} (h : n ≤ 1000) : n < sizeLine := Nat.lt_of_le_of_lt h (by decide)
section
variable {X : Cx}
end
theorem ite2 {c A B : Prop} [Decidable c] (h1 : c → A) (h2 : ¬ c → B) : if c then A else B := by
 by_cases h : c
 ·rw [if_pos h]
  exact h1 h
 ·rw [if_neg h]
  exact h2 h
def Same (H H' : Hp) : Prop := ∀ b o, H b = some o → H' b = some o
theorem Same.trans {H H1 H2 : Hp} (a : Same H H1) (b : Same H1 H2) : Same H H2 := fun c o h => b c o (a c o h)
theorem Same.free {H H' : Hp} (e : Same H H') {l : Addr} (h : H' l = Option.none) : H l = Option.none := by
 cases q : H l with
 | none => rfl
 | some o =>
  rw [e l o q] at h
  cases h
theorem Same.seq {K : PySem.W.Frag} {H H' : Hp} {a : Addr} {xs : List V} (e : Same H H') (h : SqL K H a xs) : SqL K H' a xs := by
 rcases h with (h | ⟨o, h⟩) | h
 ·exact .inl (.inl (e _ _ h))
 ·exact .inl (.inr ⟨o, e _ _ h⟩)
 ·exact .inr h
end L2
namespace L2
open PySem PySem.Spec PyProof.Rows
section
variable {κ : Type} [DecidableEq κ]
def valV (kvs : List (κ × V)) (k : κ) : Option V := (kvs.find? fun kv => decide (kv.1 = k)).map (·.2)
def putK (kvs : List (κ × V)) (k : κ) (v : V) : List (κ × V) :=
 if (kvs.any fun kv => decide (kv.1 = k)) = true then kvs.map (fun kv => if kv.1 = k then (kv.1, v) else kv) else kvs ++ [(k, v)]
def dropK (kvs : List (κ × V)) (k : κ) : List (κ × V) := kvs.filter fun kv => decide (kv.1 ≠ k)
theorem valV_pos {p : κ × V} {r : List (κ × V)} {k : κ} (e : p.1 = k) : valV (p :: r) k = some p.2 := by simp [valV, List.find?_cons, e]
theorem valV_neg {p : κ × V} {r : List (κ × V)} {k : κ} (e : ¬ p.1 = k) : valV (p :: r) k = valV r k := by simp [valV, List.find?_cons, e]
theorem valV_any (k : κ) : ∀ kvs : List (κ × V), (kvs.any fun kv => decide (kv.1 = k)) = (valV kvs k).isSome
 | [] => rfl
 | p :: r => by
  rw [List.any_cons]
  by_cases e : p.1 = k
  ·simp only [valV_pos e, decide_eq_true e, Bool.true_or, Option.isSome_some]
  ·rw [valV_neg e, decide_eq_false e, Bool.false_or]; exact valV_any k r
theorem length_putK (kvs : List (κ × V)) (k : κ) (v : V) : (putK kvs k v).length ≤ kvs.length + 1 := by
 unfold putK
 split
 ·rw [List.length_map]; omega
 ·rw [List.length_append, List.length_cons, List.length_nil]; omega
theorem RelO.isSome_eq {o : Option V} {u : Option Value} (r : RelO o u) : o.isSome = u.isSome := by
 cases o with
 | none => cases u with
  | none => rfl
  | some _ => exact (show False from r).elim
 | some _ => cases u with
  | none => exact (show False from r).elim
  | some _ => rfl
theorem KV.val {kvs : List (κ × V)} {vs : List (κ × Value)} (r : KV kvs vs) (k : κ) : RelO (valV kvs k) (valueAt vs k) := by
 unfold KV at r
 induction r with
 | nil => exact True.intro
 | @cons p q ps qs h t ih =>
  obtain ⟨h1, h2⟩ := h
  by_cases e : p.1 = k
  ·have e' : q.1 = k := h1.symm.trans e
   have b : valueAt (q :: qs) k = some q.2 := by simp [valueAt, List.find?_cons, e']
   rw [valV_pos e, b]; exact h2
  ·have e' : ¬ q.1 = k := fun z => e (h1.trans z)
   have b : valueAt (q :: qs) k = valueAt qs k := by simp [valueAt, List.find?_cons, e']
   rw [valV_neg e, b]; exact ih
theorem KV.any {kvs : List (κ × V)} {vs : List (κ × Value)} (r : KV kvs vs) (k : κ) : (kvs.any fun kv => decide (kv.1 = k)) = vs.any fun kv => decide (kv.1 = k) := by
 unfold KV at r
 induction r with
 | nil => rfl
 | cons h t ih => rw [List.any_cons, List.any_cons, ih, h.1]
theorem KV.repl {kvs : List (κ × V)} {vs : List (κ × Value)} (r : KV kvs vs) (k : κ) {y : V} {u : Value} (ry : RelV y u) :
  KV (kvs.map fun kv => if kv.1 = k then (kv.1, y) else kv) (vs.map fun kv => if kv.1 = k then (kv.1, u) else kv) := by
 unfold KV at r ⊢
 induction r with
 | nil => exact .nil
 | @cons p q ps qs h t ih =>
  rw [List.map_cons, List.map_cons]
  refine .cons ?_ ih
  obtain ⟨h1, h2⟩ := h
  by_cases e : p.1 = k
  ·rw [if_pos e, if_pos (h1.symm.trans e)]; exact ⟨h1, ry⟩
  ·rw [if_neg e, if_neg (fun z => e (h1.trans z))]; exact ⟨h1, h2⟩
theorem KV.put {kvs : List (κ × V)} {vs : List (κ × Value)} (r : KV kvs vs) (k : κ) {y : V} {u : Value} (ry : RelV y u) : KV (putK kvs k y) (stored vs k u) := by
 unfold putK stored
 rw [r.any k]
 by_cases e : (vs.any fun kv => decide (kv.1 = k)) = true
 ·rw [if_pos e, if_pos e]; exact r.repl k ry
 ·rw [if_neg e, if_neg e]; exact Paired.snoc r ⟨rfl, ry⟩
theorem KV.drop {kvs : List (κ × V)} {vs : List (κ × Value)} (r : KV kvs vs) (k : κ) : KV (dropK kvs k) (without vs k) := by
 unfold KV at r ⊢
 unfold dropK without
 induction r with
 | nil => exact .nil
 | @cons p q ps qs h t ih =>
  obtain ⟨h1, h2⟩ := h
  rw [List.filter_cons, List.filter_cons]
  by_cases e : p.1 = k
  ·have a : ¬ decide (p.1 ≠ k) = true := by simp [e]
   have b : ¬ decide (q.1 ≠ k) = true := by simp [h1.symm.trans e]
   rw [if_neg a, if_neg b]; exact ih
  ·have e' : ¬ q.1 = k := fun z => e (h1.trans z)
   have a : decide (p.1 ≠ k) = true := by simp [e]
   have b : decide (q.1 ≠ k) = true := by simp [e']
   rw [if_pos a, if_pos b]; exact .cons ⟨h1, h2⟩ ih
theorem KV.keys {kvs : List (κ × V)} {vs : List (κ × Value)} (r : KV kvs vs) : kvs.map (·.1) = vs.map (·.1) := by
 unfold KV at r
 induction r with
 | nil => rfl
 | cons h t ih => rw [List.map_cons, List.map_cons, ih, h.1]
theorem KV.length {kvs : List (κ × V)} {vs : List (κ × Value)} (r : KV kvs vs) : kvs.length = vs.length := Paired.length r
theorem dropK_le (kvs : List (κ × V)) (k : κ) : (dropK kvs k).length ≤ kvs.length := List.length_filter_le _ _
end
theorem kV_is {P : Program} {w : World} {k : Key} {u : Value} (r : RelV (kV k) u) : (mixKind P w).is k u = true := by
 cases k with
 | inl i => obtain ⟨t, e⟩ := (show ∃ t, u = Value.int i t from r); subst e; exact mixKind_int P w i t
 | inr x => obtain ⟨t, e⟩ := (show ∃ t, u = Value.str x t from r); subst e; exact mixKind_str P w x t
theorem items_are {P : Program} {w : World} : ∀ {ks : List Key} {us : List Value}, Vals (ks.map kV) us → ItemsAre (mixKind P w) ks us
 | [], _, r => by rw [List.map_nil] at r; cases r; exact .nil
 | k :: ks, _, r => by
  rw [List.map_cons] at r
  cases r with
  | cons h t => exact .cons (kV_is h) (items_are t)
abbrev KT (H : Hp) : List (List Key × V) → List (List Key × Addr × Value) → Prop := Paired fun p q => p.1 = q.1 ∧ H q.2.1 = some (.tup (p.1.map kV)) ∧ RelV p.2 q.2.2
theorem KT.val {H : Hp} {kvs : List (List Key × V)} {xs : List (List Key × Addr × Value)} (r : KT H kvs xs) (k : List Key) : RelO (valV kvs k) ((atKey xs k).map (·.2)) := by
 induction r with
 | nil => exact True.intro
 | @cons p q ps qs h t ih =>
  obtain ⟨h1, _, h2⟩ := h
  by_cases e : p.1 = k
  ·have e' : q.1 = k := h1.symm.trans e
   have b : atKey (q :: qs) k = some q.2 := by simp [atKey, List.find?_cons, e']
   rw [valV_pos e, b]; exact h2
  ·have e' : ¬ q.1 = k := fun z => e (h1.trans z)
   have b : atKey (q :: qs) k = atKey qs k := by simp [atKey, List.find?_cons, e']
   rw [valV_neg e, b]; exact ih
theorem KT.repl {H : Hp} {kvs : List (List Key × V)} {xs : List (List Key × Addr × Value)} (r : KT H kvs xs) (k : List Key) {y : V} {u : Value} (ry : RelV y u) :
  KT H (kvs.map fun kv => if kv.1 = k then (kv.1, y) else kv) (xs.map (putAt k u)) := by
 induction r with
 | nil => exact .nil
 | @cons p q ps qs h t ih =>
  rw [List.map_cons, List.map_cons]
  refine .cons ?_ ih
  obtain ⟨h1, h2, h3⟩ := h
  unfold putAt
  by_cases e : p.1 = k
  ·rw [if_pos e, if_pos (h1.symm.trans e)]; exact ⟨h1, h2, ry⟩
  ·rw [if_neg e, if_neg (fun z => e (h1.trans z))]; exact ⟨h1, h2, h3⟩
theorem KT.put {H : Hp} {kvs : List (List Key × V)} {xs : List (List Key × Addr × Value)} (r : KT H kvs xs) (k : List Key) {b : Addr} {y : V} {u : Value} (hb : H b = some (.tup (k.map kV))) (ry : RelV y u) :
  KT H (putK kvs k y) (storedH xs k b u) := by
 have e : (kvs.any fun kv => decide (kv.1 = k)) = (atKey xs k).isSome := by
  rw [valV_any, (r.val k).isSome_eq, Option.isSome_map]
 unfold putK storedH
 rw [e]
 by_cases q : (atKey xs k).isSome = true
 ·rw [if_pos q, if_pos q]; exact r.repl k ry
 ·rw [if_neg q, if_neg q]; exact Paired.snoc r ⟨rfl, hb, ry⟩
theorem KT.keeps {H H' : Hp} {kvs : List (List Key × V)} {xs : List (List Key × Addr × Value)} (r : KT H kvs xs) (ht : ∀ b ys, H b = some (.tup ys) → H' b = some (.tup ys)) : KT H' kvs xs :=
 Paired.mapP r fun _ _ z => ⟨z.1, ht _ _ z.2.1, z.2.2⟩
section
variable {P : Program} {w : World} {H : Hp} {h : Heap} {a : Addr}
theorem rd_of {u : HO} (ok : HOk P w H h) (e : Rd H a u) : ObjOk P w H h a u := e.ok ok
theorem dk_rd {kvs : List (Key × V)} (ok : HOk P w H h) (e : Rd H a (.dK kvs)) : kvs.length ≤ sizeLine ∧ (a == sysModules) = false ∧ ∃ vs, KV kvs vs ∧ h.DictOf (mixKind P w) a vs :=
 show ObjOk P w H h a (.dK kvs) from rd_of ok e
theorem dk_of {kvs : List (Key × V)} (ok : HOk P w H h) (e : H a = some (.dK kvs)) : kvs.length ≤ sizeLine ∧ (a == sysModules) = false ∧ ∃ vs, KV kvs vs ∧ h.DictOf (mixKind P w) a vs := dk_rd ok (.inl e)
theorem key_of {ks : List Key} (ok : HOk P w H h) (e : H a = some (.tup (ks.map kV))) : (tupleKind (mixKind P w)).is h ks a := by
 obtain ⟨_, its, r, o, h1, h2, n, h3⟩ := (show ObjOk P w H h a (.tup (ks.map kV)) from ok a _ e)
 exact ⟨o, its.toArray, n, h1, h2, h3, by simpa using items_are r⟩
theorem dt_rd {kvs : List (List Key × V)} (ok : HOk P w H h) (e : Rd H a (.dT kvs)) : kvs.length ≤ sizeLine ∧ (a == sysModules) = false ∧
  ∃ xs, KT H kvs xs ∧ h.DictOfH (tupleKind (mixKind P w)) a xs := by
 obtain ⟨z, y, xs, r, o, es, ep, h1, h2, h3, h4, h5⟩ := (show ObjOk P w H h a (.dT kvs) from rd_of ok e)
 refine ⟨z, y, xs, r, o, es, ep, h1, h2, h3, h4, fun x hx => ?_, h5⟩
 have all : ∀ {l : List (List Key × V)} {m : List (List Key × Addr × Value)}, KT H l m → ∀ x ∈ m, (tupleKind (mixKind P w)).is h x.1 x.2.1 := by
  intro l m q
  induction q with
  | nil => intro x hx; exact nomatch hx
  | @cons p q ps qs hq t ih =>
   intro x hx
   rcases List.mem_cons.mp hx with e | hx
   ·subst e
    exact key_of ok (by rw [← hq.1]; exact hq.2.1)
   ·exact ih x hx
 exact all r x hx
theorem dt_of {kvs : List (List Key × V)} (ok : HOk P w H h) (e : H a = some (.dT kvs)) : kvs.length ≤ sizeLine ∧ (a == sysModules) = false ∧
  ∃ xs, KT H kvs xs ∧ h.DictOfH (tupleKind (mixKind P w)) a xs := dt_rd ok (.inl e)
end
def DGet (H : Hp) (a : Addr) (y : V) (r : Option V) : Prop :=
 (∃ kvs k, Rd H a (.dK kvs) ∧ y = kV k ∧ r = valV kvs k) ∨ ∃ kvs k b, Rd H a (.dT kvs) ∧ y = .ref b ∧ H b = some (.tup (k.map kV)) ∧ r = valV kvs k
def DPut (H : Hp) (a : Addr) (y v : V) (H' : Hp) : Prop :=
 (∃ kvs k, H a = some (.dK kvs) ∧ y = kV k ∧ kvs.length < sizeLine ∧ H' = upd H a (.dK (putK kvs k v))) ∨
 ∃ kvs k b, H a = some (.dT kvs) ∧ y = .ref b ∧ H b = some (.tup (k.map kV)) ∧ kvs.length < sizeLine ∧ H' = upd H a (.dT (putK kvs k v))
theorem DGet.k {H : Hp} {a : Addr} {kvs : List (Key × V)} {k : Key} (e : H a = some (.dK kvs)) : DGet H a (kV k) (valV kvs k) := .inl ⟨kvs, k, .inl e, rfl, rfl⟩
theorem DGet.t {H : Hp} {a b : Addr} {kvs : List (List Key × V)} {k : List Key} (e : H a = some (.dT kvs)) (eb : H b = some (.tup (k.map kV))) : DGet H a (.ref b) (valV kvs k) := .inr ⟨kvs, k, b, .inl e, rfl, eb, rfl⟩
theorem DPut.k {H : Hp} {a : Addr} {kvs : List (Key × V)} {k : Key} {v : V} (e : H a = some (.dK kvs)) (hl : kvs.length < sizeLine) : DPut H a (kV k) v (upd H a (.dK (putK kvs k v))) := .inl ⟨kvs, k, e, rfl, hl, rfl⟩
theorem DPut.t {H : Hp} {a b : Addr} {kvs : List (List Key × V)} {k : List Key} {v : V} (e : H a = some (.dT kvs)) (eb : H b = some (.tup (k.map kV))) (hl : kvs.length < sizeLine) :
  DPut H a (.ref b) v (upd H a (.dT (putK kvs k v))) := .inr ⟨kvs, k, b, e, rfl, eb, hl, rfl⟩
section
variable {X : Cx} {pins : List (Addr × Obj)} {σ : St} {H : Hp} {s : Shared} {a : Addr} {y v : V} {u r : Value} {o : Option V} {A : Around} {E : Value → Shared → Prop}
theorem Inv.big (I : Inv X pins σ H s) : sysModules < s.heap.objs.size := by
 have h : mainGlobals < s.heap.objs.size := (I.mod.glob.keeps I.bk).lt
 exact Nat.lt_trans (by decide) h
theorem d_in {Q : Value → Shared → Prop} (hu : A.units + 1 < cLine) (I : Inv X pins σ H s) (g : DGet H a y o) (ry : RelV y u) (h : ∀ s', Inv X pins σ H s' → Q (.bool o.isSome) s') :
  wpAny (model X.prog X.w) A (compareOp .In u (.ref a)) Q E s := by
 rcases g with ⟨kvs, k, e, ey, l⟩ | ⟨kvs, k, b, e, ey, eb, l⟩
 ·subst ey
  obtain ⟨z, hd, vs, rel, dd⟩ := dk_rd I.hok e
  refine wpAny_in_of (kV_is ry) hd dd.mapOf ?_
  rw [← (rel.val k).isSome_eq, ← l]
  exact h _ (I.tok _)
 ·subst ey
  cases (show u = Value.ref b from ry)
  obtain ⟨z, hd, xs, rel, dd⟩ := dt_rd I.hok e
  refine wpAny_in_heap (tupleKind_room_in1 hu) (key_of I.hok eb) hd dd ?_
  have q := (rel.val k).isSome_eq
  rw [Option.isSome_map] at q
  rw [← q, ← l]
  exact h _ (I.tok _)
theorem d_notIn {Q : Value → Shared → Prop} (hu : A.units + 1 < cLine) (I : Inv X pins σ H s) (g : DGet H a y o) (ry : RelV y u) (h : ∀ s', Inv X pins σ H s' → Q (.bool (!o.isSome)) s') :
  wpAny (model X.prog X.w) A (compareOp .NotIn u (.ref a)) Q E s := by
 rcases g with ⟨kvs, k, e, ey, l⟩ | ⟨kvs, k, b, e, ey, eb, l⟩
 ·subst ey
  obtain ⟨z, hd, vs, rel, dd⟩ := dk_rd I.hok e
  refine wpAny_notIn_of (kV_is ry) hd dd.mapOf ?_
  rw [← (rel.val k).isSome_eq, ← l]
  exact h _ (I.tok _)
 ·subst ey
  cases (show u = Value.ref b from ry)
  obtain ⟨z, hd, xs, rel, dd⟩ := dt_rd I.hok e
  refine wpAny_notIn_heap (tupleKind_room_in1 hu) (key_of I.hok eb) hd dd ?_
  have q := (rel.val k).isSome_eq
  rw [Option.isSome_map] at q
  rw [← q, ← l]
  exact h _ (I.tok _)
theorem d_write {h' : Heap} {t' : Nat} {ob : HO} (I : Inv X pins σ H s) (mu : Mut (H a)) (hs : Heap.SameBut a s.heap h') (he : ∃ q, h'.get? a = some q) (new : ObjOk X.prog X.w (upd H a ob) h' a ob) :
  Inv X pins σ (upd H a ob) { s with heap := h', toks := t' } :=
 I.write (x := a) (e := a) mu (.inl rfl) (fun b q hb z => (hs.2 b hb).trans z) he new
theorem dk_new {P : Program} {w : World} {H' : Hp} {h' : Heap} {kvs : List (Key × V)} {vs : List (Key × Value)} (z : kvs.length ≤ sizeLine) (hd : (a == sysModules) = false) (rel : KV kvs vs) (dd : h'.DictOf (mixKind P w) a vs) :
  ObjOk P w H' h' a (.dK kvs) := ⟨z, hd, vs, rel, dd⟩
theorem d_setItem {H' : Hp} {Q : Unit → Shared → Prop} (hu : A.units + 1 < cLine) (I : Inv X pins σ H s) (g : DPut H a y v H') (ry : RelV y u) (rv : RelV v r) (h : ∀ s', Inv X pins σ H' s' → Q () s') :
  wpAny (model X.prog X.w) A (setItem (.ref a) u r) Q E s := by
 rcases g with ⟨kvs, k, e, ey, l, eH⟩ | ⟨kvs, k, b, e, ey, eb, l, eH⟩
 ·subst ey eH
  obtain ⟨z, hd, vs, rel, dd⟩ := dk_of I.hok e
  have hz : vs.length ≤ sizeLine := by rw [← rel.length]; exact z
  have hl : (putK kvs k v).length ≤ sizeLine := by have := length_putK kvs k v; omega
  refine wpAny_setItem_pairs (hsz := hz) (kV_is ry) dd fun h' dd' hs => h _ ?_
  have he : ∃ q, h'.get? a = some q := let ⟨q, _, _, hq, _⟩ := dd'; ⟨q, hq⟩
  exact d_write I (by rw [e]; exact True.intro) hs he (dk_new hl hd (rel.put k rv) dd')
 ·subst ey eH
  cases (show u = Value.ref b from ry)
  obtain ⟨z, hd, xs, rel, dd⟩ := dt_of I.hok e
  have hz : xs.length ≤ sizeLine := by rw [← Paired.length rel]; exact z
  have hl : (putK kvs k v).length ≤ sizeLine := by have := length_putK kvs k v; omega
  refine wpAny_setItem_heap (hsz := hz) (tupleKind_room_in1 hu) (key_of I.hok eb) dd fun h' dd' hs => h _ ?_
  obtain ⟨q, es, ep, hq, h2, h3, h4, _, h5⟩ := dd'
  refine d_write I (by rw [e]; exact True.intro) hs ⟨q, hq⟩ ⟨hl, hd, _, (rel.put k eb rv).keeps fun c ys ec => ?_, q, es, ep, hq, h2, h3, h4, h5⟩
  rw [upd_ne (ne_of ec e (fun z => nomatch z))]
  exact ec
end
section
variable {X : Cx} {pins : List (Addr × Obj)} {σ : St} {H : Hp} {s : Shared} {a : Addr} {kvs : List (Key × V)} {k : Key} {u : Value} {A : Around} {E : Value → Shared → Prop}
theorem d_pop {v : V} {more : List Value} {Q : Value → Shared → Prop} (I : Inv X pins σ H s) (e : H a = some (.dK kvs)) (ry : RelV (kV k) u) (l : valV kvs k = some v) (hm : more = [] ∨ ∃ x, more = [x])
  (h : ∀ w' s', Inv X pins σ (upd H a (.dK (dropK kvs k))) s' → RelV v w' → Q w' s') : wpAny (model X.prog X.w) A (call (.builtin "dict.pop") (.ref a :: u :: more)) Q E s := by
 obtain ⟨z, hd, vs, rel, dd⟩ := dk_of I.hok e
 obtain ⟨w', hw, rw'⟩ := RelO.some_of (v := v) (o := valueAt vs k) (by rw [← l]; exact rel.val k)
 have hp : (keyPart u).isSome = true := by
  cases k with
  | inl i => obtain ⟨t, q⟩ := (show ∃ t, u = Value.int i t from ry); subst q; rfl
  | inr x => obtain ⟨t, q⟩ := (show ∃ t, u = Value.str x t from ry); subst q; rfl
 have ha : argsOk "dict.pop" ⟨.ref a :: u :: more, []⟩ := by
  rcases hm with q | ⟨x, q⟩
  ·subst q; exact PySem.F.args_dict_pop_2 _ _
  ·subst q; exact PySem.F.args_dict_pop_3 _ _ _
 refine call_meetsIn PySem.F.slot_dict_pop dd.typeIs PySem.F.entry_dict_pop ha (meets_dict_pop_there (mixKind X.prog X.w) a (kV_is ry) more hm hp)
  ⟨vs, w', dd, by rw [← rel.length]; exact z, hw, fun h' dd' hs => h w' _ ?_ rw'⟩
 have he : ∃ q, h'.get? a = some q := let ⟨q, _, _, hq, _⟩ := dd'; ⟨q, hq⟩
 exact d_write I (by rw [e]; exact True.intro) hs he (dk_new (Nat.le_trans (dropK_le kvs k) z) hd (rel.drop k) dd')
theorem d_len {Q : Value → Shared → Prop} (I : Inv X pins σ H s) (e : Rd H a (.dK kvs)) (h : ∀ t s', Inv X pins σ H s' → Q (.int kvs.length t) s') : wpAny (model X.prog X.w) A (call (.builtin "len") [.ref a]) Q E s := by
 obtain ⟨z, hd, vs, rel, dd⟩ := dk_rd I.hok e
 refine call_len_dict hd dd (by rw [← rel.length]; rw [sizeLine_eq] at z; omega) ?_
 rw [← rel.length]
 exact h _ _ (I.tok _)
end
section
variable {X : Cx} {o i e value : Expr} {pos pos' tpos : Pos} {td ty tv : TE}
end
theorem dk_empty {P : Program} {w : World} {H : Hp} (h : Heap) (hb : sysModules < h.objs.size) : ObjOk P w H (h.push { cls := .type "dict", data := .dict #[] }) h.objs.size (.dK []) :=
 ⟨Nat.zero_le _, beq_eq_false_iff_ne.mpr (Ne.symm (Nat.ne_of_lt hb)), [], .nil, Heap.DictOf.new h⟩
def tDNewK : TE := fun _ H Q => ∀ p, H p = none → Q (.ref p) (upd H p (.dK []))
section
variable {X : Cx} {pos : Pos}
theorem pe_dnewK : PE X (.Dict [] [] pos) tDNewK := fun pins s σ H Q I h =>
 wpAny_Dict_empty ⟨.ref s.heap.objs.size, _, I.laid (a := s.heap.objs.size) (o := .dK []) (t' := s.toks) (fun _ _ q => Heap.get?_push_of_some _ q) (Nat.le_refl _) (dk_empty s.heap I.big), rfl, h _ (I.hok.fresh (Nat.le_refl _))⟩
end
structure M1 (X : Cx) (o : Expr) (m : Str) (apos : Pos) (e : Expr) (cpos : Pos) : Prop where
 base : attributeBase o m X.env (eval o X.env) = eval o X.env
 few : ((backTo cpos (starEach [e] X.env)).all (fun x => !x.1) && (backToKw cpos (keywordEach [] X.env)).all (fun x => x.1.isSome)
  && decide (([e] : List Expr).length + ([] : List Keyword).length + (if ([] : List Keyword).isEmpty then 0 else 1) < 30)) = true
 line : (apos.endLine == cpos.line) = true
 trees : backTo cpos (starEach [e] X.env) = [(false, eval e X.env)]
structure M2 (X : Cx) (o : Expr) (m : Str) (apos : Pos) (e f : Expr) (cpos : Pos) : Prop where
 base : attributeBase o m X.env (eval o X.env) = eval o X.env
 few : ((backTo cpos (starEach [e, f] X.env)).all (fun x => !x.1) && (backToKw cpos (keywordEach [] X.env)).all (fun x => x.1.isSome)
  && decide (([e, f] : List Expr).length + ([] : List Keyword).length + (if ([] : List Keyword).isEmpty then 0 else 1) < 30)) = true
 line : (apos.endLine == cpos.line) = true
 trees : backTo cpos (starEach [e, f] X.env) = [(false, eval e X.env), (false, eval f X.env)]
def IsD (H : Hp) (a : Addr) : Prop := (∃ kvs, Rd H a (.dK kvs)) ∨ ∃ kvs, Rd H a (.dT kvs)
theorem isD_at {X : Cx} {pins : List (Addr × Obj)} {σ : St} {H : Hp} {s : Shared} {a : Addr} (I : Inv X pins σ H s) (d : IsD H a) :
  s.TypeIs (.ref a) "dict" ∧ (∀ b, Value.ref a = .ref b → ∃ ob, s.heap.get? b = some ob ∧ ob.dict = none) ∧ (a == sysModules) = false := by
 rcases d with ⟨kvs, e⟩ | ⟨kvs, e⟩
 ·obtain ⟨_, hd, vs, _, dd⟩ := dk_rd I.hok e
  refine ⟨dd.typeIs, fun b q => ?_, hd⟩
  cases q
  obtain ⟨ob, _, _, h1, h2, _⟩ := dd
  exact ⟨ob, h1, h2.2.1⟩
 ·obtain ⟨_, hd, xs, _, dd⟩ := dt_rd I.hok e
  refine ⟨dd.typeIs, fun b q => ?_, hd⟩
  cases q
  obtain ⟨ob, _, _, h1, h2, _⟩ := dd
  exact ⟨ob, h1, h2.2.1⟩
section
variable {X : Cx} {pins : List (Addr × Obj)} {σ : St} {H : Hp} {s : Shared} {a : Addr} {y d : V} {u r : Value} {o : Option V} {A : Around} {E : Value → Shared → Prop}
end
def tDGet2 (td ty tx : TE) : TE := fun σ H Q => td σ H fun x H1 => ∃ a, x = .ref a ∧ IsD H1 a ∧ ty σ H1 fun y H2 => tx σ H2 fun z H3 => ∃ o, DGet H3 a y o ∧ Q (o.getD z) H3
def tDPop1 (td ty : TE) : TE := fun σ H Q => td σ H fun x H1 => ∃ a, x = .ref a ∧ IsD H1 a ∧ ty σ H1 fun y H2 => ∃ kvs k v, H2 a = some (.dK kvs) ∧ y = kV k ∧ valV kvs k = some v ∧ Q v (upd H2 a (.dK (dropK kvs k)))
section
variable {X : Cx} {o e f : Expr} {apos cpos : Pos} {td ty tx : TE}
theorem pe_dpop1 (ho : PE X o td) (he : PE X e ty) (m : M1 X o "pop" apos e cpos) : PE X (.Call (.Attribute o "pop" apos) [e] [] cpos) (tDPop1 td ty) := by
 intro pins s σ H Q I h
 refine wpAny_Call_method m.base m.few m.line PySem.F.plainAttrs_dict PySem.F.slot_dict_pop PySem.F.type_dict_pop (thn (ho pins s σ H _ I h) fun u s1 ⟨x, H1, I1, rx, a, ex, d, q1⟩ => ?_)
 subst ex
 obtain rfl : u = Value.ref a := rx
 obtain ⟨t1, t2, _⟩ := isD_at I1 d
 refine ⟨t1, t2, ?_⟩
 rw [m.trees]
 refine Calls.callWith_builtin rfl (Calls.evalArgs_plain (Calls.spliced_cons (thn (he pins s1 σ H1 _ I1 q1) fun iv s2 ⟨y, H2, I2, ry, kvs, k, v, ea, ey, l, q2⟩ => Calls.spliced_nil ?_)))
 subst ey
 exact d_pop I2 ea ry l (.inl rfl) fun w' s3 I3 rw' => ⟨v, _, I3, rw', q2⟩
end
section
variable {X : Cx} {pins : List (Addr × Obj)} {σ : St} {H : Hp} {s : Shared} {a : Addr} {kvs : List (Key × V)} {A : Around} {E : Value → Shared → Prop}
theorem d_copyOf {Q : Value → Shared → Prop} (I : Inv X pins σ H s) (e : Rd H a (.dK kvs)) (h : ∀ p s', H p = none → Inv X pins σ (upd H p (.dK kvs)) s' → Q (.ref p) s') : wpAny (model X.prog X.w) A (call (.type "dict") [.ref a]) Q E s := by
 obtain ⟨z, hd, vs, rel, dd⟩ := dk_rd I.hok e
 refine kt_call_dict hd dd (by rw [← rel.length]; exact z) fun h' dd' hs => ?_
 refine h _ _ (I.hok.fresh (Nat.le_refl _)) (I.laid (a := s.heap.objs.size) (o := .dK kvs) (t' := s.toks) (fun b q hq => ?_) (Nat.le_refl _) (dk_new z (beq_eq_false_iff_ne.mpr (Ne.symm (Nat.ne_of_lt I.big))) rel dd'))
 exact (hs.2 b (Nat.ne_of_lt (Heap.lt_size hq))).trans (Heap.get?_push_of_some _ hq)
end
section
variable {X : Cx} {pins : List (Addr × Obj)} {σ : St} {H : Hp} {s : Shared} {a : Addr} {y : V} {u : Value} {A : Around} {E : Value → Shared → Prop}
end
end L2
namespace My
theorem gcd_turn {a b : Int} : Int.gcd b (a % b) = Int.gcd a b := by
 rw [Int.emod_def, Int.gcd_comm a b]
 exact Int.gcd_sub_mul_left_right b a (a / b)
theorem gcd_turnN {a b : Int} : Int.gcd b (a.fmod b) = Int.gcd a b := by
 rw [Int.fmod_def, Int.gcd_comm a b]
 exact Int.gcd_sub_mul_left_right b a (a.fdiv b)
theorem fmod_lt_abs {a b : Int} (hb : b ≠ 0) : (a.fmod b).natAbs < b.natAbs := by
 rcases Int.lt_or_gt_of_ne hb with h | h
 ·have e : a.fmod b = -((-a).fmod (-b)) := by rw [Int.neg_fmod_neg, Int.neg_neg]
  have h1 := Int.fmod_nonneg_of_pos (-a) (b := -b) (by omega)
  have h2 := Int.fmod_lt_of_pos (-a) (b := -b) (by omega)
  omega
 ·have h1 := Int.fmod_nonneg_of_pos a h
  have h2 := Int.fmod_lt_of_pos a h
  omega
theorem emod_lt_nat {a b : Int} (hb : 0 < b) : (a % b).toNat < b.toNat := by
 have h1 := Int.emod_nonneg a (Int.ne_of_gt hb)
 have h2 := Int.emod_lt_of_pos a hb
 omega
theorem abs_ite (i : Int) : (if i < 0 then -i else i) = (i.natAbs : Int) := by
 split <;> omega
theorem gcd_abs (a b : Int) : Int.gcd (a.natAbs : Int) (b.natAbs : Int) = Int.gcd a b := by
 simp [Int.gcd]
def sgcd (t b : Int) : Int := if b < 0 then -(Int.gcd t b : Int) else (Int.gcd t b : Int)
theorem sgcd_ne {t b : Int} (hb : b ≠ 0) : sgcd t b ≠ 0 := by
 have h := Int.gcd_pos_of_ne_zero_right t hb
 unfold sgcd
 split <;> omega
theorem sgcd_dvd_left (t b : Int) : sgcd t b ∣ t := by
 unfold sgcd
 split
 ·exact Int.neg_dvd.mpr (Int.gcd_dvd_left t b)
 ·exact Int.gcd_dvd_left t b
theorem sgcd_dvd_right (t b : Int) : sgcd t b ∣ b := by
 unfold sgcd
 split
 ·exact Int.neg_dvd.mpr (Int.gcd_dvd_right t b)
 ·exact Int.gcd_dvd_right t b
theorem sgcd_abs (t b : Int) : (sgcd t b).natAbs = Int.gcd t b := by
 unfold sgcd
 split <;> simp
theorem fdiv_of_dvd {a d : Int} (h : d ∣ a) : a.fdiv d = a / d := by
 rw [Int.fdiv_eq_ediv_of_dvd h]
theorem sden_pos {t b : Int} (hb : b ≠ 0) : 0 < b / sgcd t b := by
 have hg := Int.gcd_pos_of_ne_zero_right t hb
 obtain ⟨k, hk⟩ := sgcd_dvd_right t b
 have e : b / sgcd t b = k := Int.ediv_eq_of_eq_mul_right (sgcd_ne hb) hk
 rw [e]
 unfold sgcd at hk
 generalize hG : (Int.gcd t b : Int) = g at hk
 have hg' : 0 < g := by omega
 by_cases h : 0 < k
 ·exact h
 ·exfalso
  have h2 : 0 ≤ g * (-k) := Int.mul_nonneg (by omega) (by omega)
  have h3 : g * (-k) = -(g * k) := Int.mul_neg g k
  split at hk
  ·have h4 : -g * k = -(g * k) := Int.neg_mul g k
   omega
  ·omega
theorem scop {t b : Int} (hb : b ≠ 0) : Int.gcd (t / sgcd t b) (b / sgcd t b) = 1 := by
 rw [Int.gcd_ediv (sgcd_dvd_left t b) (sgcd_dvd_right t b), sgcd_abs]
 exact Nat.div_self (Int.gcd_pos_of_ne_zero_right t hb)
theorem ratio_parts {t b : Int} (hb : b ≠ 0) : t / sgcd t b = (Rat.divInt t b).num ∧ b / sgcd t b = ((Rat.divInt t b).den : Int) := by
 have hp := sden_pos (t := t) hb
 have hc := scop (t := t) hb
 have hn := sgcd_ne (t := t) hb
 have e1 : t = sgcd t b * (t / sgcd t b) := (Int.mul_ediv_cancel' (sgcd_dvd_left t b)).symm
 have e2 : b = sgcd t b * (b / sgcd t b) := (Int.mul_ediv_cancel' (sgcd_dvd_right t b)).symm
 have hden : (b / sgcd t b).toNat ≠ 0 := by omega
 have hcop : (t / sgcd t b).natAbs.Coprime (b / sgcd t b).toNat := by
  have : (b / sgcd t b).natAbs = (b / sgcd t b).toNat := by omega
  rw [← this]; exact hc
 have key : Rat.divInt t b = ⟨t / sgcd t b, (b / sgcd t b).toNat, hden, hcop⟩ := by
  have : Rat.divInt (t / sgcd t b) (((b / sgcd t b).toNat : Nat) : Int) = ⟨t / sgcd t b, (b / sgcd t b).toNat, hden, hcop⟩ := by
   rw [Rat.divInt_ofNat]
   exact Rat.mkRat_self ⟨t / sgcd t b, (b / sgcd t b).toNat, hden, hcop⟩
  rw [← this]
  rw [Rat.divInt_eq_divInt_iff hb (by omega)]
  have e3 : (((b / sgcd t b).toNat : Nat) : Int) = b / sgcd t b := by omega
  rw [e3]
  conv => lhs; rw [e1]
  conv => rhs; rw [e2]
  grind
 constructor
 ·rw [key]
 ·rw [key]; show b / sgcd t b = (((b / sgcd t b).toNat : Nat) : Int); omega
theorem mul_lt_pow {x y : Int} {a b : Nat} (hx : x.natAbs < 2 ^ a) (hy : y.natAbs < 2 ^ b) : (x * y).natAbs < 2 ^ (a + b) := by
 rw [Int.natAbs_mul, Nat.pow_add]
 exact Nat.mul_lt_mul'' hx hy
theorem pow_mono {a c n : Nat} (h : n < 2 ^ a) (hac : a ≤ c) : n < 2 ^ c := Nat.lt_of_lt_of_le h (Nat.pow_le_pow_right (by decide) hac)
theorem divInt_num_le {t b : Int} (hb : b ≠ 0) : (Rat.divInt t b).num.natAbs ≤ t.natAbs := by
 rw [← (ratio_parts hb).1]
 exact Int.natAbs_ediv_le_natAbs _ _
theorem divInt_den_le {t b : Int} (hb : b ≠ 0) : (Rat.divInt t b).den ≤ b.natAbs := by
 have h : ((Rat.divInt t b).den : Int).natAbs ≤ b.natAbs := by
  rw [← (ratio_parts (t := t) hb).2]
  exact Int.natAbs_ediv_le_natAbs _ _
 simpa using h
theorem log2_lt_of {n k : Nat} (h : n < 2 ^ k) (hk : 0 < k) : n.log2 < k := by
 by_cases h0 : n = 0
 ·rw [h0]; simpa using hk
 ·exact (Nat.log2_lt h0).mpr h
theorem gcd_le_abs {t b : Int} (hb : b ≠ 0) : Int.gcd t b ≤ b.natAbs := Nat.le_of_dvd (by omega) (Nat.gcd_dvd_right _ _)
def SzQ (n : Nat) (q : Rat) : Prop := q.num.natAbs < 2 ^ n ∧ q.den < 2 ^ n
theorem SzQ.mono {n m : Nat} {q : Rat} (h : SzQ n q) (hm : n ≤ m) : SzQ m q := ⟨pow_mono h.1 hm, pow_mono h.2 hm⟩
theorem SzQ.of {n : Nat} {t b : Int} (hb : b ≠ 0) (ht : t.natAbs < 2 ^ n) (hb2 : b.natAbs < 2 ^ n) : SzQ n (Rat.divInt t b) :=
 ⟨Nat.lt_of_le_of_lt (divInt_num_le hb) ht, Nat.lt_of_le_of_lt (divInt_den_le hb) hb2⟩
theorem rat_den_ne (q : Rat) : (q.den : Int) ≠ 0 := by have := q.den_pos; omega
theorem sub_divInt (p q : Rat) : p - q = Rat.divInt (p.num * q.den - q.num * p.den) (p.den * q.den) := by
 conv => lhs; rw [← Rat.num_divInt_den p, ← Rat.num_divInt_den q]
 exact Rat.divInt_sub_divInt _ _ (rat_den_ne p) (rat_den_ne q)
theorem lt_cross (p q : Rat) : p < q ↔ p.num * q.den < q.num * p.den := Rat.lt_iff p q
theorem den_mul_ne (p q : Rat) : (p.den : Int) * q.den ≠ 0 := Int.mul_ne_zero (rat_den_ne p) (rat_den_ne q)
end My
set_option Elab.async false
set_option maxRecDepth 100000
namespace My
open PySem PySem.Spec L2
open PyProof.Rows hiding St
def plainE : Expr → Bool
 | .Starred .. => false
 | _ => true
theorem se_cons {e : Expr} {es : List Expr} {env : Env} (h : plainE e = true) : starEach (e :: es) env = (false, eval e env) :: starEach es env := by
 cases e <;> first | rfl | cases h
theorem se_any {env : Env} {pos : Pos} : ∀ {es : List Expr}, es.all plainE = true → (backTo pos (starEach es env)).any (·.1) = false
 | [], _ => rfl
 | e :: es, h => by
  rw [List.all_cons, Bool.and_eq_true] at h
  rw [se_cons h.1]
  have := se_any (env := env) (pos := pos) h.2
  unfold backTo at this ⊢
  simpa using this
section
variable {X : Cx} {e : Expr} {es : List Expr} {te : TE} {t : TA} {pos p : Pos} {x : Str} {id T : String} {r : List V → Hp → VK → Prop}
theorem pa_c (ha : PE X e te) (hr : PA X es t) (hp : plainE e = true := by rfl) : PA X (e :: es) (tCons te t) := pa_cons ha hr (se_cons hp)
theorem hd_plain {e : Expr} {es : List Expr} (h : (e :: es).all plainE = true) : plainE e = true ∧ es.all plainE = true := by
 rw [List.all_cons, Bool.and_eq_true] at h
 exact h
theorem pe_cB (hc : CallR X (.builtin id) r) (hg : Gl X x) (hm : X.mg x = none) (hv : bootBuiltins x = some (.builtin id)) (ha : PA X (e :: es) t) (hp : (e :: es).all plainE = true := by rfl) (hn : x ≠ "__name__" := by decide) (hdb : (x == ("__debug__" : Str)) = false := by decide) :
  PE X (.Call (.Name x p) (e :: es) [] pos) (tCB r t) := pe_callB hc hg hm hv ha hn hdb (se_cons (hd_plain hp).1) (se_any (hd_plain hp).2)
theorem pe_cTy (hc : CallR X (.type T) r) (hg : Gl X x) (hm : X.mg x = none) (hv : bootBuiltins x = some (.type T)) (ha : PA X (e :: es) t) (hp : (e :: es).all plainE = true := by rfl) (hn : x ≠ "__name__" := by decide) (hdb : (x == ("__debug__" : Str)) = false := by decide) :
  PE X (.Call (.Name x p) (e :: es) [] pos) (tCB r t) := pe_callTy hc hg hm hv ha hn hdb (se_cons (hd_plain hp).1) (se_any (hd_plain hp).2)
end
structure Fn (P : Program) (w : World) (K : PySem.W.Frag) (mg : Str → Option Value) (base : Heap) (CX : CXT) (k : Nat) (x : Str) (ps : List Str) (sp : Sp) : Prop where
 ex : ∃ (f : Addr) (fd : FuncData), FnOk P w K mg base CX k f fd ps sp ∧ Binds K fd ps [] ∧ PySem.W.keepIn K (.ref f) = true ∧ mg x = some (.ref f)
section
variable {X : Cx} {CX : CXT} {j k : Nat} {x : Str} {ps : List Str} {sp : Sp} {p pos : Pos} {e : Expr} {es : List Expr} {t : TA}
theorem pe_fn (F : Fn X.prog X.w X.K X.mg X.base CX0 j x ps sp) (hr : Room k X.A) (hj : j ≤ k) (hg : Gl X x) (ha : PA X (e :: es) t) (hp : (e :: es).all plainE = true := by rfl) (hdb : (x == ("__debug__" : Str)) = false := by decide) :
  PE X (.Call (.Name x p) (e :: es) [] pos) (tCall sp [] E0 t) := by
 obtain ⟨f, fd, G, b, kp, m⟩ := F.ex
 exact pe_call G (hr.mono hj) hg m kp b .nil pass0 ha hdb (se_cons (hd_plain hp).1) (se_any (hd_plain hp).2)
end
section
variable {X : Cx}
theorem op_fdivL : OpR X (binaryOp .FloorDiv) (rI (fun _ j => j ≠ 0 ∧ j.natAbs.log2 < 9000) fun i j => .int (i.fdiv j)) :=
 opI fun _ _ _ _ _ _ _ hc q => floordiv_int hc.1 q (.inl (PyProof.noPylong_of_log2 hc.2))
theorem op_mulL : OpR X (binaryOp .Mult) (rI IntMulOk fun i j => .int (i * j)) := opI fun _ _ _ _ _ _ _ hc q => mul_int q hc
end
def kindV (H : Hp) : V → Option String
 | .non => some "NoneType"
 | .bl _ => some "bool"
 | .int _ => some "int"
 | .str _ => some "str"
 | .ref a => match H a with
  | some (.lst _) => some "list"
  | some (.tup _) => some "tuple"
  | some (.dK _) => some "dict"
  | _ => none
 | _ => none
def kinds : List String := ["NoneType", "bool", "int", "str", "list", "tuple", "dict"]
def asks : List String := ["bool", "int", "str", "list", "tuple", "dict"]
def isA (t n : String) : Bool := t == n || (t == "bool" && n == "int")
theorem kind_bl (H : Hp) (x : Bool) : kindV H (.bl x) = some "bool" := rfl
theorem kind_int (H : Hp) (i : Int) : kindV H (.int i) = some "int" := rfl
theorem kind_tup {H : Hp} {a : Addr} {xs : List V} (h : H a = some (.tup xs)) : kindV H (.ref a) = some "tuple" := by unfold kindV; dsimp only; rw [h]
theorem kind_lst {H : Hp} {a : Addr} {xs : List V} (h : H a = some (.lst xs)) : kindV H (.ref a) = some "list" := by unfold kindV; dsimp only; rw [h]
theorem ask_int : ("int" ∈ asks) = True := eq_true (by decide)
theorem ask_bool : ("bool" ∈ asks) = True := eq_true (by decide)
theorem ask_tuple : ("tuple" ∈ asks) = True := eq_true (by decide)
theorem ask_list : ("list" ∈ asks) = True := eq_true (by decide)
theorem ask_str : ("str" ∈ asks) = True := eq_true (by decide)
theorem isa_bb : isA "bool" "bool" = true := by decide
theorem isa_bi : isA "bool" "int" = true := by decide
theorem isa_ii : isA "int" "int" = true := by decide
theorem isa_ib : isA "int" "bool" = false := by decide
theorem isa_tt : isA "tuple" "tuple" = true := by decide
theorem isa_ll : isA "list" "list" = true := by decide
theorem kindV_ty {K : PySem.W.Frag} {H : Hp} {x : V} {t : String} (e : kindV H x = some t) : TyOf K H x (.type t) ∧ t ∈ kinds := by
 unfold kindV at e
 split at e
 ·cases e; exact ⟨.non, by decide⟩
 ·cases e; exact ⟨.bl _, by decide⟩
 ·cases e; exact ⟨.int _, by decide⟩
 ·cases e; exact ⟨.str _, by decide⟩
 ·split at e
  ·cases e; exact ⟨.lst (by assumption), by decide⟩
  ·cases e; exact ⟨.tup (by assumption), by decide⟩
  ·cases e; exact ⟨.dK (by assumption), by decide⟩
  ·cases e
 ·cases e
theorem kit_table (K : PySem.W.Frag) : ∀ t ∈ kinds, ∀ n ∈ asks, PySem.W.kitOne K (.type t) (.type n) = some (isA t n) := by
 intro t ht n hn
 simp only [kinds, asks, List.mem_cons, List.not_mem_nil, or_false] at ht hn
 rcases ht with rfl | rfl | rfl | rfl | rfl | rfl | rfl <;> rcases hn with rfl | rfl | rfl | rfl | rfl | rfl <;> rfl
section
variable {X : Cx}
theorem call_inst : CallR X (.builtin "isinstance") (fun xs H Q => ∃ x n t, xs = [x, .ty n] ∧ kindV H x = some t ∧ n ∈ asks ∧ Q (.bl (isA t n)) H) := by
 intro pins s σ H xs us Q I r h
 obtain ⟨x, n, t, rfl, e, hn, q⟩ := h
 obtain ⟨u, v, rfl, ru, rv⟩ := vals2 r
 cases (show v = Value.type n from rv)
 obtain ⟨ty, ht⟩ := kindV_ty (K := X.K) e
 exact isinst_ok I ru ty (kit_table X.K t ht n hn) fun tk => ⟨.bl (isA t n), H, I.tok tk, rfl, q⟩
theorem pe_ty {x : Str} {T : String} {pos : Pos} (hg : Gl X x) (hm : X.mg x = none) (hv : bootBuiltins x = some (.type T)) (hn : x ≠ "__name__" := by decide) (hd : (x == ("__debug__" : Str)) = false := by decide) : PE X (.Name x pos) (tC (.ty T)) :=
 pe_bltn hg hm hv rfl hn hd
end
section
variable {X : Cx} {e : Expr} {es : List Expr} {te : TE} {t : TA} {pos : Pos}
theorem same_new {H : Hp} {p : Addr} (h : H p = none) (o : HO) : Same H (upd H p o) := fun b u q => by rw [upd_ne (ne_of_none q h)]; exact q
def tTup2 (t : TA) : TE := fun σ H Q => t σ H fun xs H1 => xs.length ≤ 1000 ∧ ∀ p H2, H1 p = none → Same H1 H2 → H2 p = some (.tup xs) → Q (.ref p) H2
def tLst2 (t : TA) : TE := fun σ H Q => t σ H fun xs H1 => xs.length ≤ 1000 ∧ ∀ p H2, H1 p = none → Same H1 H2 → H2 p = some (.lst xs) → Q (.ref p) H2
theorem le1000 {n : Nat} (h : n ≤ 1000) : n ≤ sizeLine := Nat.le_of_lt (small1000 h)
theorem pe_tup2 {x1} (h : PA X es t) : PE X (.Tuple es x1 pos) (tTup2 t) := by
 intro pins s σ H Q I hq
 refine wpAny_Tuple_spliced (thn (h pos pins s σ H _ I hq) fun us s1 ⟨xs, H1, I1, r, z, q⟩ => ⟨by rw [← r.length]; exact le1000 z, ?_⟩)
 have hf : H1 s1.heap.objs.size = none := I1.hok.fresh (Nat.le_refl _)
 refine ⟨.ref s1.heap.objs.size, upd H1 s1.heap.objs.size (.tup xs), I1.laid (t' := s1.toks) (fun b u e => Heap.get?_push_of_some _ e) (Nat.le_refl _) ?_, rfl, q _ _ hf (same_new hf _) upd_same⟩
 exact ⟨le1000 z, us, r, ⟨_, Heap.get?_push_size _ rfl, rfl, _, rfl⟩⟩
theorem pe_lst2 (h : PA X es t) : PE X (.List es pos) (tLst2 t) := by
 intro pins s σ H Q I hq
 refine wpAny_List_spliced (thn (h pos pins s σ H _ I hq) fun us s1 ⟨xs, H1, I1, r, z, q⟩ => ⟨by rw [← r.length]; exact le1000 z, ?_⟩)
 have hf : H1 s1.heap.objs.size = none := I1.hok.fresh (Nat.le_refl _)
 refine ⟨.ref s1.heap.objs.size, upd H1 s1.heap.objs.size (.lst xs), I1.laid (t' := s1.toks) (fun b u e => Heap.get?_push_of_some _ e) (Nat.le_refl _) ?_, rfl, q _ _ hf (same_new hf _) upd_same⟩
 exact ⟨le1000 z, us, 0, r, Heap.get?_push_size _ rfl⟩
theorem ix_imp {r r' : R2} (h : IxR X r) (i : ∀ x y H Q, r' x y H Q → r x y H Q) : IxR X r' :=
 fun value slice pins s σ H x y v u Q I rx ry q hs => h value slice pins s σ H x y v u Q I rx ry (i x y H Q q) hs
def rIxT2 : R2 := fun x y H Q => ∃ p xs i v, x = .ref p ∧ y = .int i ∧ H p = some (.tup xs) ∧ atI xs i = some v ∧ Q v H
def rIxL2 : R2 := fun x y H Q => ∃ p xs i v, x = .ref p ∧ y = .int i ∧ H p = some (.lst xs) ∧ atI xs i = some v ∧ Q v H
theorem ix_tup2 : IxR X rIxT2 := ix_imp ix_tup fun _ _ _ _ ⟨p, xs, i, v, h1, h2, h3, h4, q⟩ => ⟨p, xs, i, v, h1, h2, SqT.of h3, h4, q⟩
theorem ix_lst2 : IxR X rIxL2 := ix_imp ix_list fun _ _ _ _ ⟨p, xs, i, v, h1, h2, h3, h4, q⟩ => ⟨p, xs, i, v, h1, h2, SqL.of h3, h4, q⟩
theorem call_len2 : CallR X (.builtin "len") (fun xs H Q => ∃ p ys, xs = [.ref p] ∧ (H p = some (.lst ys) ∨ H p = some (.tup ys)) ∧ Q (.int ys.length) H) :=
 fun pins s σ H xs us Q I r ⟨p, ys, h1, h2, q⟩ => call_len_seq pins s σ H xs us Q I r ⟨p, ys, h1, h2.imp SqL.of SqT.of, q⟩
def tApp (to : TE) (t : TA) : TE := fun σ H Q => to σ H fun x H1 => ∃ l zs, x = .ref l ∧ H1 l = some (.lst zs) ∧ t σ H1 fun vs H2 => ∃ y xs, vs = [y] ∧ H2 l = some (.lst xs) ∧ xs.length < 1000000 ∧ Q .non (upd H2 l (.lst (xs ++ [y])))
theorem mill {n : Nat} (h : n < 1000000) : n < sizeLine := Nat.lt_trans h (by decide)
theorem pe_append {o : Expr} {to : TE} {apos cpos : Pos} (ho : PE X o to) (ha : PA X (e :: es) t)
  (hbase : attributeBase o "append" X.env (eval o X.env) = eval o X.env := by rfl)
  (hfew : ((backTo cpos (starEach (e :: es) X.env)).all (fun x => !x.1) && (backToKw cpos (keywordEach [] X.env)).all (fun x => x.1.isSome)
   && decide ((e :: es).length + ([] : List Keyword).length + (if ([] : List Keyword).isEmpty then 0 else 1) < 30)) = true := by rfl)
  (hline : (apos.endLine == cpos.line) = true := by rfl) (hs : starEach (e :: es) X.env = (false, eval e X.env) :: starEach es X.env := by rfl) (hplain : (backTo cpos (starEach es X.env)).any (·.1) = false := by rfl) :
  PE X (.Call (.Attribute o "append" apos) (e :: es) [] cpos) (tApp to t) := by
 intro pins s σ H Q I h
 refine wpAny_Call_method_late hbase hfew hline rfl (thn (ho pins s σ H _ I h) fun v s1 ⟨x, H1, I1, r1, l, zs, e1, e2, q1⟩ => ?_)
 obtain ⟨h1, h2⟩ := tyV_is (T := "list") I1 r1 (by rw [e1]; exact .inl ⟨rfl, zs, SqL.of e2⟩)
 refine ⟨"list", "list.append", PySem.F.plainAttrs_list, PySem.F.slot_list_append, PySem.F.type_list_append, h1, h2, ?_⟩
 have hA := ha cpos pins s1 σ H1 _ I1 q1
 rw [hs] at hA ⊢
 refine Calls.callWith_builtin (by show (false || (backTo cpos (starEach es X.env)).any (·.1)) = false; rw [hplain] <;> rfl) (Calls.evalArgs_plain ?_)
 exact thn hA fun us s2 ⟨vs, H2, I2, r2, y, xs, e3, e4, z, q2⟩ => mt_append pins s2 σ H2 x vs v us Q I2 r1 r2 ⟨l, xs, y, e1, e3, e4, mill z, q2⟩
theorem same_upd {H H' : Hp} {p : Addr} {o : HO} (hp : H p = none) (hs : Same H H') : Same H (upd H' p o) := fun b u q => by rw [upd_ne (ne_of_none q hp)]; exact hs b u q
def gTup2 (n : Nat) (t : TGs) : TG := fun v σ H Q => ∃ a xs, v = .ref a ∧ H a = some (.tup xs) ∧ xs.length = n ∧ t xs σ H Q
theorem pg_tup2 {es : List Expr} {k : Nat} {t : TGs} {n : Nat} (hc : X.calm = true) (h : PGs X es t)
  (hn : (assignEach es X.env).length = n := by rfl) (hst : (assignEach es X.env).findIdx? (·.1) = none := by rfl) : PG X (.Tuple es k pos) (gTup2 n t) :=
 fun pins s σ H v u Q I r ⟨a, xs, h1, h2, h3, q⟩ => pg_tup hc h hn hst pins s σ H v u Q I r ⟨a, xs, h1, SqT.of h2, h3, q⟩
end
theorem atI0 {α : Type} (x : α) (xs : List α) : atI (x :: xs) 0 = some x := atI_nat (j := 0) rfl
theorem atI1 {α : Type} (x y : α) (xs : List α) : atI (x :: y :: xs) 1 = some y := atI_nat (j := 1) rfl
theorem atI2 {α : Type} (x y z : α) (xs : List α) : atI (x :: y :: z :: xs) 2 = some z := atI_nat (j := 2) rfl
theorem atI3 {α : Type} (x y z u : α) (xs : List α) : atI (x :: y :: z :: u :: xs) 3 = some u := atI_nat (j := 3) rfl
theorem atI_mem {α : Type} {xs : List α} {i : Int} (h0 : 0 ≤ i) (h1 : i < (xs.length : Int)) : ∃ v, atI xs i = some v ∧ v ∈ xs := by
 have hk : i.toNat < xs.length := by omega
 refine ⟨xs[i.toNat], ?_, List.getElem_mem hk⟩
 have e : i = ((i.toNat : Nat) : Int) := by omega
 conv => lhs; rw [e]
 exact atI_nat (List.getElem?_eq_getElem hk)
def cellOf (ns : List Int) (k : Nat) : Int := ns.getD k (2 * (k : Int) + 1)
theorem cell_in {ns : List Int} {k : Nat} (h : k < ns.length) : atI (ns.map V.int) (k : Int) = some (.int (cellOf ns k)) := by
 refine atI_nat ?_
 rw [List.getElem?_map, List.getElem?_eq_getElem h]
 simp [cellOf, List.getD, List.getElem?_eq_getElem h]
theorem cell_out {ns : List Int} {k : Nat} (h : ¬ k < ns.length) : cellOf ns k = 2 * (k : Int) + 1 := by
 unfold cellOf
 rw [List.getD, List.getElem?_eq_none (by omega)]
 rfl
def slotI (σ : St) (i : Nat) : Int := match σ[i]? with
 | some (some (.int m)) => m
 | _ => 0
theorem while_w {c : TT} {tb : TS} {D : Ends} {σ : St} {H : Hp} (Pv : St → Hp → Prop) (μ : St → Hp → Nat) (h0 : Pv σ H)
  (hs : ∀ σ H, Pv σ H → c σ H fun b H1 => if b = true then ∃ N : St → Hp → Prop, (∀ σ' H', N σ' H' → ∃ m', m' < μ σ H ∧ (m' = μ σ' H' ∧ Pv σ' H')) ∧ tb { D with nx := N, ct := N, bk := D.nx } σ H1 else D.nx σ H1) : tWhile c tb D σ H := by
 refine ⟨fun m σ H => m = μ σ H ∧ Pv σ H, ⟨_, rfl, h0⟩, ?_⟩
 rintro m σ H ⟨rfl, p⟩
 exact hs σ H p
end My
namespace My
open PySem PySem.Spec L2
open PyProof.Rows hiding St
structure QE (X : Cx) (e : Expr) (t : TE) : Prop where
 h : PE X e t
structure QT (X : Cx) (e : Expr) (t : TT) : Prop where
 h : PT X e t
structure QW (X : Cx) (e : Expr) (t : TT) : Prop where
 h : PW X e t
structure QA (X : Cx) (es : List Expr) (t : TA) : Prop where
 h : PA X es t
structure QS (X : Cx) (st : Stmt) (t : TS) : Prop where
 h : PS X st t
structure QB (X : Cx) (sts : List Stmt) (t : TS) : Prop where
 h : PSs X sts t
structure QI (X : Cx) (tg it : Expr) (t : TI) : Prop where
 h : PI X tg it t
structure QG (X : Cx) (tg : Expr) (t : TG) : Prop where
 h : PG X tg t
structure QGs (X : Cx) (tgs : List Expr) (t : TGs) : Prop where
 h : PGs X tgs t
section
variable {X : Cx} {a b c e : Expr} {es rest : List Expr} {ta tb tc te : TE} {tA tB' : TT} {t : TA} {pos p : Pos} {x : Str}
theorem q_v (i : Nat) (hN : X.N[i]? = some x := by rfl) (hv : Vis X.env.scope x := by first | exact Or.inl rfl | exact Or.inr (Or.inl rfl) | exact Or.inr (Or.inr rfl)) (hd : (x == ("__debug__" : Str)) = false := by decide)
  (hcd : (x == ("__classdict__" : Str)) = false := by decide) : QE X (.Name x pos) (tVar i) := ⟨pe_var hN hv hd hcd⟩
theorem q_int {i j} : QE X (.Constant (.int i) j pos) (tC (.int i)) := ⟨pe_int⟩
theorem q_bl {k j} : QE X (.Constant (.bool k) j pos) (tC (.bl k)) := ⟨pe_bl⟩
theorem q_non {j} : QE X (.Constant .none j pos) (tC .non) := ⟨pe_non⟩
theorem q_str {y j} : QE X (.Constant (.str y) j pos) (tC (.str y)) := ⟨pe_str⟩
theorem q_ty {T : String} (hg : Gl X x) (hm : X.mg x = none) (hv : bootBuiltins x = some (.type T)) (hn : x ≠ "__name__" := by decide) (hd : (x == ("__debug__" : Str)) = false := by decide) : QE X (.Name x pos) (tC (.ty T)) := ⟨pe_ty hg hm hv hn hd⟩
theorem q_cls {a : Addr} (hg : Gl X x) (hm : X.mg x = some (.ref a)) (hd : (x == ("__debug__" : Str)) = false := by decide) : QE X (.Name x pos) (tC (.ref a)) := ⟨pe_glob hg hm rfl hd⟩
theorem q_add (ha : QE X a ta) (hb : QE X b tb) : QE X (.BinOp a .Add b pos) (tOp (rI0 fun i j => .int (i + j)) ta tb) := ⟨pe_op op_add ha.h hb.h⟩
theorem q_sub (ha : QE X a ta) (hb : QE X b tb) : QE X (.BinOp a .Sub b pos) (tOp (rI0 fun i j => .int (i - j)) ta tb) := ⟨pe_op op_sub ha.h hb.h⟩
theorem q_mul (ha : QE X a ta) (hb : QE X b tb) : QE X (.BinOp a .Mult b pos) (tOp (rI CMul fun i j => .int (i * j)) ta tb) := ⟨pe_op op_mul ha.h hb.h⟩
theorem q_mulL (ha : QE X a ta) (hb : QE X b tb) : QE X (.BinOp a .Mult b pos) (tOp (rI IntMulOk fun i j => .int (i * j)) ta tb) := ⟨pe_op op_mulL ha.h hb.h⟩
theorem q_mod (ha : QE X a ta) (hb : QE X b tb) : QE X (.BinOp a .Mod b pos) (tOp (rI (fun _ j => 0 < j) fun i j => .int (i % j)) ta tb) := ⟨pe_op op_mod ha.h hb.h⟩
theorem q_modN (ha : QE X a ta) (hb : QE X b tb) : QE X (.BinOp a .Mod b pos) (tOp (rI (fun _ j => j ≠ 0) fun i j => .int (i.fmod j)) ta tb) := ⟨pe_op op_modN ha.h hb.h⟩
theorem q_fdiv (ha : QE X a ta) (hb : QE X b tb) : QE X (.BinOp a .FloorDiv b pos) (tOp (rI CDiv fun i j => .int (i / j)) ta tb) := ⟨pe_op op_fdiv ha.h hb.h⟩
theorem q_fdivL (ha : QE X a ta) (hb : QE X b tb) : QE X (.BinOp a .FloorDiv b pos) (tOp (rI (fun _ j => j ≠ 0 ∧ j.natAbs.log2 < 9000) fun i j => .int (i.fdiv j)) ta tb) := ⟨pe_op op_fdivL ha.h hb.h⟩
theorem q_pow (ha : QE X a ta) (hb : QE X b tb) : QE X (.BinOp a .Pow b pos) (tOp (rI CPow fun i j => .int (i ^ j.toNat)) ta tb) := ⟨pe_op op_pow ha.h hb.h⟩
theorem q_cat (ha : QE X a ta) (hb : QE X b tb) : QE X (.BinOp a .Add b pos) (tOp rCat ta tb) := ⟨pe_op op_cat ha.h hb.h⟩
theorem q_addS (ha : QE X a ta) (hb : QE X b tb) : QE X (.BinOp a .Add b pos) (tOp (fun x y H Q => ∃ i j, x = .str i ∧ y = .str j ∧ i.length + j.length ≤ sizeLine ∧ Q (.str (i ++ j)) H) ta tb) := ⟨pe_op op_add_str ha.h hb.h⟩
theorem q_neg (ha : QE X a ta) : QE X (.UnaryOp .USub a pos) (tUn (rU fun i => .int (-i)) ta) := ⟨pe_un un_neg ha.h⟩
theorem q_not (ha : QE X a ta) : QE X (.UnaryOp .Not a pos) (tNotV ta) := ⟨pe_not ha.h⟩
theorem q_one {op} (ha : QE X a ta) : QE X (.BoolOp op [a] pos) ta := ⟨pe_one ha.h⟩
theorem q_and (ha : QE X a ta) (hb : QE X (.BoolOp .And (b :: rest) pos) tb) : QE X (.BoolOp .And (a :: b :: rest) pos) (tAndV ta tb) := ⟨pe_and ha.h hb.h⟩
theorem q_ifE (hc : QT X c tA) (ha : QE X a ta) (hb : QE X b tb) : QE X (.IfExp c a b pos) (tIf tA ta tb) := ⟨pe_ifExp hc.h ha.h hb.h⟩
theorem q_eq (ha : QE X a ta) (hb : QE X b tb) : QE X (.Compare a [.Eq] [b] pos) (tOp rEq ta tb) := ⟨pe_cmpR op_eq ha.h hb.h (nomark _)⟩
theorem q_lt (ha : QE X a ta) (hb : QE X b tb) : QE X (.Compare a [.Lt] [b] pos) (tOp (rI0 fun i j => .bl (decide (i < j))) ta tb) := ⟨pe_cmpR op_lt ha.h hb.h (nomark _)⟩
theorem q_gt (ha : QE X a ta) (hb : QE X b tb) : QE X (.Compare a [.Gt] [b] pos) (tOp (rI0 fun i j => .bl (decide (j < i))) ta tb) := ⟨pe_cmpR op_gt ha.h hb.h (nomark _)⟩
theorem q_ge (ha : QE X a ta) (hb : QE X b tb) : QE X (.Compare a [.GtE] [b] pos) (tOp (rI0 fun i j => .bl (decide (j ≤ i))) ta tb) := ⟨pe_cmpR op_ge ha.h hb.h (nomark _)⟩
theorem t_val (ha : QE X e te) (he : ∀ whole, isTrue e X.env whole = (do let v ← whole; standAt e.pos; holding [v] (truthy v)) := by intro _; rfl) : QT X e (tB te) := ⟨pt_val ha.h he⟩
theorem t_not (ha : QT X a tA) : QT X (.UnaryOp .Not a pos) (tNot tA) := ⟨pt_not ha.h⟩
theorem w_and1 (ha : QT X a tA) : QW X (.BoolOp .And [a] pos) tA := ⟨pw_and1 ha.h⟩
theorem w_or1 (ha : QT X a tA) : QW X (.BoolOp .Or [a] pos) tA := ⟨pw_or1 ha.h⟩
theorem w_and (ha : QT X a tA) (hb : QW X (.BoolOp .And (b :: rest) pos) tB') : QW X (.BoolOp .And (a :: b :: rest) pos) (tAnd tA tB') := ⟨pw_and ha.h hb.h⟩
theorem w_or (ha : QT X a tA) (hb : QW X (.BoolOp .Or (b :: rest) pos) tB') : QW X (.BoolOp .Or (a :: b :: rest) pos) (tOr tA tB') := ⟨pw_or ha.h hb.h⟩
theorem t_w (h : QW X e tA) : QT X e tA := ⟨h.h.pt⟩
theorem t_eq (ha : QE X a ta) (hb : QE X b tb) : QT X (.Compare a [.Eq] [b] pos) (tTest (tOp rEq ta tb)) := ⟨pt_cmpR op_eq ha.h hb.h (nomark _)⟩
theorem t_ne (ha : QE X a ta) (hb : QE X b tb) : QT X (.Compare a [.NotEq] [b] pos) (tTest (tOp rNe ta tb)) := ⟨pt_cmpR op_ne ha.h hb.h (nomark _)⟩
theorem t_lt (ha : QE X a ta) (hb : QE X b tb) : QT X (.Compare a [.Lt] [b] pos) (tTest (tOp (rI0 fun i j => .bl (decide (i < j))) ta tb)) := ⟨pt_cmpR op_lt ha.h hb.h (nomark _)⟩
theorem t_gt (ha : QE X a ta) (hb : QE X b tb) : QT X (.Compare a [.Gt] [b] pos) (tTest (tOp (rI0 fun i j => .bl (decide (j < i))) ta tb)) := ⟨pt_cmpR op_gt ha.h hb.h (nomark _)⟩
theorem t_ge (ha : QE X a ta) (hb : QE X b tb) : QT X (.Compare a [.GtE] [b] pos) (tTest (tOp (rI0 fun i j => .bl (decide (j ≤ i))) ta tb)) := ⟨pt_cmpR op_ge ha.h hb.h (nomark _)⟩
theorem t_notN (ha : QE X a ta) (hb : QE X b tb) : QT X (.Compare a [.IsNot] [b] pos) (tTest (tOp (fun x y H Q => y = .non ∧ Q (.bl (!decide (x = .non))) H) ta tb)) := ⟨pt_cmpR op_notN ha.h hb.h (nomark _)⟩
theorem a_nil : QA X [] tNil := ⟨pa_nil⟩
theorem a_c (ha : QE X e te) (hr : QA X es t) (hp : plainE e = true := by rfl) : QA X (e :: es) (tCons te t) := ⟨pa_c ha.h hr.h hp⟩
theorem q_tup {x1} (h : QA X es t) : QE X (.Tuple es x1 pos) (tTup2 t) := ⟨pe_tup2 h.h⟩
theorem q_lst (h : QA X es t) : QE X (.List es pos) (tLst2 t) := ⟨pe_lst2 h.h⟩
theorem q_ixT (ha : QE X a ta) (hb : QE X b tb) (hs : PlainIx b := by intro _ _; rfl) : QE X (.Subscript a b pos) (tOp rIxT2 ta tb) := ⟨pe_ix ix_tup2 ha.h hb.h hs⟩
theorem q_ixL (ha : QE X a ta) (hb : QE X b tb) (hs : PlainIx b := by intro _ _; rfl) : QE X (.Subscript a b pos) (tOp rIxL2 ta tb) := ⟨pe_ix ix_lst2 ha.h hb.h hs⟩
theorem q_ixS (ha : QE X a ta) (hb : QE X b tb) (hs : PlainIx b := by intro _ _; rfl) : QE X (.Subscript a b pos) (tOp (rIxL X.K) ta tb) := ⟨pe_ix ix_list ha.h hb.h hs⟩
theorem q_len (hg : Gl X "len") (hm : X.mg "len" = none) (ha : QA X (e :: es) t) (hp : (e :: es).all plainE = true := by rfl) :
  QE X (.Call (.Name "len" p) (e :: es) [] pos) (tCB (fun xs H Q => ∃ p ys, xs = [.ref p] ∧ (H p = some (.lst ys) ∨ H p = some (.tup ys)) ∧ Q (.int ys.length) H) t) := ⟨pe_cB call_len2 hg hm PySem.boot_len ha.h hp⟩
theorem q_lenS (hg : Gl X "len") (hm : X.mg "len" = none) (ha : QA X (e :: es) t) (hp : (e :: es).all plainE = true := by rfl) :
  QE X (.Call (.Name "len" p) (e :: es) [] pos) (tCB (fun xs H Q => ∃ p ys, xs = [.ref p] ∧ (SqL X.K H p ys ∨ SqT X.K H p ys) ∧ Q (.int ys.length) H) t) := ⟨pe_cB call_len_seq hg hm PySem.boot_len ha.h hp⟩
theorem q_abs (hg : Gl X "abs") (hm : X.mg "abs" = none) (ha : QA X (e :: es) t) (hp : (e :: es).all plainE = true := by rfl) :
  QE X (.Call (.Name "abs" p) (e :: es) [] pos) (tCB (fun xs H Q => ∃ i, xs = [.int i] ∧ Q (.int (if i < 0 then -i else i)) H) t) := ⟨pe_cB call_abs hg hm (by rfl) ha.h hp⟩
theorem q_inst (hg : Gl X "isinstance") (hm : X.mg "isinstance" = none) (ha : QA X (e :: es) t) (hp : (e :: es).all plainE = true := by rfl) :
  QE X (.Call (.Name "isinstance" p) (e :: es) [] pos) (tCB (fun xs H Q => ∃ x n t, xs = [x, .ty n] ∧ kindV H x = some t ∧ n ∈ asks ∧ Q (.bl (isA t n)) H) t) := ⟨pe_cB call_inst hg hm (by rfl) ha.h hp⟩
theorem q_int1 (hg : Gl X "int") (hm : X.mg "int" = none) (ha : QA X (e :: es) t) (hp : (e :: es).all plainE = true := by rfl) :
  QE X (.Call (.Name "int" p) (e :: es) [] pos) (tCB (fun xs H Q => (∃ i, xs = [.int i] ∧ Q (.int i) H) ∨ ∃ k, xs = [.bl k] ∧ Q (.int (if k then 1 else 0)) H) t) := ⟨pe_cTy call_int1 hg hm (by rfl) ha.h hp⟩
variable {j k : Nat} {ps : List Str} {sp : Sp}
theorem q_fn (F : Fn X.prog X.w X.K X.mg X.base CX0 j x ps sp) (hr : Room k X.A) (hj : j ≤ k) (hg : Gl X x) (ha : QA X (e :: es) t) (hp : (e :: es).all plainE = true := by rfl) (hdb : (x == ("__debug__" : Str)) = false := by decide) :
  QE X (.Call (.Name x p) (e :: es) [] pos) (tCall sp [] E0 t) := ⟨pe_fn F hr hj hg ha.h hp hdb⟩
theorem q_app {o : Expr} {to : TE} {apos cpos : Pos} (ho : QE X o to) (ha : QA X [e] t) (hbase : attributeBase o "append" X.env (eval o X.env) = eval o X.env := by rfl) (hline : (apos.endLine == cpos.line) = true := by rfl) (hp : plainE e = true := by rfl) :
  QE X (.Call (.Attribute o "append" apos) [e] [] cpos) (tApp to t) :=
 ⟨pe_append ho.h ha.h hbase (by rw [se_cons hp]; rfl) hline (se_cons hp) rfl⟩
end
section
variable {X : Cx} {st : Stmt} {rest a b body : List Stmt} {t u tb : TS} {e c tg it : Expr} {te : TE} {tc : TT} {pos : Pos} {g : TG} {wi : TI}
theorem b_nil : QB X [] tNext := ⟨pss_nil⟩
theorem b_cons (h1 : QS X st t) (h2 : QB X rest u) : QB X (st :: rest) (tSeq t u) := ⟨pss_cons h1.h h2.h⟩
theorem b_one (h1 : QS X st t) : QB X [st] t := ⟨pss_one h1.h⟩
theorem s_never : QS X st tNever := ⟨ps_never⟩
theorem s_ret (he : QE X e te) : QS X (.Return (some e) pos) (tRet te) := ⟨ps_ret he.h⟩
theorem s_if (hc : QT X c tc) (ha : QB X a t) (hb : QB X b u) : QS X (.If c a b pos) (tIfS tc t u) := ⟨ps_if hc.h ha.h hb.h⟩
theorem s_expr (he : QE X e te) (hs : swapsWith e none pos.line X.env = pure false := by rfl) : QS X (.Expr e pos) (tDrop te) := ⟨ps_expr he.h hs⟩
theorem s_set {x : Str} {pos' : Pos} (i : Nat) (hN : X.N.Nodup) (he : QE X e te) (hi : X.N[i]? = some x := by rfl) (hx : Loc X.env.scope x := by first | exact Or.inl rfl | exact Or.inr rfl) (hs : swapsWith e (some (.Name x pos')) pos.line X.env = pure false := by rfl)
  (hf : X.fn x = true ∨ X.env.scope.names.lookup x = some .local := by first | exact .inl rfl | exact .inr rfl | assumption) : QS X (.Assign [.Name x pos'] e pos) (tAsg te (gName i)) := ⟨ps_set hN hi hx he.h hs hf⟩
theorem s_par {x y : Str} {c d : Expr} {ta : TA} {px py pt : Pos} {kt k2 pt2} (i j : Nat) (hN : X.N.Nodup) (ha : QA X [c, d] ta) (hc : X.calm = true := by rfl) (hi : X.N[i]? = some x := by rfl) (hj : X.N[j]? = some y := by rfl) (hij : i ≠ j := by decide)
  (hx : X.env.scope.names.lookup x = some .local := by rfl) (hy : X.env.scope.names.lookup y = some .local := by rfl)
  (hw : swappedStores [.Tuple [.Name x px, .Name y py] kt pt] (.Tuple [c, d] k2 pt2) X.env = pure (some [x, y]) := by rfl)
  (hs : swapsWithSole [.Tuple [.Name x px, .Name y py] kt pt] (.Tuple [c, d] k2 pt2) pos.line X.env = pure false := by rfl) :
  QS X (.Assign [.Tuple [.Name x px, .Name y py] kt pt] (.Tuple [c, d] k2 pt2) pos) (tPar i j ta) := ⟨ps_par hc hN hi hj hij hx hy ha.h hw hs⟩
theorem s_asg (he : QE X e te) (hg : QG X tg g) (hs : swapsWithSole [tg] e pos.line X.env = pure false := by rfl) (hw : swappedStores [tg] e X.env = pure none := by rfl) (h1 : (assignEach [tg] X.env).map (·.2) = [assign tg X.env] := by rfl) : QS X (.Assign [tg] e pos) (tAsg te g) := ⟨ps_asg he.h hg.h hs hw h1⟩
theorem g_name {x : Str} (i : Nat) (hN : X.N.Nodup) (hi : X.N[i]? = some x := by rfl) (hx : Loc X.env.scope x := by first | exact Or.inl rfl | exact Or.inr rfl) (hf : X.fn x = true ∨ X.env.scope.names.lookup x = some .local := by first | exact .inl rfl | exact .inr rfl | assumption) :
  QG X (.Name x pos) (gName i) := ⟨pg_name hN hi hx hf⟩
theorem gs_nil : QGs X [] gNil := ⟨pgs_nil⟩
theorem gs_cons {es : List Expr} {v : TGs} (h1 : QG X e g) (h2 : QGs X es v) (hs : (assignEach (e :: es) X.env).map (·.2) = assign e X.env :: (assignEach es X.env).map (·.2) := by rfl) : QGs X (e :: es) (gCons g v) := ⟨pgs_cons h1.h h2.h hs⟩
theorem g_tup {es : List Expr} {k : Nat} {v : TGs} {n : Nat} (h : QGs X es v) (hc : X.calm = true := by rfl) (hn : (assignEach es X.env).length = n := by rfl) (hst : (assignEach es X.env).findIdx? (·.1) = none := by rfl) :
  QG X (.Tuple es k pos) (gTup2 n v) := ⟨pg_tup2 hc h.h hn hst⟩
theorem s_while (hp : PassesOwn (model X.prog X.w) X.A X.env X.xe) (hc : QT X c tc) (hb : QB X body tb) : QS X (.While c body [] pos) (tWhile tc tb) := ⟨ps_while hp hc.h hb.h⟩
theorem s_for (hp : PassesOwn (model X.prog X.w) X.A X.env X.xe) (hi : QI X tg it wi) (hg : QG X tg g) (hb : QB X body tb) (hc : X.calm = true := by rfl) (hs : ∀ x, foldedSetIterable it X.env x = pure x := by intro _; rfl) :
  QS X (.For tg it body [] pos) (tFor wi g tb) := ⟨ps_for hp hc hi.h hg.h hb.h hs⟩
theorem i_list (hl : QE X e te) : QI X tg e (iList X.K te) := ⟨pi_list hl.h⟩
theorem i_rng1 {c : Expr} {ta : TA} {p : Pos} (hg : Gl X "range") (hm : X.mg "range" = none) (ha : QA X [c] ta) (hp : plainE c = true := by rfl) : QI X tg (.Call (.Name "range" p) [c] [] pos) (iRng1 ta) := ⟨pi_range1 hg hm ha.h (se_cons hp)⟩
theorem i_rng2 {c d : Expr} {ta : TA} {p : Pos} (hg : Gl X "range") (hm : X.mg "range" = none) (ha : QA X [c, d] ta) (hp : plainE c = true := by rfl) (hq : plainE d = true := by rfl) :
  QI X tg (.Call (.Name "range" p) [c, d] [] pos) (iRng2 ta) := ⟨pi_range2 hg hm ha.h (by rw [se_cons hp, se_cons hq]; rfl) (se_cons hq)⟩
end
theorem okQ {P : Program} {w : World} {K : PySem.W.Frag} {mg : Str → Option Value} {base : Heap} {x qual : Str} {st : Stmt} {f : Addr} {fd : FuncData} {N ps : List Str} {k : Nat} {sp : Sp} (F : Fun K x qual st f fd) (S : FnScope N ps (defScope st)) (len : ∀ vs H Q E, sp vs H Q E → vs.length = ps.length)
  (hbody : ∀ (cdv : Value) (A : Around) (outer : List Env) (s : Shared) (H : Hp) (vs : List V) (Q : VK) (E : XK), Room k (A.deeper (envOfC qual (defScope st) s.heap.objs.size f cdv)) → sp vs H Q E →
   ∃ t, QB (cxOf CX0 P w K mg base N qual (defScope st) f cdv A outer s H E).nox (defBody st) t ∧ t { nx := fun _ H' => Q .non H', rt := Q } (start N vs) H) : FnOk P w K mg base CX0 (k + 1) f fd ps sp :=
 F.ok S len fun cdv A outer s H vs Q E hr h => by
  obtain ⟨t, q, r⟩ := hbody cdv A outer s H vs Q E hr h
  exact ⟨t, q.h, r⟩
end My
namespace My
open PySem PySem.Spec L2
open PyProof.Rows hiding St
theorem there_of {P : Program} {w : World} {H : Hp} {h : Heap} {a : Addr} {o : HO} (x : ObjOk P w H h a o) : ∃ u, h.get? a = some u := by
 cases o with
 | lst xs => obtain ⟨_, _, _, _, e⟩ := x; exact ⟨_, e⟩
 | tup xs => obtain ⟨_, _, _, u, e, _⟩ := x; exact ⟨_, e⟩
 | dK kvs => obtain ⟨_, _, _, _, u, _, _, e, _⟩ := x; exact ⟨u, e⟩
 | dT kvs => obtain ⟨_, _, _, _, u, _, _, e, _⟩ := x; exact ⟨u, e⟩
 | set S n => obtain ⟨u, _, _, _, e, _⟩ := x; exact ⟨_, e⟩
 | ins C dx fs => obtain ⟨_, _, _, e, _⟩ := x; exact ⟨_, e⟩
 | own y => exact x
 | xd fs => obtain ⟨_, ⟨u, _, _, e, _⟩, _⟩ := x; exact ⟨_, e⟩
 | rng lo hi => obtain ⟨_, _, _, e⟩ := x; exact ⟨_, e⟩
 | frz ob u => exact ⟨_, x.1⟩
 | tbl ps => obtain ⟨_, e, _⟩ := x; exact ⟨_, e⟩
 | met f y => exact ⟨_, x⟩
 | ext φ => exact x.2.1
structure Cv (X : Cx) (pins : List (Addr × Obj)) (B : Heap) (H : Hp) : Prop where
 old : ∀ b o, X.s₀.heap.get? b = some o → b ∉ frs X.stack → ∃ o', B.get? b = some o'
 trk : ∀ b o, H b = some o → ∃ o', B.get? b = some o'
 cel : ∀ x c, X.env.cells.lookup x = some c → ∃ o', B.get? c = some o'
 pin : ∀ p ∈ X.pn ++ pins, ∃ o', B.get? p.1 = some o'
section
variable {X : Cx} {pins : List (Addr × Obj)} {σ : St} {H : Hp} {s : Shared}
theorem step2 {h' : Heap} {t' : Nat} {ch : List Addr} (I : Inv X pins σ H s)
  (hch : ∀ b ∈ ch, (∀ o, X.s₀.heap.get? b = some o → b ∈ X.ex) ∧ b ≠ X.env.locals ∧ (∀ x c, X.env.cells.lookup x = some c → c ≠ b) ∧ ∀ p ∈ X.pn ++ pins, p.1 ≠ b)
  (keep : ∀ b o, b ≠ X.env.locals → b ∉ X.fs → b ∉ ch → s.heap.get? b = some o → h'.get? b = some o)
  (slot : ∀ b o, b ∈ X.fs → s.heap.get? b = some o → ∃ sl, h'.get? b = some { o with slots := sl })
  (ns : ∀ m, s.heap.Ns X.env.locals m → h'.Ns X.env.locals m) (hok : HOk X.prog X.w H h') :
  Inv X pins σ H { s with heap := h', toks := t' } := by
 have neL : ∀ b o, X.s₀.heap.get? b = some o → b ≠ X.env.locals := fun b o e => Nat.ne_of_lt (Nat.lt_of_lt_of_le (Heap.lt_size e) I.ok.above)
 have neC : ∀ b o, X.s₀.heap.get? b = some o → b ∉ X.ex → b ∉ ch := fun b o e hx hb => hx ((hch b hb).1 o e)
 have cellK : ∀ x c, X.env.cells.lookup x = some c → ∀ v, s.heap.IsCell c v → h'.IsCell c v := fun x c e v ⟨o, ho, hd⟩ => by
  have nch : c ∉ ch := fun z => (hch c z).2.2.1 x c e rfl
  by_cases hc : c ∈ X.fs
  ·obtain ⟨sl, q⟩ := slot c o hc ho
   exact ⟨_, q, hd⟩
  ·exact ⟨o, keep c o (I.cne x c e) hc nch ho, hd⟩
 refine ⟨I.ok, I.os, I.bare, ⟨fun b o e n hb hx => ?_, fun b o e n hb hx => ?_, I.base.free, fun b o e hx => ?_, I.base.tups, I.base.frzs, I.base.tbls⟩, ?_, fun x c e => ?_, I.free, I.freeC, fun p hp => ?_, hok, I.len⟩
 ·exact keep b o (neL b o e) hb (neC b o e hx) (I.base.keep b o e n hb hx)
 ·obtain ⟨sl, e1⟩ := I.base.slot b o e n hb hx
  obtain ⟨sl', e2⟩ := slot b _ hb e1
  exact ⟨sl', e2⟩
 ·obtain ⟨o', e1⟩ := I.base.there b o e hx
  by_cases hb : b ∈ X.fs
  ·obtain ⟨sl, e2⟩ := slot b _ hb e1
   exact ⟨_, e2⟩
  ·exact ⟨o', keep b o' (neL b o e) hb (neC b o e hx) e1⟩
 ·obtain ⟨m, hn, hl⟩ := I.loc
  refine ⟨m, ns m hn, fun i x v e1 e2 e3 => ?_⟩
  obtain ⟨u, r, l⟩ := hl i x v e1 e2 e3
  refine ⟨u, r, ?_⟩
  rcases l with l | ⟨k, c, e, z⟩
  ·exact .inl l
  ·exact .inr ⟨k, c, e, cellK x c e _ z⟩
 ·obtain ⟨v, z⟩ := I.cell x c e
  exact ⟨v, cellK x c e v z⟩
 ·obtain ⟨e, n, ne, nf, d⟩ := I.pin p hp
  have nch : p.1 ∉ ch := fun z => (hch p.1 z).2.2.2 p hp rfl
  exact ⟨keep p.1 p.2 ne nf nch e, n, ne, nf, d⟩
theorem fly {B h' : Heap} {t' : Nat} (I : Inv X pins σ H s) (hst : X.stack = X.env :: X.outer) (hfr : X.env.frame = some X.env.locals) (c : Cv X pins B H)
  (k0 : B.StaysIn s.heap) (k : B.StaysIn h') (u : s.heap.UpToSlots h') : Inv X pins σ H { s with heap := h', toks := t' } := by
 have mem : ∀ b, b ∈ frs X.stack ↔ b = X.env.locals ∨ b ∈ X.fs := fun b => by
  show b ∈ frs X.stack ↔ b = X.env.locals ∨ b ∈ frs X.outer
  rw [hst]
  unfold frs
  rw [List.filterMap_cons_some hfr, List.mem_cons]
 let ch : List Addr := (List.range s.heap.objs.size).filter fun b => (B.get? b).isNone && (s.heap.get? b).isSome && !decide (b ∈ frs X.stack)
 have hc : ∀ b, b ∈ ch → B.get? b = none ∧ b ∉ frs X.stack := fun b hb => by
  have z := (List.mem_filter.mp hb).2
  simp only [Bool.and_eq_true, Option.isNone_iff_eq_none, Bool.not_eq_true', decide_eq_false_iff_not] at z
  exact ⟨z.1.1, z.2⟩
 have inB : ∀ b o, s.heap.get? b = some o → b ∉ ch → b ∉ frs X.stack → B.get? b = some o := fun b o e nc nf => by
  cases q : B.get? b with
  | none =>
   refine absurd (List.mem_filter.mpr ⟨List.mem_range.mpr (Heap.lt_size e), ?_⟩) nc
   simp only [q, e, Option.isNone_none, Option.isSome_some, Bool.true_and, Bool.and_true, Bool.not_eq_true', decide_eq_false_iff_not]
   exact nf
  | some o' =>
   have z := k0 b o' q
   rw [e] at z
   exact z.symm ▸ rfl
 refine step2 (ch := ch) I (fun b hb => ?_) (fun b o n1 n2 n3 e => ?_) (fun b o hb e => ?_) (fun m hm => u.ns hm) (fun b o e => ?_)
 ·obtain ⟨n, nf⟩ := hc b hb
  refine ⟨fun o e => ?_, fun z => nf ((mem b).mpr (.inl z)), fun x a e z => ?_, fun p hp z => ?_⟩
  ·obtain ⟨o', q⟩ := c.old b o e nf
   rw [n] at q; cases q
  ·obtain ⟨o', q⟩ := c.cel x a e
   rw [z, n] at q; cases q
  ·obtain ⟨o', q⟩ := c.pin p hp
   rw [z, n] at q; cases q
 ·exact k b o (inB b o e n3 fun z => ((mem b).mp z).elim n1 n2)
 ·obtain ⟨_, o', e', nd⟩ := I.funs.mem hb
  rw [e] at e'; cases e'
  exact u b o e nd
 ·refine (I.hok b o e).stay (fun a v ha q => ?_) (fun _ q => q) fun _ _ q => q
  have tr : ∃ o', H a = some o' := by
   rcases ha with rfl | z
   ·exact ⟨_, e⟩
   ·exact ⟨_, z⟩
  obtain ⟨o', z⟩ := tr
  obtain ⟨o2, z2⟩ := c.trk a o' z
  have z3 := k0 a o2 z2
  rw [q] at z3
  cases z3
  exact k a v z2
end
def CX1 (P : Program) (w : World) : CXT := fun outer H s E e s' => ∃ (ea C : Addr) (a0 : Value) (B : Heap) (H' : Hp), e = .ref ea ∧ s'.os = s.os ∧ AllBare s'.gens ∧ Un (frs outer) [] H H' s.heap s'.heap ∧ HOk P w H' s'.heap ∧
 Heap.FlyingW B outer ea (.ref C) a0 s'.heap ∧ (∀ b o, s.heap.get? b = some o → b ∉ frs outer → ∃ o', B.get? b = some o') ∧ (∀ b o, H' b = some o → ∃ o', B.get? b = some o') ∧ E (.ref C) none H'
structure Body (X : Cx) : Prop where
 st : X.stack = X.env :: X.outer
 fr : X.env.frame = some X.env.locals
 ex : X.ex = []
 fn : ∀ x, X.fn x = true
structure Goes (X : Cx) (E : XK) : Prop extends Body X where
 xe : ∀ e s', wpAny (model X.prog X.w) X.A (leaving X.env e) (fun _ s'' => CX1 X.prog X.w X.outer X.H₀ X.s₀ E e s'') (fun e' s'' => CX1 X.prog X.w X.outer X.H₀ X.s₀ E e' s'') s' → X.xe e s'
section
variable {X : Cx} {E : XK} {pins : List (Addr × Obj)} {σ : St} {H : Hp} {s : Shared}
theorem Body.apart (b : Body X) (I : Inv X pins σ H s) : (∀ x c, X.env.cells.lookup x = some c → (∃ o, s.heap.get? c = some o) ∧ c ∉ frs X.stack) ∧ (∀ p ∈ X.pn ++ pins, s.heap.get? p.1 = some p.2 ∧ p.1 ∉ frs X.stack) ∧
  (∀ a o, X.s₀.heap.get? a = some o → ∃ o', s.heap.get? a = some o') ∧ (∀ a o, H a = some o → (∃ o', s.heap.get? a = some o') ∧ a ∉ frs X.stack) := by
 refine ⟨fun x c e => ?_, fun p hp => ?_, fun a o e => ?_, fun a o e => ?_⟩
 ·obtain ⟨v, o, ho, hd⟩ := I.cell x c e
  refine ⟨⟨o, ho⟩, fun z => ?_⟩
  rcases List.mem_cons.mp (I.stkSub c z) with q | q
  ·exact I.cne x c e q
  ·obtain ⟨_, o', e', _⟩ := I.ok.funs.mem q
   exact absurd (Nat.lt_of_lt_of_le (Heap.lt_size e') (I.ok.cab x c (b.fn x) e)) (Nat.lt_irrefl _)
 ·obtain ⟨e, n, ne, nf, d⟩ := I.pin p hp
  exact ⟨e, fun z => (List.mem_cons.mp (I.stkSub _ z)).elim ne nf⟩
 ·exact I.base.there a o e (by rw [b.ex]; exact List.not_mem_nil)
 ·exact ⟨there_of (I.hok a o e), fun z => by rw [I.stkFree a z] at e; cases e⟩
theorem Body.cv (b : Body X) (I : Inv X pins σ H s) {B : Heap} {H' : Hp} (cov : ∀ a o, s.heap.get? a = some o → a ∉ frs X.stack → ∃ o', B.get? a = some o') (trk : ∀ a o, H' a = some o → ∃ o', B.get? a = some o') : Cv X pins B H' := by
 obtain ⟨h1, h2, h3, _⟩ := b.apart I
 refine ⟨fun a o e n => ?_, trk, fun x c e => ?_, fun p hp => ?_⟩
 ·obtain ⟨o', e'⟩ := h3 a o e
  exact cov a o' e' n
 ·obtain ⟨⟨o, e'⟩, n⟩ := h1 x c e
  exact cov c o e' n
 ·obtain ⟨e', n⟩ := h2 p hp
  exact cov p.1 p.2 e' n
theorem Goes.raise (b : Goes X E) (I : Inv X pins σ H s) {h' : Heap} {e C : Addr} {vs : List Value} (hx : Heap.MadeExcOf s.heap h' e (.ref C) vs) (q : E (.ref C) none H) : X.xe (.ref e) { s with heap := h' } := by
 refine b.xe _ _ ?_
 have hB : (PySem.W.hideAll s.heap (frs X.stack)).StaysIn s.heap := fun a o z => PySem.W.of_hideAll _ z
 have hl : s.heap.FunFrames (PySem.W.hideAll s.heap (frs X.stack)) (X.env :: X.outer) := by
  have z := PySem.W.funFrames_hide (as := frs X.stack) I.stack fun env he a ha => List.mem_filterMap.mpr ⟨env, he, ha⟩
  rw [b.st] at z ⊢
  exact z
 have hfr : X.A.frames = some (X.env :: X.outer) := by rw [I.ok.frames, b.st]
 have cov : ∀ a o, s.heap.get? a = some o → a ∉ frs X.stack → ∃ o', (PySem.W.hideAll s.heap (frs X.stack)).get? a = some o' := fun a o z n => ⟨o, PySem.W.hideAll_get _ z n⟩
 have cv : Cv X pins (PySem.W.hideAll s.heap (frs X.stack)) H := b.toBody.cv I cov fun a o z => by
  obtain ⟨⟨o', z'⟩, n⟩ := (b.toBody.apart I).2.2.2 a o z
  exact cov a o' z' n
 refine wpAny_leaves_madeW (s := { s with heap := h' }) hfr b.fr hB hl hx fun h'' t fl tp bt us => ?_
 have us' : s.heap.UpToSlots h'' := (Heap.UpToSlots.of_keeps hx.keeps).trans us
 have I' := fly (t' := s.toks) I b.st b.fr cv hB fl.1 us'
 refine ⟨e, C, .ref t, _, H, rfl, I'.os, I'.bare, ?_, I'.hok, fl, fun a o z n => ?_, cv.trk, q⟩
 ·have z := I'.base
  rw [b.ex] at z
  exact z
 ·obtain ⟨o', z'⟩ := (b.toBody.apart I).2.2.1 a o z
  refine cov a o' z' fun m => ?_
  rcases List.mem_cons.mp (I.stkSub a m) with w | w
  ·exact absurd (Nat.lt_of_lt_of_le (Heap.lt_size z) (w ▸ I.ok.above)) (Nat.lt_irrefl _)
  ·exact n w
theorem Goes.pass (b : Goes X E) : Passes (CX1 X.prog X.w) X E := by
 intro pins σ H s e s' I h
 obtain ⟨ea, C, a0, B, H', rfl, ho, hg, un, hok, fl, cov, trk, q⟩ := h
 refine b.xe _ _ ?_
 have I1 : Inv X pins σ H' s' := I.call' (ch := []) ho un hok hg fun _ z => nomatch z
 have hfr : X.A.frames = some (X.env :: X.outer) := by rw [I.ok.frames, b.st]
 have cv : Cv X pins B H' := b.toBody.cv I cov trk
 rw [b.st] at fl
 refine wpAny_leaves_onW hfr b.fr fl fun h'' fl' us => ?_
 have I' := fly (t' := s'.toks) I1 b.st b.fr cv fl.1 fl'.1 us
 refine ⟨ea, C, a0, B, H', rfl, I'.os, I'.bare, ?_, I'.hok, fl', fun a o z n => ?_, trk, q⟩
 ·have z := I'.base
  rw [b.ex] at z
  exact z
 ·obtain ⟨o', z'⟩ := (b.toBody.apart I).2.2.1 a o z
  refine cov a o' z' fun m => ?_
  rcases List.mem_cons.mp (I.stkSub a m) with w | w
  ·exact absurd (Nat.lt_of_lt_of_le (Heap.lt_size z) (w ▸ I.ok.above)) (Nat.lt_irrefl _)
  ·exact n w
end
theorem goes_of {P : Program} {w : World} {K : PySem.W.Frag} {mg : Str → Option Value} {base : Heap} {N : List Str} {qual : Str} {scope : Scope} {f : Addr} {cd : Value} {A : Around} {outer : List Env} {s : Shared} {H : Hp} {E : XK} :
  Goes (cxOf (CX1 P w) P w K mg base N qual scope f cd A outer s H E) E := ⟨⟨rfl, rfl, rfl, fun _ => rfl⟩, fun _ _ h => h⟩
def veMro : List Value := [.type "ValueError", .type "Exception", .type "BaseException", .type "object"]
def ErrC (K : PySem.W.Frag) (C : Addr) : Prop := PySem.W.excIn K C veMro "ValueError.__new__" = true
theorem own_cls {K : PySem.W.Frag} {h : Heap} {mg : Str → Option Value} {x : Str} {C : Addr} (X : K.In h) (m : mg x = some (.ref C)) (q : ErrC K C) : OwnCls x C veMro "ValueError.__new__" mg h := by
 refine ⟨m, ?_⟩
 have q := q
 unfold ErrC PySem.W.excIn at q
 split at q
 ·rename_i dd cd sl look
  split at q
  ·rename_i C1 bm1 z0 z1 z2 z3 n1 z5 mro1 sl1
   simp only [Bool.and_eq_true, beq_iff_eq, Bool.not_eq_true'] at q
   obtain ⟨⟨⟨⟨⟨rfl, rfl⟩, nodel⟩, tl⟩, nsok⟩, noinit⟩ := q
   obtain ⟨nm, bs, mro, ns, qn, hd, sn, sub, ab, col, del⟩ := cd
   dsimp only at mro1 nodel nsok noinit
   subst mro1 nodel
   have e2 : sl = #[z0, z1, z2, z3, some (.builtin "ValueError.__new__"), z5] := by
    cases sl with
    | mk l => exact congrArg Array.mk sl1
   subst e2
   exact ⟨bm1, ns, nm, qn, bs, hd, sn, sub, ab, col, dd, z0, z1, z2, z3, z5, _, X _ _ look, .of_isNs (PySem.W.isNs_of_in X nsok), PySem.W.nsMap_none_of_in X nsok noinit, PySem.W.tail_of_in X tl⟩
  ·cases q
 ·cases q
section
variable {X : Cx} {E : XK} {x : Str} {C : Addr} {np cpos pos : Pos} {e₀ : Expr} {rest : List Expr} {t : TA}
def tRaise (C : Addr) (E : XK) (t : TA) : TS := fun _ σ H => t σ H fun vs H1 => vs.length ≤ 1000 ∧ E (.ref C) none H1
theorem ps_raise (b : Goes X E) (hc : X.calm = true) (hg : Gl X x) (hm : X.mg x = some (.ref C)) (q : ErrC X.K C) (ha : PA X (e₀ :: rest) t) (hdb : (x == ("__debug__" : Str)) = false := by decide)
  (he : starEach (e₀ :: rest) X.env = (false, eval e₀ X.env) :: starEach rest X.env := by rfl) (hpl : (backTo cpos (starEach rest X.env)).any (·.1) = false := by rfl) :
  PS X (.Raise (some (.Call (.Name x np) (e₀ :: rest) [] cpos)) none pos) (tRaise C E t) := by
 intro pins s σ H D I h
 obtain ⟨bm, N, nm, qn, bs, hdct, sn, sub, ab, col, dd, k0, k1, k2, k3, k5, mN, hC, hN, hni, T⟩ := (own_cls (x := x) I.ok.mod.kin hm q).obj
 refine wpAny_Raise_call_subT (C := C) (nm := nm) (q := qn) (N := N) (bs := bs) (bm := bm) (hdct := hdct) (sn := sn) (sub := sub) (ab := ab) (col := col) (dd := dd) (k0 := k0) (k1 := k1) (k2 := k2) (k3 := k3) (k5 := k5) (mN := mN)
  PySem.F.excBase_ValueError (T.hasType (by decide +kernel)) (I.ok.hd hc) (by rw [he]; show (false || (backTo cpos (starEach rest X.env)).any (·.1)) = false; rw [hpl]; rfl) hni (ld_glob I hg hm ⟨rfl, ?_⟩ hdb)
 have h2 := ha cpos pins s σ H _ I h
 rw [he] at h2 ⊢
 refine Calls.evalArgs_plain (thn h2 fun us s1 ⟨vs, H1, I1, r, z, qE⟩ => ?_)
 exact ⟨rfl, by show us.length ≤ sizeLine; rw [← r.length]; exact le1000 z, I1.bk _ _ hC, hN.keeps I1.bk, T.keeps I1.bk, fun h' e hx => b.raise I1 hx qE⟩
end
def XP (X : Cx) (pins : List (Addr × Obj)) (σ : St) (EX : XK) (e : Value) (s' : Shared) : Prop :=
 ∃ (ea C : Addr) (a0 : Value) (B : Heap) (H' : Hp), e = .ref ea ∧ Inv X pins σ H' s' ∧ Heap.FlyingW B X.stack ea (.ref C) a0 s'.heap ∧ Cv X pins B H' ∧ EX (.ref C) none H'
abbrev TEX := St → Hp → VK → XK → Prop
def PEX (X : Cx) (e : Expr) (t : TEX) : Prop :=
 ∀ (pins : List (Addr × Obj)) (s : Shared) (σ : St) (H : Hp) (Q : VK) (EX : XK), Inv X pins σ H s → t σ H Q EX → wpAny (model X.prog X.w) X.A (eval e X.env) (EP X pins σ Q) (XP X pins σ EX) s
abbrev TSX := Ends → (St → XK) → St → Hp → Prop
def PSsX (X : Cx) (sts : List Stmt) (t : TSX) : Prop :=
 ∀ (pins : List (Addr × Obj)) (s : Shared) (σ : St) (H : Hp) (D : Ends) (EX : St → XK), Inv X pins σ H s → t D EX σ H →
  wpAny (model X.prog X.w) X.A (execs sts X.env) (SP X pins D) (fun e s' => ∃ σ', XP X pins σ' (EX σ') e s') s
def PSX (X : Cx) (st : Stmt) (t : TSX) : Prop :=
 ∀ (pins : List (Addr × Obj)) (s : Shared) (σ : St) (H : Hp) (D : Ends) (EX : St → XK), Inv X pins σ H s → t D EX σ H →
  wpAny (model X.prog X.w) X.A (exec st X.env) (SP X pins D) (fun e s' => ∃ σ', XP X pins σ' (EX σ') e s') s
section
variable {X : Cx} {j k : Nat} {x : Str} {ps : List Str} {sp : Sp} {p pos : Pos} {e : Expr} {es : List Expr} {t : TA} {f : Addr} {fd : FuncData} {ds : List Value} {dvs : List V}
def tCallX (sp : Sp) (dvs : List V) (t : TA) : TEX := fun σ H Q EX => t σ H fun vs H1 => sp (vs ++ dvs) H1 Q EX
theorem runX (b : Body X) (F : FnOk X.prog X.w X.K X.mg X.base (CX1 X.prog X.w) k f fd ps sp) (hr : Room k X.A) (hb : Binds X.K fd ps ds) (hd : Vals dvs ds) {pins : List (Addr × Obj)} {σ : St} {H : Hp} {s : Shared} {Q : VK} {EX : XK} {us : List Value} {vs : List V}
  (I : Inv X pins σ H s) (r : Vals vs us) (h : sp (vs ++ dvs) H Q EX) : wpAny (model X.prog X.w) X.A (call (.ref f) us) (EP X pins σ Q) (XP X pins σ EX) s := by
 have r2 : Vals (vs ++ dvs) (us ++ ds) := r.append hd
 have hl : (us ++ ds).length = ps.length := by rw [← r2.length]; exact F.len _ _ _ _ h
 refine wpAny_call (codeAny_mono (F.run X.A X.stack s H ⟨us, []⟩ (us ++ ds) (vs ++ dvs) Q EX hr I.env0 (hb s us I.kIn hl) r2 h) fun r s' hq => ?_)
 cases r with
 | error e =>
  obtain ⟨ea, C, a0, B, H', rfl, ho, hg, un, hok, fl, cov, trk, q⟩ := hq
  exact ⟨ea, C, a0, B, H', rfl, I.call' (ch := []) ho un hok hg (fun _ z => nomatch z), fl, b.cv I cov trk, q⟩
 | ok w =>
  cases w with
  | ret u => exact I.after hq
  | next => exact False.elim hq
  | brk => exact False.elim hq
  | cont => exact False.elim hq
theorem pex_call (b : Body X) (F : FnOk X.prog X.w X.K X.mg X.base (CX1 X.prog X.w) k f fd ps sp) (hr : Room k X.A) (hg : Gl X x) (hm : X.mg x = some (.ref f)) (hk : PySem.W.keepIn X.K (.ref f) = true) (hb : Binds X.K fd ps ds) (hd : Vals dvs ds)
  (ha : PA X.nox (e :: es) t) (hdb : (x == ("__debug__" : Str)) = false := by decide) (he : starEach (e :: es) X.env = (false, eval e X.env) :: starEach es X.env := by rfl) (hpl : (backTo pos (starEach es X.env)).any (·.1) = false := by rfl) :
  PEX X (.Call (.Name x p) (e :: es) [] pos) (tCallX sp dvs t) := by
 intro pins s σ H Q EX I h
 refine wpAny_Call_Name_kw (ld_glob I hg hm ?_ hdb)
 refine PySem.W.callWith_K (h₀ := X.base) I.ok.mod.kin hk (wpAny_mono (ha pos pins s σ H _ (I.wish _) h) (fun us s1 ⟨vs, H1, I1, r, q⟩ => ⟨I1.kIn, ?_⟩) fun _ _ z => z.elim) he hpl
 exact runX b F hr hb hd I1.unwish r q
theorem psx_expr {te : TEX} (he : PEX X e te) (hs : swapsWith e none pos.line X.env = pure false := by rfl) : PSX X (.Expr e pos) (fun D EX σ H => te σ H (fun _ H1 => D.nx σ H1) (EX σ)) := by
 intro pins s σ H D EX I h
 exact wpAny_Expr_any (wpAny_mono (he pins s σ H _ _ I h) (fun v s1 ⟨y, H1, I1, r1, q1⟩ => ⟨σ, H1, I1, q1⟩) fun _ _ z => ⟨σ, z⟩) I.quiet hs
theorem pssx_one {st : Stmt} {u : TSX} (h : PSX X st u) : PSsX X [st] u := by
 intro pins s σ H D EX I hq
 refine wpAny_execs_cons (wpAny_mono (h pins s σ H D EX I hq) (fun fl s1 q => ?_) fun _ _ z => z)
 cases fl with
 | next => exact wpAny_execs_nil q
 | brk => exact q
 | cont => exact q
 | ret v => exact q
end
end My
namespace My
open PySem PySem.Spec L2
open PyProof.Rows hiding St
abbrev Xh (X : Cx) (ea : Addr) : Cx := { X with A := X.A.mark (some (.ref ea)), calm := false, xe := fun _ _ => False }
section
variable {X : Cx} {pins : List (Addr × Obj)} {σ : St} {H : Hp} {s : Shared} {ea : Addr}
theorem okH (ok : X.Ok) : (Xh X ea).Ok := ⟨ok.mod, ok.kind, ok.glob, ok.blt, ok.above, ok.inj, ok.has, ok.cab, (fun z => nomatch z), ok.frames, ok.stk, ok.exf, ok.bs, ok.bsz, ok.noex, ok.exfs, ok.funs, ok.frf⟩
theorem toH (I : Inv X pins σ H s) : Inv (Xh X ea) pins σ H s := ⟨okH I.ok, I.os, I.bare, I.base, I.loc, I.cell, I.free, I.freeC, I.pin, I.hok, I.len⟩
theorem ofH (ok : X.Ok) (I : Inv (Xh X ea) pins σ H s) : Inv X pins σ H s := ⟨ok, I.os, I.bare, I.base, I.loc, I.cell, I.free, I.freeC, I.pin, I.hok, I.len⟩
def ExcAt (C ea : Addr) (h : Heap) : Prop := ∃ o, h.get? ea = some o ∧ o.cls = .ref C
def hoExc (C ea : Addr) : HO := .ext (ExcAt C ea)
theorem track {o : HO} (I : Inv X pins σ H s) (hn : H ea = none) (h0 : ∀ u, X.s₀.heap.get? ea = some u → False) (hL : ea ≠ X.env.locals) (hc : ∀ x c, X.env.cells.lookup x = some c → c ≠ ea)
  (hp : ∀ p ∈ X.pn ++ pins, p.1 ≠ ea) (new : ObjOk X.prog X.w (upd H ea o) s.heap ea o) : Inv X pins σ (upd H ea o) s := by
 have ne : ∀ b u, H b = some u → b ≠ ea := fun b u e z => by rw [z, hn] at e; cases e
 refine ⟨I.ok, I.os, I.bare, ⟨I.base.keep, I.base.slot, fun b u e n hx => ?_, I.base.there, fun b xs e => ?_, fun b u v e => ?_, fun b qs e => ?_⟩, I.loc, I.cell, ?_, fun x c e => ?_, fun p h => ?_, fun b u e => ?_, I.len⟩
 ·rw [upd_ne (fun (z : b = ea) => h0 u (by rw [← z]; exact e))]
  exact I.base.free b u e n hx
 ·have z := I.base.tups b xs e
  rw [upd_ne (ne b _ z)]; exact z
 ·have z := I.base.frzs b u v e
  rw [upd_ne (ne b _ z)]; exact z
 ·obtain ⟨more, z⟩ := I.base.tbls b qs e
  exact ⟨more, by rw [upd_ne (ne b _ z)]; exact z⟩
 ·rw [upd_ne (Ne.symm hL)]; exact I.free
 ·rw [upd_ne (hc x c e)]; exact I.freeC x c e
 ·obtain ⟨e, n, r⟩ := I.pin p h
  exact ⟨e, by rw [upd_ne (hp p h)]; exact n, r⟩
 ·by_cases z : b = ea
  ·subst z
   rw [upd_same] at e
   cases e
   exact new
  ·rw [upd_ne z] at e
   refine (I.hok b u e).stay (fun _ _ _ q => q) (fun c q => ?_) (fun c xs q => ?_) fun c o q => ?_
   ·rw [upd_ne (ne c _ q)]; exact q
   ·rw [upd_ne (ne c _ q)]; exact q
   ·rw [upd_ne (ne c _ q)]; exact q
theorem gone {i : Nat} {n : Str} {pos : Pos} {M : Model} {A : Around} {E : Value → Shared → Prop} {Q : Unit → Shared → Prop} (I : Inv X pins σ H s) (hN : X.N.Nodup) (hi : X.N[i]? = some n) (hk : X.env.scope.names.lookup n = some .local)
  (h : ∀ s', Inv X pins (σ.set i none) H s' → Q () s') : wpAny M A (do bindName X.env n .none; unbindBehindTheSuite X.env n pos) Q E s := by
 obtain ⟨m, hn, hl⟩ := id I.loc
 have hcls : (X.env.scope.kind == .class || (X.env.scope.kind == .module && X.env.locals != X.env.globals)) = false := by rw [I.ok.kind]; rfl
 refine wpAny_nameGoes_keeps hk hn hcls fun h' v hn' hs => ?_
 have ob : ∀ b o, X.s₀.heap.get? b = some o → b ≠ X.env.locals := fun b o e => Nat.ne_of_lt (Nat.lt_of_lt_of_le (Heap.lt_size e) I.ok.above)
 refine h _ ⟨I.ok, I.os, I.bare, ⟨fun b o e n' hb hx => ?_, fun b o e n' hb hx => ?_, I.base.free, fun b o e hx => ?_, I.base.tups, I.base.frzs, I.base.tbls⟩, ⟨_, hn', fun j y v' e1 e2 e3 => ?_⟩, fun y c e => ?_, I.free, I.freeC, fun p hp => ?_, fun b u e => ?_, by simpa using I.len⟩
 ·exact (hs.2 b (ob b o e)).trans (I.base.keep b o e n' hb hx)
 ·obtain ⟨sl, e1⟩ := I.base.slot b o e n' hb hx
  exact ⟨sl, (hs.2 b (ob b o e)).trans e1⟩
 ·obtain ⟨o', e1⟩ := I.base.there b o e hx
  exact ⟨o', (hs.2 b (ob b o e)).trans e1⟩
 ·by_cases hj : j = i
  ·subst hj
   have hiσ : j < σ.length := by rw [I.len]; exact (List.getElem?_eq_some_iff.mp hi).1
   rw [List.getElem?_set_self hiσ] at e2
   cases e2
  ·rw [List.getElem?_set_ne (Ne.symm hj)] at e2
   obtain ⟨u', r', q⟩ := hl j y v' e1 e2 e3
   refine ⟨u', r', ?_⟩
   rcases q with ⟨k, e⟩ | ⟨k, c, e, z⟩
   ·refine .inl ⟨k, ?_⟩
    have ny : y ≠ n := fun e => hj (nodup_ix hN e1 (e ▸ hi))
    show (if y = n then v else m y) = _
    rw [if_neg ny]; exact e
   ·exact .inr ⟨k, c, e, z.sameBut hs (I.cne y c e)⟩
 ·obtain ⟨w', z⟩ := I.cell y c e
  exact ⟨w', z.sameBut hs (I.cne y c e)⟩
 ·obtain ⟨e, n', ne, nf, d⟩ := I.pin p hp
  exact ⟨(hs.2 p.1 ne).trans e, n', ne, nf, d⟩
 ·refine (I.hok b u e).stay (fun c w' hc q => (hs.2 c fun z => ?_).trans q) (fun _ q => q) fun _ _ q => q
  have fr := I.free
  rcases hc with z' | z'
  ·rw [← z, z', e] at fr; cases fr
  ·rw [← z, z'] at fr; cases fr
end
def tHand (K : PySem.W.Frag) (D : Addr) (i : Nat) (th : Addr → TS) (En : Ends) (σ : St) : XK := fun c _ H' => ∃ C, c = .ref C ∧ PySem.W.exmOne K (.ref C) (.ref D) = some true ∧ ∀ ea, H' ea = none →
 th ea { nx := fun σ2 H2 => En.nx (σ2.set i none) H2, rt := En.rt, bk := fun σ2 H2 => En.bk (σ2.set i none) H2, ct := fun σ2 H2 => En.ct (σ2.set i none) H2 } (σ.set i (some (.ref ea))) (upd H' ea (hoExc C ea))
def tTry (K : PySem.W.Frag) (tb : TSX) (D : Addr) (i : Nat) (th : Addr → TS) : TS := fun En σ H => tb En (tHand K D i th En) σ H
section
variable {X : Cx} {body : List Stmt} {x n : Str} {np hpos pos : Pos} {b₀ : Stmt} {suite : List Stmt} {tb : TSX} {th : Addr → TS} {D : Addr} {i : Nat}
theorem ps_try (b : Body X) (hb : PSsX X body tb) (hg : Gl X x) (hm : X.mg x = some (.ref D)) (hN : X.N.Nodup) (hi : X.N[i]? = some n) (hk : X.env.scope.names.lookup n = some .local) (hs : ∀ ea, PSs (Xh X ea) (b₀ :: suite) (th ea))
  (hdb : (x == ("__debug__" : Str)) = false := by decide) :
  PS X (.Try body [.ExceptHandler (some (.Name x np)) (some n) (b₀ :: suite) hpos] [] [] pos) (tTry X.K tb D i th) := by
 intro pins s σ H En I h
 refine wpAny_Try_except (wpAny_mono (hb pins s σ H En _ I h) (fun fl s1 q => ?_) fun e s1 q => ?_)
 ·cases fl with
  | next => exact wpAny_execs_nil q
  | brk => exact q
  | cont => exact q
  | ret v => exact q
 ·obtain ⟨σ1, ea, C, a0, B, H1, rfl, I1, fl, cv, C', eC, hx, q⟩ := q
  cases eC
  have hfr : X.A.frames = some (X.env :: X.outer) := by rw [I.ok.frames, b.st]
  have flS := fl
  rw [b.st] at fl
  refine wpAny_looks_onW hfr b.fr fl fun h4 held us4 => ?_
  refine wpAny_landsW (s := { s1 with heap := h4 }) held fun h5 fl5 us5 => ?_
  have I5 : Inv X pins σ1 H1 { s1 with heap := h5, toks := s1.toks } := fly I1 b.st b.fr cv fl.1 fl5.1 (us4.trans us5)
  refine wpAny_handleBy_cons (codeAny_handlers_test ?_) (by intro z; cases z)
  refine ld_glob (X := Xh X ea) (toH I5) hg hm ?_ hdb
  obtain ⟨oe, he, hec⟩ := fl5.there
  have LT : PySem.W.Looks (model X.prog X.w) h5 (typeOf (.ref ea)) (.ref C) := hec ▸ (PySem.W.Looks.ld he).andThen .now
  refine PySem.W.exm_one (K := X.K) I5.kIn LT hx _ _ _ _ (fun _ _ z => z) ?_
  refine codeAny_handlers_suite_as ?_
  refine lands_againW (s := { s1 with heap := h5 }) fl5 fun h6 fl6 us6 => ?_
  have I6 : Inv X pins σ1 H1 { s1 with heap := h6, toks := s1.toks } := fly I1 b.st b.fr cv fl.1 fl6.1 ((us4.trans us5).trans us6)
  obtain ⟨oe6, he6, hec6⟩ := fl6.there
  have nB : B.get? ea = none := fl6.2.1
  have hn : H1 ea = none := by
   cases z : H1 ea with
   | none => rfl
   | some o =>
    obtain ⟨o', z'⟩ := cv.trk ea o z
    rw [nB] at z'; cases z'
  have nfr : ea ∉ frs X.stack := fun z => by
   obtain ⟨_, o, z1, z2⟩ := I6.stack.mem z
   obtain ⟨oe', vs, T, oT, ts, y1, _, y2, _⟩ := fl6.2.2.2
   have z1 : h6.get? ea = some o := z1
   rw [y1] at z1; cases z1
   exact z2 vs y2
  have I7 : Inv X pins σ1 (upd H1 ea (hoExc C ea)) { s1 with heap := h6, toks := s1.toks } := by
   refine track I6 hn (fun u z => ?_) (fun z => nfr ?_) (fun y c e z => ?_) (fun p hp z => ?_) ⟨⟨oe6, he6, hec6⟩, ⟨oe6, he6⟩, fun ha hb ⟨o, z1, z2⟩ k => ⟨o, k o z1, z2⟩⟩
   ·obtain ⟨o', z'⟩ := cv.old ea u z nfr
    rw [nB] at z'; cases z'
   ·rw [b.st]
    exact List.mem_filterMap.mpr ⟨X.env, .head _, by rw [z]; exact b.fr⟩
   ·obtain ⟨o', z'⟩ := cv.cel y c e
    rw [z, nB] at z'; cases z'
   ·obtain ⟨o', z'⟩ := cv.pin p hp
    rw [z, nB] at z'; cases z'
  refine store_ok (X := Xh X ea) (v := .ref ea) (toH I7) hN hi (.inl hk) rfl (fun s8 I8 => ?_) (.inr hk)
  refine wpAny_mono (hs ea pins s8 _ _ _ I8 (q ea hn)) (fun f s9 q9 => ?_) fun _ _ z => z.elim
  cases f with
  | next =>
   obtain ⟨σ9, H9, I9, q9⟩ := q9
   exact gone (ofH I.ok I9) hN hi hk fun s' I' => ⟨_, _, I', q9⟩
  | brk =>
   obtain ⟨σ9, H9, I9, q9⟩ := q9
   exact gone (ofH I.ok I9) hN hi hk fun s' I' => ⟨_, _, I', q9⟩
  | cont =>
   obtain ⟨σ9, H9, I9, q9⟩ := q9
   exact gone (ofH I.ok I9) hN hi hk fun s' I' => ⟨_, _, I', q9⟩
  | ret v =>
   obtain ⟨y, σ9, H9, I9, r9, q9⟩ := q9
   exact gone (ofH I.ok I9) hN hi hk fun s' I' => ⟨y, _, _, I', r9, q9⟩
end
end My
namespace My
open PySem PySem.Spec L2 PySem.W PySem.Builtin PySem.Builtin.ObjectAttr PySem.Builtin.Getset_descriptor
open PyProof.Rows hiding St
section
variable {prog : Program} {w : World} {A : Around} {E : Value → Shared → Prop} {s : Shared} {K : Frag} {x D : Addr}
theorem exc_ty {M : Model} {h : Heap} {C : Addr} (p : ExcAt C x h) : Looks M h (typeOf (.ref x)) (.ref C) := by
 obtain ⟨o, h1, h2⟩ := p
 exact h2 ▸ (Looks.ld h1).andThen .now
structure ExcK (K : Frag) (D : Addr) : Prop where
 cl : (clsIn K D).isSome = true
 ga : findIn K (.ref D) "__getattribute__" = some (some (.builtin "BaseException.__getattribute__"))
 no : findIn K (.ref D) "__getattr__" = some none
 ha : findIn K (.ref D) "__class__" = some (some (.builtin "object.__class__"))
 hn : specialIn K (.builtin "object.__class__") "__get__" = some (some (.builtin "getset_descriptor.__get__"))
 tk : takesIn K (.builtin "object.__class__") = some true
 mo : mroIn K D (.type "object") = some true
 mb : mroIn K D (.type "BaseException") = some true
theorem cls_get {R : Result → Shared → Prop} {tp : Value} (X : K.In s.heap) (ty : ∀ M : Model, Looks M s.heap (typeOf (.ref x)) (.ref D)) (hm : mroIn K D (.type "object") = some true) (h : R (.ok (.ret (.ref D))) s) :
  codeAny (model prog w) A (.call (.builtin "getset_descriptor.__get__") ⟨[.builtin "object.__class__", .ref x, tp], []⟩) R s := by
 obtain ⟨hh, gg, dd, tt, oo⟩ := s
 have T0 := ty (model prog w)
 have T1 := looks_mroIn (M := model prog w) X hm
 refine codeAny_call_builtin KF.slot_gs.plain KF.entry_gs ?_
 refine KF.slot_gs.check _ _ _ _ _ _ _ _ KF.type_class (KF.args_gs _ _ _) ?_
 unfold Builtin.«getset_descriptor.__get__» descrGet
 rw [dga_obj]
 refine wpAny_bind (wpAny_pure ?_)
 unfold descrGetter descrCheckInstance descrNameAndClass isInstance
 simp only [KF.owner_class]
 repeat lk
 refine ⟨Code.quiet_builtin _ (by decide +kernel), ?_⟩
 refine codeAny_builtin KF.entry_class ?_
 unfold Builtin.«object.__class__» shownTypeOf
 repeat lk
 exact h
theorem exc_class {Q : Option Value → Shared → Prop} (X : K.In s.heap) (T : ExcK K D) (p : ExcAt D x s.heap) (h : Q (some (.ref D)) { s with toks := s.toks + 1 }) : wpAny (model prog w) A (getAttr? (.ref x) "__class__") Q E s := by
 obtain ⟨hh, g, d, t, os⟩ := s
 have L0 := exc_ty (M := model prog w) p
 have L1 := looks_findIn (M := model prog w) X T.ga
 have L2 := looks_findIn (M := model prog w) X T.no
 have L3 := looks_mroIn (M := model prog w) X T.mo
 have L4 := looks_mroIn (M := model prog w) X T.mb
 have f3 := PySem.F.attr_ValueError.ga.bind (.ref x)
 unfold getAttr? getAttrBy? getAttrBy
 refine wpAny_bind (wpAny_mkText (wpAny_bind (wpAny_attempt (wpAny_holding (wpAny_bind (L0.at (wpAny_bind (L1.at ?_))))))))
 dsimp only
 have own : (onTheHeap (Value.ref D) && Value.builtin "BaseException.__getattribute__" == Value.builtin "object.__getattribute__") = false := by
  rw [show (Value.builtin "BaseException.__getattribute__" == Value.builtin "object.__getattribute__") = false from by decide +kernel, Bool.and_false]
 rw [if_neg (by rw [own]; exact Bool.false_ne_true)]
 unfold getAttrByItsOwn hookBefore
 rw [if_pos (show onTheHeap (Value.ref D) = true from rfl)]
 refine wpAny_bind (L2.at (wpAny_bind (wpAny_attempt (wpAny_holding ?_))))
 unfold callGetattribute
 rw [if_neg (by decide)]
 unfold boundAndCalled
 rw [f3]
 refine wpAny_bind (wpAny_pure ?_)
 dsimp only
 refine wpAny_call (codeAny_call_builtin PySem.F.attr_ValueError.ga.plain F.entry_bexc_ga ?_)
 have hk : builtinKind "BaseException.__getattribute__" = some .slot := by decide +kernel
 have hp : splitId "BaseException.__getattribute__" = some ("BaseException", "__getattribute__") := by decide +kernel
 have ok := F.args_bexc_ga (.ref x) (.str "__class__" t)
 simp only [checkBuiltinCall, hk, hp, List.cons_append, List.nil_append]
 refine wpAny_bind ?_
 unfold isInstance
 refine wpAny_bind (L0.at (L4.at ?_))
 rw [if_neg (by decide)]
 refine wpAny_of_eq ok ?_
 have F1 := looks_findIn (M := model prog w) X T.ha
 have F2 : Looks (model prog w) hh (getOf (some (.builtin "object.__class__"))) (some (.builtin "getset_descriptor.__get__")) := looks_specialIn X T.hn
 have F3 := looks_takesIn (M := model prog w) X T.tk
 have LF : Looks (model prog w) hh (find (.ref x) (.ref D) "__class__") (.bind (.builtin "getset_descriptor.__get__") (.builtin "object.__class__")) :=
  F1.andThen (F2.andThen ((show Looks (model prog w) hh (dataDescriptor? (some (.builtin "object.__class__")) (some (.builtin "getset_descriptor.__get__"))) (some (.builtin "getset_descriptor.__get__", .builtin "object.__class__")) from F3.andThen .now).andThen (Looks.tag .now)))
 unfold Builtin.«object.__getattribute__»
 refine wpAny_bind (wpAny_pure ?_)
 dsimp only
 refine wpAny_bind (wpAny_pure ?_)
 refine wpAny_bind (L0.at (wpAny_bind (LF.at ?_)))
 dsimp only
 unfold bindTo
 dsimp only
 refine wpAny_bind (wpAny_holding (wpAny_call (cls_get X (fun M => exc_ty p) T.mo ?_)))
 refine wpAny_pure ?_
 show wpAny _ _ (handedOut (.ref D)) _ _ _
 rw [handedOut_of rfl]
 exact wpAny_pure (wpAny_pure h)
theorem kitx_exc (T : ExcK K D) : KitX K (.ref x) (.ref D) (ExcAt D x) where
 ty := fun _ _ _ q => exc_ty q
 it := fun _ _ X _ => by
  obtain ⟨cd, hc⟩ := Option.isSome_iff_exists.mp T.cl
  unfold clsIn at hc
  split at hc
  ·rename_i ho
   intro A' Q' E' s' k q
   unfold isType loadHead
   exact wpAny_bind (wpAny_loadPart (k _ _ (X _ _ ho)) (wpAny_pure q))
  ·cases hc
 ne := fun h tp dd its n sl X htp => by
  obtain ⟨cd, hc⟩ := Option.isSome_iff_exists.mp T.cl
  refine Bool.eq_false_iff.mpr fun q => ?_
  have e : D = tp := Value.ref.inj (beq_iff_eq.mp q)
  subst e
  unfold clsIn at hc
  split at hc
  ·rename_i ho
   have z := (X _ _ ho).symm.trans htp
   cases z
  ·cases hc
 ca := fun X q k => exc_class X T q k
end
end My
namespace My
open PySem PySem.Spec L2
open PyProof.Rows hiding St
def clsV : V → Option Value
 | .ref a => some (.ref a)
 | .ty n => some (.type n)
 | _ => none
theorem clsV_rel {y : V} {u c : Value} (r : RelV y u) (e : clsV y = some c) : u = c := by
 cases y
 case ref a => cases e; exact r
 case ty n => cases e; exact r
 all_goals cases e
theorem clsVs_rel : ∀ {ys : List V} {us cs : List Value}, Vals ys us → ys.map clsV = cs.map some → us = cs
 | [], _, cs, .nil, e => by
  cases cs with
  | nil => rfl
  | cons c r => cases e
 | y :: ys, _, cs, .cons r rs, e => by
  cases cs with
  | nil => cases e
  | cons c cs' =>
   rw [List.map_cons, List.map_cons] at e
   injection e with e1 e2
   rw [clsV_rel r e1, clsVs_rel rs e2]
section
variable {X : Cx} {e : Expr} {es : List Expr} {t : TA} {pos p : Pos}
def rInstE (K : PySem.W.Frag) : List V → Hp → VK → Prop := fun xs H Q => ∃ ea C y c b, xs = [.ref ea, y] ∧ H ea = some (hoExc C ea) ∧ ExcK K C ∧ clsV y = some c ∧ PySem.W.kitOne K (.ref C) c = some b ∧ Q (.bl b) H
def rInstT (K : PySem.W.Frag) : List V → Hp → VK → Prop := fun xs H Q => ∃ ea C tp ys cs b, xs = [.ref ea, .ref tp] ∧ H ea = some (hoExc C ea) ∧ ExcK K C ∧ H tp = some (.tup ys) ∧ ys.map clsV = cs.map some ∧ PySem.W.kitAny K (.ref C) cs = some b ∧ Q (.bl b) H
theorem call_instE : CallR X (.builtin "isinstance") (rInstE X.K) := by
 intro pins s σ H xs us Q I r h
 obtain ⟨ea, C, y, c, b, rfl, he, T, hc, hk, q⟩ := h
 obtain ⟨u, v, rfl, ru, rv⟩ := vals2 r
 cases (show u = Value.ref ea from ru)
 cases clsV_rel rv hc
 obtain ⟨p, _⟩ := (show ObjOk X.prog X.w H s.heap ea (hoExc C ea) from I.hok ea _ he)
 exact PySem.W.kia_one (kitx_exc T) I.kIn p hk (fun z => nomatch z) fun tk => ⟨.bl b, H, I.tok tk, rfl, q⟩
theorem call_instT : CallR X (.builtin "isinstance") (rInstT X.K) := by
 intro pins s σ H xs us Q I r h
 obtain ⟨ea, C, tp, ys, cs, b, rfl, he, T, ht, hc, hk, q⟩ := h
 obtain ⟨u, v, rfl, ru, rv⟩ := vals2 r
 cases (show u = Value.ref ea from ru)
 cases (show v = Value.ref tp from rv)
 obtain ⟨p, _⟩ := (show ObjOk X.prog X.w H s.heap ea (hoExc C ea) from I.hok ea _ he)
 obtain ⟨_, its, rs, o, h1, h2, n, h3⟩ := (show ObjOk X.prog X.w H s.heap tp (.tup ys) from I.hok tp _ ht)
 have e2 := clsVs_rel rs hc
 subst e2
 obtain ⟨oc, od, oda, osl⟩ := o
 dsimp only at h2 h3
 subst h2 h3
 exact PySem.W.kia_tup (kitx_exc T) I.kIn p h1 hk (fun z => nomatch z) fun tk => ⟨.bl b, H, I.tok tk, rfl, q⟩
theorem q_instE (hg : Gl X "isinstance") (hm : X.mg "isinstance" = none) (ha : QA X (e :: es) t) (hp : (e :: es).all plainE = true := by rfl) : QE X (.Call (.Name "isinstance" p) (e :: es) [] pos) (tCB (rInstE X.K) t) := ⟨pe_cB call_instE hg hm (by rfl) ha.h hp⟩
theorem q_instT (hg : Gl X "isinstance") (hm : X.mg "isinstance" = none) (ha : QA X (e :: es) t) (hp : (e :: es).all plainE = true := by rfl) : QE X (.Call (.Name "isinstance" p) (e :: es) [] pos) (tCB (rInstT X.K) t) := ⟨pe_cB call_instT hg hm (by rfl) ha.h hp⟩
end
structure FunD (K : PySem.W.Frag) (x qual : Str) (st : Stmt) (dV : Value) (f : Addr) (fd : FuncData) : Prop where
 ex : ∃ (oc : Value) (od : Option Addr) (kV doc pm : Value) (an : Option Addr) (cdv ct : Value) (osl : Array (Option Value)),
  fd = PySem.W.fnOf x qual (defArgs st) (defBody st) (defScope st) dV kV doc pm an cdv ct ∧ K.lookup f = some ⟨oc, od, .func fd, osl⟩ ∧ PySem.W.codeIn K cdv qual = true
 kp : PySem.W.keepIn K (.ref f) = true
theorem fund_mk {K : PySem.W.Frag} {x qual : Str} {st : Stmt} {dV : Value} {f : Addr} {oc : Value} {od an : Option Addr} {osl : Array (Option Value)} {kV doc pm cdv ct : Value} (l : K.lookup f = some ⟨oc, od, .func (PySem.W.fnOf x qual (defArgs st) (defBody st) (defScope st) dV kV doc pm an cdv ct), osl⟩)
  (c : PySem.W.codeIn K cdv qual = true) (k : PySem.W.keepIn K (.ref f) = true) : FunD K x qual st dV f (PySem.W.fnOf x qual (defArgs st) (defBody st) (defScope st) dV kV doc pm an cdv ct) := ⟨⟨oc, od, kV, doc, pm, an, cdv, ct, osl, rfl, l, c⟩, k⟩
section
variable {P : Program} {w : World} {K : PySem.W.Frag} {mg : Str → Option Value} {base : Heap} {x qual : Str} {st : Stmt} {dV : Value} {f : Addr} {fd : FuncData} {N ps : List Str} {k : Nat} {sp : Sp}
theorem okX (F : FunD K x qual st dV f fd) (S : FnScope N ps (defScope st)) (len : ∀ vs H Q E, sp vs H Q E → vs.length = ps.length)
  (hbody : ∀ (cdv : Value) (A : Around) (outer : List Env) (s : Shared) (H : Hp) (vs : List V) (Q : VK) (E : XK), Room k (A.deeper (envOfC qual (defScope st) s.heap.objs.size f cdv)) → sp vs H Q E →
   ∃ t, QB (cxOf (CX1 P w) P w K mg base N qual (defScope st) f cdv A outer s H E) (defBody st) t ∧ t { nx := fun _ H' => Q .non H', rt := Q } (start N vs) H) : FnOk P w K mg base (CX1 P w) (k + 1) f fd ps sp := by
 obtain ⟨oc, od, kV, doc, pm, an, cdv, ct, osl, rfl, lk, hcd⟩ := F.ex
 refine fn_of lk hcd S len fun A outer s H vs Q E hr hsp => ?_
 obtain ⟨t, h, q⟩ := hbody cdv A outer s H vs Q E hr hsp
 exact ⟨t, h.h, q⟩
theorem okQD (F : FunD K x qual st dV f fd) (S : FnScope N ps (defScope st)) (len : ∀ vs H Q E, sp vs H Q E → vs.length = ps.length)
  (hbody : ∀ (cdv : Value) (A : Around) (outer : List Env) (s : Shared) (H : Hp) (vs : List V) (Q : VK) (E : XK), Room k (A.deeper (envOfC qual (defScope st) s.heap.objs.size f cdv)) → sp vs H Q E →
   ∃ t, QB (cxOf CX0 P w K mg base N qual (defScope st) f cdv A outer s H E).nox (defBody st) t ∧ t { nx := fun _ H' => Q .non H', rt := Q } (start N vs) H) : FnOk P w K mg base CX0 (k + 1) f fd ps sp := by
 obtain ⟨oc, od, kV, doc, pm, an, cdv, ct, osl, rfl, lk, hcd⟩ := F.ex
 refine fn_of lk hcd S len fun A outer s H vs Q E hr hsp => ?_
 obtain ⟨t, h, q⟩ := hbody cdv A outer s H vs Q E hr hsp
 exact ⟨t, h.h.nox, q⟩
theorem noerr (F : FnOk P w K mg base (CX1 P w) k f fd ps sp) : FnOk P w K mg base CX0 k f fd ps (fun vs H Q _ => sp vs H Q E0) :=
 ⟨fun vs H Q _ h => F.len vs H Q _ h, fun A outer s H args us vs Q _ hr e0 hb r h => codeAny_mono (F.run A outer s H args us vs Q E0 hr e0 hb r h) fun res s' q => by
  cases res with
  | error e =>
   obtain ⟨_, _, _, _, _, _, _, _, _, _, _, _, _, z⟩ := q
   exact z.elim
  | ok fl => cases fl <;> exact q⟩
end
theorem mulOk {x y : Int} {a b : Nat} (hx : x.natAbs < 2 ^ a) (hy : y.natAbs < 2 ^ b) (h : a + b ≤ 1000000) : IntMulOk x y := by
 have key : ∀ {z : Int} {n : Nat}, z.natAbs < 2 ^ n → Builtin.Int.intBits z ≤ n := fun {z n} hz => by
  unfold Builtin.Int.intBits
  split
  ·exact Nat.zero_le _
  ·rename_i h0
   have h1 : z.natAbs ≠ 0 := by
    intro q
    apply h0
    have : z = 0 := by omega
    simp [this]
   have := (Nat.log2_lt h1).mpr hz
   omega
 exact IntMulOk.of_le (key hx) (key hy) (by omega)
structure FnD (P : Program) (w : World) (K : PySem.W.Frag) (mg : Str → Option Value) (base : Heap) (CX : CXT) (k : Nat) (x : Str) (ps : List Str) (dvs : List V) (sp : Sp) : Prop where
 ex : ∃ (f : Addr) (fd : FuncData) (ds : List Value), FnOk P w K mg base CX k f fd ps sp ∧ Binds K fd ps ds ∧ Vals dvs ds ∧ PySem.W.keepIn K (.ref f) = true ∧ mg x = some (.ref f)
structure QX (X : Cx) (e : Expr) (t : TEX) : Prop where
 h : PEX X e t
structure QSX (X : Cx) (sts : List Stmt) (t : TSX) : Prop where
 h : PSsX X sts t
section
variable {X : Cx} {E : XK} {j k : Nat} {x : Str} {ps : List Str} {sp : Sp} {p pos : Pos} {e : Expr} {es : List Expr} {t : TA} {dvs : List V} {C : Addr}
theorem q_fnX (b : Goes X E) (F : Fn X.prog X.w X.K X.mg X.base (CX1 X.prog X.w) j x ps sp) (hr : Room k X.A) (hj : j ≤ k) (hg : Gl X x) (ha : QA X (e :: es) t) (hp : (e :: es).all plainE = true := by rfl) (hdb : (x == ("__debug__" : Str)) = false := by decide) :
  QE X (.Call (.Name x p) (e :: es) [] pos) (tCall sp [] E t) := by
 obtain ⟨f, fd, G, bd, kp, m⟩ := F.ex
 exact ⟨pe_call G (hr.mono hj) hg m kp bd .nil b.pass ha.h hdb (se_cons (hd_plain hp).1) (se_any (hd_plain hp).2)⟩
theorem s_raise {np cpos : Pos} (b : Goes X E) (hm : X.mg x = some (.ref C)) (q : ErrC X.K C) (hg : Gl X x) (ha : QA X (e :: es) t) (hc : X.calm = true := by rfl) (hp : (e :: es).all plainE = true := by rfl) (hdb : (x == ("__debug__" : Str)) = false := by decide) :
  QS X (.Raise (some (.Call (.Name x np) (e :: es) [] cpos)) none pos) (tRaise C E t) := ⟨ps_raise b hc hg hm q ha.h hdb (se_cons (hd_plain hp).1) (se_any (hd_plain hp).2)⟩
theorem body_nox {P : Program} {w : World} {K : PySem.W.Frag} {mg : Str → Option Value} {base : Heap} {N : List Str} {qual : Str} {scope : Scope} {f : Addr} {cd : Value} {A : Around} {outer : List Env} {s : Shared} {H : Hp} {E : XK} {CX : CXT} :
  Body (cxOf CX P w K mg base N qual scope f cd A outer s H E).nox := ⟨rfl, rfl, rfl, fun _ => rfl⟩
theorem x_fn (b : Body X) (F : Fn X.prog X.w X.K X.mg X.base (CX1 X.prog X.w) j x ps sp) (hr : Room k X.A) (hj : j ≤ k) (hg : Gl X x) (ha : QA X.nox (e :: es) t) (hp : (e :: es).all plainE = true := by rfl) (hdb : (x == ("__debug__" : Str)) = false := by decide) :
  QX X (.Call (.Name x p) (e :: es) [] pos) (tCallX sp [] t) := by
 obtain ⟨f, fd, G, bd, kp, m⟩ := F.ex
 have G' : FnOk X.prog X.w X.K X.mg X.base (CX1 X.prog X.w) k f fd ps sp := G.mono hj
 exact ⟨pex_call b G' hr hg m kp bd .nil ha.h hdb (se_cons (hd_plain hp).1) (se_any (hd_plain hp).2)⟩
def tXE (te : TEX) : TSX := fun D EX σ H => te σ H (fun _ H1 => D.nx σ H1) (EX σ)
def tXS (i : Nat) (te : TEX) : TSX := fun D EX σ H => te σ H (fun v H1 => D.nx (σ.set i (some v)) H1) (EX σ)
theorem sx_expr {te : TEX} (he : QX X e te) (hs : swapsWith e none pos.line X.env = pure false := by rfl) : QSX X [.Expr e pos] (tXE te) := ⟨pssx_one (psx_expr he.h hs)⟩
theorem s_try {body : List Stmt} {n : Str} {np hpos : Pos} {b₀ : Stmt} {suite : List Stmt} {tb : TSX} {th : Addr → TS} {D : Addr} (i : Nat) (b : Body X) (hN : X.N.Nodup) (hm : X.mg x = some (.ref D)) (hb : QSX X body tb) (hs : ∀ ea, QB (Xh X ea) (b₀ :: suite) (th ea))
  (hg : Gl X x := by rfl) (hi : X.N[i]? = some n := by rfl) (hk : X.env.scope.names.lookup n = some .local := by rfl) (hdb : (x == ("__debug__" : Str)) = false := by decide) :
  QS X (.Try body [.ExceptHandler (some (.Name x np)) (some n) (b₀ :: suite) hpos] [] [] pos) (tTry X.K tb D i th) := ⟨ps_try b hb.h hg hm hN hi hk (fun ea => (hs ea).h) hdb⟩
end
end My
namespace My
open PySem PySem.Spec L2
open PyProof.Rows hiding St
inductive EqD (H : Hp) : V → V → Bool → Nat → Prop where
 | flat {x y : V} (fx : flatV x = true) (fy : flatV y = true) : EqD H x y (eqV x y) 0
 | tup {a b : Addr} {xs ys : List V} {e : Nat → Bool} {n : Nat} (ha : H a = some (.tup xs)) (hb : H b = some (.tup ys)) (h : ∀ j x y, xs[j]? = some x → ys[j]? = some y → EqD H x y (e j) n) :
   EqD H (.ref a) (.ref b) ((List.range (min xs.length ys.length)).all e && xs.length == ys.length) (n + 1)
 | lst {a b : Addr} {xs ys : List V} {e : Nat → Bool} {n : Nat} (ha : H a = some (.lst xs)) (hb : H b = some (.lst ys)) (hl : xs.length = ys.length) (h : ∀ j x y, xs[j]? = some x → ys[j]? = some y → EqD H x y (e j) n) :
   EqD H (.ref a) (.ref b) ((List.range xs.length).all e) (n + 1)
 | lstNe {a b : Addr} {xs ys : List V} {n : Nat} (ha : H a = some (.lst xs)) (hb : H b = some (.lst ys)) (hl : xs.length ≠ ys.length) : EqD H (.ref a) (.ref b) false (n + 1)
 | up {x y : V} {b : Bool} {n : Nat} (h : EqD H x y b n) : EqD H x y b (n + 1)
theorem eqV_refl {x : V} (h : flatV x = true) : eqV x x = true := by
 cases x
 case non => rfl
 case bl b => simp [eqV]
 case int i => simp [eqV]
 case str y => simp [eqV]
 all_goals exact absurd (show false = true from h) (by decide)
theorem all_range {n : Nat} {e : Nat → Bool} (h : ∀ j, j < n → e j = true) : (List.range n).all e = true := List.all_eq_true.mpr fun j hj => h j (List.mem_range.mp hj)
theorem EqD.self {H : Hp} {x y : V} {b : Bool} {n : Nat} (h : EqD H x y b n) : x = y → b = true := by
 induction h with
 | flat fx fy => intro e; subst e; exact eqV_refl fx
 | @tup a b xs ys e n ha hb h ih =>
  intro q
  injection q with q
  subst q
  rw [ha] at hb
  injection hb with hb
  injection hb with hb
  subst hb
  rw [all_range, Bool.true_and, beq_self_eq_true]
  intro j hj
  rw [Nat.min_self] at hj
  exact ih j _ _ (List.getElem?_eq_getElem hj) (List.getElem?_eq_getElem hj) rfl
 | @lst a b xs ys e n ha hb hl h ih =>
  intro q
  injection q with q
  subst q
  rw [ha] at hb
  injection hb with hb
  injection hb with hb
  subst hb
  exact all_range fun j hj => ih j _ _ (List.getElem?_eq_getElem hj) (List.getElem?_eq_getElem hj) rfl
 | up h ih => exact ih
 | lstNe ha hb hl =>
  intro q
  injection q with q
  subst q
  rw [ha] at hb
  injection hb with hb
  injection hb with hb
  subst hb
  exact absurd rfl hl
section
variable {X : Cx} {pins : List (Addr × Obj)} {σ : St} {H : Hp} {s : Shared}
theorem EqD.at (I : Inv X pins σ H s) {x y : V} {b : Bool} {n : Nat} (h : EqD H x y b n) : ∀ {A : Around} {u v : Value}, RelV x u → RelV y v → A.units + n < cLine →
  SeqAt.EqAt A s u v b ∧ ((∃ a c, x = .ref a ∧ y = .ref c) → SeqAt.RcAt A s u v b) := by
 induction h with
 | flat fx fy =>
  intro A u v r1 r2 _
  refine ⟨eqAt_V r1 r2 fx fy, ?_⟩
  rintro ⟨a, c, rfl, _⟩
  cases fx
 | @tup a b xs ys e n ha hb h ih =>
  intro A u v r1 r2 hu
  cases r1
  cases r2
  obtain ⟨its, v1, t1, _⟩ := I.tuple (SqT.of ha)
  obtain ⟨jts, v2, t2, _⟩ := I.tuple (SqT.of hb)
  have rc : SeqAt.RcAt A s (.ref a) (.ref b) ((List.range (min xs.length ys.length)).all e && xs.length == ys.length) := by
   have z := SeqAt.RcAt.tuples (A := A) (s := s) (e := e) t1 t2 (by omega) fun j h1 h2 => by
    have k1 : j < xs.length := by rw [v1.length]; simpa using h1
    have k2 : j < ys.length := by rw [v2.length]; simpa using h2
    obtain ⟨u1, q1, w1⟩ := v1.get (List.getElem?_eq_getElem k1)
    obtain ⟨u2, q2, w2⟩ := v2.get (List.getElem?_eq_getElem k2)
    have g1 : its.toArray[j] = u1 := by
     have := List.getElem?_eq_some_iff.mp q1
     obtain ⟨hh, this⟩ := this
     simpa using this
    have g2 : jts.toArray[j] = u2 := by
     have := List.getElem?_eq_some_iff.mp q2
     obtain ⟨hh, this⟩ := this
     simpa using this
    rw [g1, g2]
    exact (ih j _ _ (List.getElem?_eq_getElem k1) (List.getElem?_eq_getElem k2) w1 w2 (by show A.units + 1 + n < cLine; omega)).1
   simpa [v1.length, v2.length] using z
  refine ⟨?_, fun _ => rc⟩
  by_cases q : a = b
  ·have := (EqD.tup ha hb h).self (by rw [q])
   rw [this, q]
   exact SeqAt.EqAt.same _
  ·exact SeqAt.EqAt.of_refs q rc
 | @lst a b xs ys e n ha hb hl h ih =>
  intro A u v r1 r2 hu
  cases r1
  cases r2
  obtain ⟨its, v1, t1, _⟩ := I.list (SqL.of ha)
  obtain ⟨jts, v2, t2, _⟩ := I.list (SqL.of hb)
  have rc : SeqAt.RcAt A s (.ref a) (.ref b) ((List.range xs.length).all e) := by
   have z := SeqAt.RcAt.lists (A := A) (s := s) (e := e) t1.isList t2.isList (by simp [← v1.length, ← v2.length, hl]) (by omega) fun j h1 h2 => by
    have k1 : j < xs.length := by rw [v1.length]; simpa using h1
    have k2 : j < ys.length := by rw [v2.length]; simpa using h2
    obtain ⟨u1, q1, w1⟩ := v1.get (List.getElem?_eq_getElem k1)
    obtain ⟨u2, q2, w2⟩ := v2.get (List.getElem?_eq_getElem k2)
    have g1 : its.toArray[j] = u1 := by
     have := List.getElem?_eq_some_iff.mp q1
     obtain ⟨hh, this⟩ := this
     simpa using this
    have g2 : jts.toArray[j] = u2 := by
     have := List.getElem?_eq_some_iff.mp q2
     obtain ⟨hh, this⟩ := this
     simpa using this
    rw [g1, g2]
    exact (ih j _ _ (List.getElem?_eq_getElem k1) (List.getElem?_eq_getElem k2) w1 w2 (by show A.units + 1 + n < cLine; omega)).1
   simpa [v1.length, v2.length] using z
  refine ⟨?_, fun _ => rc⟩
  by_cases q : a = b
  ·have := (EqD.lst ha hb hl h).self (by rw [q])
   rw [this, q]
   exact SeqAt.EqAt.same _
  ·exact SeqAt.EqAt.of_refs q rc
 | up h ih =>
  intro A u v r1 r2 hu
  exact ih r1 r2 (by omega)
 | @lstNe a b xs ys n ha hb hl =>
  intro A u v r1 r2 hu
  cases r1
  cases r2
  obtain ⟨its, v1, t1, _⟩ := I.list (SqL.of ha)
  obtain ⟨jts, v2, t2, _⟩ := I.list (SqL.of hb)
  have rc : SeqAt.RcAt A s (.ref a) (.ref b) false := SeqAt.RcAt.lists_lengths t1.isList t2.isList (by simp [← v1.length, ← v2.length]; exact hl) (by omega)
  have ne : a ≠ b := fun q => by
   subst q
   rw [ha] at hb
   injection hb with hb
   injection hb with hb
   subst hb
   exact hl rfl
  exact ⟨SeqAt.EqAt.of_refs ne rc, fun _ => rc⟩
end
section
variable {X : Cx} {a b : Expr} {ta tb : TE} {pos : Pos} {k : Nat}
def rEqD : R2 := fun x y H Q => ∃ t n p c, x = .ref p ∧ y = .ref c ∧ EqD H x y t n ∧ n ≤ 60 ∧ Q (.bl t) H
theorem op_eqD (hr : Room k X.A) : OpR X (compareOp .Eq) rEqD := by
 intro pins s σ H x y v u Q I rx ry h
 obtain ⟨t, n, p, c, e1, e2, h, hn, q⟩ := h
 have hu := hr.units
 exact ((h.at I rx ry (by omega)).2 ⟨p, c, e1, e2⟩) _ _ _ _ ⟨.bl t, H, I, rfl, q⟩
theorem t_eqD (hr : Room k X.A) (ha : QE X a ta) (hb : QE X b tb) : QT X (.Compare a [.Eq] [b] pos) (tTest (tOp rEqD ta tb)) := ⟨pt_cmpR (op_eqD hr) ha.h hb.h (nomark _)⟩
end
end My
namespace My
open PySem PySem.Spec L2
open PyProof.Rows hiding St
section
variable {X : Cx} {pins : List (Addr × Obj)} {σ : St} {H : Hp} {s : Shared} {h' : Heap}
theorem vals_of : ∀ {xs : List V} {us : List Value}, xs.length = us.length → (∀ (i : Nat) x u, xs[i]? = some x → us[i]? = some u → RelV x u) → Vals xs us
 | [], [], _, _ => .nil
 | x :: xs, u :: us, hl, h => .cons (h 0 x u rfl rfl) (vals_of (by simpa using hl) fun i x u h1 h2 => h (i + 1) x u h1 h2)
def rngL (lo hi : Int) : List V := (List.range (hi - lo).toNat).map fun k : Nat => V.int (lo + (k : Int))
theorem rngL_len {lo hi : Int} : (rngL lo hi).length = (hi - lo).toNat := by simp [rngL]
theorem rngL_get {lo hi : Int} {i : Nat} (h : i < (hi - lo).toNat) : (rngL lo hi)[i]? = some (.int (lo + i)) := by
 unfold rngL
 rw [List.getElem?_map, List.getElem?_range h]
 rfl
def rList (K : PySem.W.Frag) : List V → Hp → VK → Prop := fun xs H Q => ∃ p ys, xs = [.ref p] ∧ (SqL K H p ys ∨ SqT K H p ys ∨ ∃ lo hi, H p = some (.rng lo hi) ∧ -(2 ^ 62) ≤ lo ∧ lo < 2 ^ 62 ∧ -(2 ^ 62) ≤ hi ∧ hi < 2 ^ 62 ∧ ys = rngL lo hi ∧ hi - lo ≤ 1000000) ∧
 ∀ l H2, H l = none → Same H H2 → H2 l = some (.lst ys) → Q (.ref l) H2
theorem call_listA (hc : X.calm = true) : CallR X (.type "list") (rList X.K) := by
 intro pins s σ H xs us Q I r h
 obtain ⟨p, ys, rfl, hq, q⟩ := h
 have old : ∀ l, H l = none → Q (.ref l) (upd H l (.lst ys)) := fun l hl => q l _ hl (same_new hl _) upd_same
 rcases hq with hq | hq | ⟨lo, hi, hq, h1, h2, h3, h4, rfl, h5⟩
 ·exact call_list_of pins s σ H [.ref p] us Q I r ⟨p, ys, rfl, .inl hq, old⟩
 ·exact call_list_of pins s σ H [.ref p] us Q I r ⟨p, ys, rfl, .inr hq, old⟩
 ·obtain ⟨u, rfl, rx⟩ := vals1 r
  cases rx
  obtain ⟨t, u, v, hr⟩ := I.hok p _ hq
  have hn : Builtin.Range.rangeSize lo hi 1 = ((hi - lo).toNat : Int) := by rw [rangeSize_one]; split <;> omega
  refine call_list_range (I.ok.hd hc) hr (small_one h1 h2 h3 h4) hn (by omega) fun h' tk acc' c' kk hl ⟨hs, hacc⟩ => ?_
  have hf : H s.heap.objs.size = none := I.hok.fresh (Nat.le_refl _)
  refine ⟨.ref s.heap.objs.size, _, I.laid kk (Nat.le_refl _) (show ObjOk X.prog X.w _ h' _ (.lst (rngL lo hi)) from ⟨?_, acc'.toList, c', vals_of ?_ fun i x u e1 e2 => ?_, by simpa using hl⟩), rfl, old _ hf⟩
  ·rw [rngL_len]; exact Nat.le_trans (m := 1000000) (by omega) (by decide)
  ·rw [rngL_len]; simpa using hs.symm
  ·have hi : i < (hi - lo).toNat := by rw [← rngL_len]; exact (List.getElem?_eq_some_iff.mp e1).1
   rw [rngL_get hi] at e1
   cases e1
   obtain ⟨t, rfl⟩ := hacc i u (by simpa using e2)
   exact ⟨t, by rw [Int.mul_one]⟩
end
end My
namespace My
open PySem PySem.Spec L2
open PyProof.Rows hiding St
def blkG (X : Cx) (N : List Str) (sc : Scope) (cl : List (Str × Addr)) (fn : Str → Bool) (s : Shared) (H : Hp) (fp : List Addr) : Cx where
 prog := X.prog
 w := X.w
 K := X.K
 mg := X.mg
 base := X.base
 A := X.A
 N := N
 s₀ := s
 H₀ := H
 env := compEnvC sc cl s.heap.objs.size X.env
 outer := X.stack
 stack := X.stack
 ex := fp
 calm := X.calm
 fn := fn
 pn := []
 xe := fun _ _ => False
abbrev blk (X : Cx) (N : List Str) (sc : Scope) (cl : List (Str × Addr)) (s : Shared) (H : Hp) (fp : List Addr) : Cx := blkG X N sc cl (fun _ => false) s H fp
def capOf (σ : St) (caps : List Nat) : St := caps.map fun i => (σ[i]?).join
structure Blk (X : Cx) (ts : List Str) (caps : List Nat) (cs : List Str) (sc : Scope) (cl : List (Str × Addr)) : Prop where
 clos : closureFor sc X.env = pure cl
 kind : sc.kind = .function
 cell : ∀ x ∈ sc.names, x.2 ≠ .cell
 loc : ∀ x ∈ sc.names, x.2 = .local → sc.names.lookup x.1 = some .local
 sub : ∀ x c, cl.lookup x = some c → X.env.cells.lookup x = some c
 has : ∀ x, ((relabel sc X.env).names.lookup x = some .cell ∨ (relabel sc X.env).names.lookup x = some .free) → ∃ c, cl.lookup x = some c
 len : caps.length = cs.length
 cap : ∀ (k : Nat) i x, caps[k]? = some i → cs[k]? = some x → X.N[i]? = some x ∧ (X.env.kindOf x = some .cell ∨ X.env.kindOf x = some .free)
 capK : ∀ x ∈ cs, (relabel sc X.env).names.lookup x = some .cell ∨ (relabel sc X.env).names.lookup x = some .free
section
variable {X : Cx} {pins : List (Addr × Obj)} {σ : St} {H : Hp} {s : Shared} {ts cs : List Str} {caps : List Nat} {sc : Scope} {cl : List (Str × Addr)} {fp : List Addr}
theorem blk_ok (B : Blk X ts caps cs sc cl) (I : Inv X pins σ H s) (hf : ∀ b ∈ fp, FpOk X pins H b) (hlt : ∀ b ∈ fp, b < s.heap.objs.size) : (blk X (ts ++ cs) sc cl s H fp).Ok where
 mod := I.ok.mod
 kind := B.kind
 glob := I.ok.glob
 blt := I.ok.blt
 above := Nat.le_refl _
 inj := fun x y c h1 h2 => I.ok.inj x y c (B.sub x c h1) (B.sub y c h2)
 has := fun x h => B.has x h
 cab := fun x c h _ => by cases h
 hd := I.ok.hd
 frames := I.ok.frames
 stk := .inl rfl
 exf := fun b hb => ⟨Nat.ne_of_lt (hlt b hb), fun x c h => (hf b hb).2.2.2.2.1 x c (B.sub x c h)⟩
 bs := I.bs
 bsz := Nat.le_trans I.ok.bsz I.sz
 noex := fun b o e hb => by
  rcases (hf b hb).2.2.2.1 with z | z
  ·exact I.ok.noex b o e z
  ·exact Nat.lt_irrefl _ (Nat.lt_of_lt_of_le (Heap.lt_size (I.ok.bs b o e).1) z)
 exfs := fun b hb z => by
  rcases List.mem_cons.mp (I.stkSub b z) with e | e
  ·exact (hf b hb).2.1 e
  ·exact (hf b hb).2.2.1 e
 funs := I.stack
 frf := I.stkFree
theorem blk_inv (B : Blk X ts caps cs sc cl) (I : Inv X pins σ H s) (hf : ∀ b ∈ fp, FpOk X pins H b) (hlt : ∀ b ∈ fp, b < s.heap.objs.size) {h₁ : Heap} {t' : Nat} (hn : h₁.Ns s.heap.objs.size fun _ => none) (kk : ∀ b o, s.heap.get? b = some o → h₁.get? b = some o) :
  Inv (blk X (ts ++ cs) sc cl s H fp) [] (List.replicate ts.length none ++ capOf σ caps) H { s with heap := h₁, toks := t' } := by
 have hfr : H s.heap.objs.size = none := I.hok.fresh (Nat.le_refl _)
 refine ⟨blk_ok B I hf hlt, rfl, I.bare, Un.kept kk, ⟨_, hn, fun i x v h1 h2 h3 => ?_⟩, fun x c e => ?_, hfr, fun x c e => I.freeC x c (B.sub x c e), fun p hp => absurd (show p ∈ ([] : List (Addr × Obj)) from hp) (by simp), I.hok.kept kk, ?_⟩
 ·have hi : ¬ i < ts.length := fun hi => by
   rw [List.getElem?_append_left (by simpa using hi), List.getElem?_replicate, if_pos hi] at h2
   cases h2
  have h1' : (ts ++ cs)[i]? = some x := h1
  rw [List.getElem?_append_right (by omega)] at h1'
  rw [List.getElem?_append_right (by simp; omega), List.length_replicate] at h2
  unfold capOf at h2
  rw [List.getElem?_map] at h2
  cases e : caps[i - ts.length]? with
  | none => rw [e] at h2; cases h2
  | some j =>
   rw [e] at h2
   have h2' : (σ[j]?).join = some v := by simpa using h2
   have h2'' : σ[j]? = some (some v) := by
    cases q : σ[j]? with
    | none => rw [q] at h2'; cases h2'
    | some o => rw [q] at h2'; cases h2'; rfl
   obtain ⟨hN, hk⟩ := B.cap _ _ _ e h1'
   obtain ⟨m, hm, hl⟩ := I.loc
   obtain ⟨u, r, l⟩ := hl j x v hN h2'' (.inr hk)
   refine ⟨u, r, ?_⟩
   rcases l with ⟨l, _⟩ | ⟨_, c, hc, ⟨o, ho, hd⟩⟩
   ·rcases hk with z | z <;> (rw [z] at l; cases l)
   ·have ck := B.capK x (List.mem_of_getElem? h1')
    obtain ⟨c', hc'⟩ := B.has x ck
    have := B.sub x c' hc'
    rw [hc] at this
    cases this
    exact .inr ⟨ck, c, hc', o, kk c o ho, hd⟩
 ·obtain ⟨v, o, ho, hd⟩ := I.cell x c (B.sub x c e)
  exact ⟨v, o, kk c o ho, hd⟩
 ·show (List.replicate ts.length (none : Option V) ++ capOf σ caps).length = (ts ++ cs).length
  rw [List.length_append, List.length_append, List.length_replicate]
  unfold capOf
  rw [List.length_map, B.len]
def testsOf (ifs : List Expr) (env : Env) : Sem Bool := forIn ifs true fun c r => if r = true then do let ok ← isTrue c env (eval c env); pure (ForInStep.yield ok) else pure (ForInStep.yield r)
def PTs (X : Cx) (ifs : List Expr) (t : TT) : Prop :=
 ∀ (pins : List (Addr × Obj)) (s : Shared) (σ : St) (H : Hp) (Q : Bool → Hp → Prop), Inv X pins σ H s → t σ H Q → wpAny (model X.prog X.w) X.A (testsOf ifs X.env) (TP X pins σ Q) X.xe s
def tYes : TT := fun _ H Q => Q true H
theorem pts_nil : PTs X [] tYes := fun _ _ _ H _ I h => wpAny_tests_nil ⟨H, I, h⟩
theorem pts_one {c : Expr} {t : TT} (h : PT X c t) : PTs X [c] t := fun pins s σ H Q I hq => wpAny_tests_one (h pins s σ H Q I hq)
theorem comp_loop {prog : Program} {w : World} {A : Around} {R : Result → Shared → Prop} {s : Shared} {elt target iter : Expr} {ifs : List Expr} {scope : Scope} {pos : Pos} {it acc : Value} {env : Env} (I : Nat → Shared → Prop)
  (turn : ∀ n s, I n s → wpAny (model prog w) A (pyNext it) (fun r s₁ => match r with
   | none => R (.ok .next) s₁
   | some v => wpAny (model prog w) A (letOwnedTupleGo target it v) (fun _ s₁' => wpAny (model prog w) A (assign target env v) (fun _ s₂ => wpAny (model prog w) A (testsOf ifs env) (fun ok s₃ =>
     if ok = true then wpAny (model prog w) A (eval elt env) (fun x s₄ =>
      wpAny (model prog w) A (call (.builtin "list.append") [acc, x]) (fun _ s₅ => ∃ m, m < n ∧ I m s₅) (notedBy (model prog w) A env fun e s' => R (.error e) s') s₄) (notedBy (model prog w) A env fun e s' => R (.error e) s') s₃
     else ∃ m, m < n ∧ I m s₃) (notedBy (model prog w) A env fun e s' => R (.error e) s') s₂) (notedBy (model prog w) A env fun e s' => R (.error e) s') s₁') (notedBy (model prog w) A env fun e s' => R (.error e) s') s₁) (notedBy (model prog w) A env fun e s' => R (.error e) s') s)
  (n : Nat) (h : I n s) : codeAny (model prog w) A (.compLoop (.ListComp elt [⟨target, iter, ifs, 0⟩] scope pos) 0 it acc env) R s := by
 refine codeAny_loop rfl I (fun n s hI => ?_) n h
 show wpAny _ _ ((compTurn (.ListComp elt [⟨target, iter, ifs, 0⟩] scope pos) 0 it acc env).onRaise (fun x => do noteFrame x env; theTreesLotGoes x)) _ _ s
 refine wpAny_noted ?_
 rw [compTurn_list]
 refine wpAny_bind (wpAny_standAt (wpAny_bind (wpAny_mono (turn n s hI) (fun r s₁ h₁ => ?_) fun _ _ h' => h')))
 cases r with
 | none => exact wpAny_pure h₁
 | some v =>
  refine wpAny_bind (wpAny_mono h₁ (fun _ s₁' h₁' => ?_) fun _ _ h' => h')
  refine wpAny_bind (wpAny_mono h₁' (fun _ s₂ h₂ => wpAny_bind (wpAny_mono h₂ (fun ok s₃ h₃ => ?_) fun _ _ h' => h')) fun _ _ h' => h')
  cases ok with
  | false => exact wpAny_pure ⟨rfl, h₃⟩
  | true => exact wpAny_bind (wpAny_bind (wpAny_mono h₃ (fun x s₄ h₄ => wpAny_bind (wpAny_mono h₄ (fun _ s₅ h₅ => wpAny_pure (wpAny_pure ⟨rfl, h₅⟩)) fun _ _ h' => h')) fun _ _ h' => h'))
def tBlkT (nt : Nat) (cp : St) (J : It) (g : TG) (tt : TT) (te : TE) (H1 : Hp) (Q : VK) : Prop := ∀ acc H2, H1 acc = none → Same H1 H2 → H2 acc = some (.lst []) →
 ∃ W : Nat → Nat → List V → Hp → Prop, (∃ m, W 0 m [] H2) ∧ ∀ i m ys H, W i m ys H → H acc = some (.lst ys) ∧ ((J.stop i H ∧ Q (.ref acc) H) ∨ (J.go i H ∧ ys.length < 1000000 ∧ ∃ N : List V → Hp → Prop, (∀ ys' H', N ys' H' → ∃ m', m' < m ∧ W (i + 1) m' ys' H') ∧
  ∀ os x H', os.length = nt → J.yld i H x H' → g x (os ++ cp) H' fun τ H3 => ∃ os', os'.length = nt ∧ τ = os' ++ cp ∧ tt τ H3 fun b H4 => if b = true then te τ H4 fun v H5 => H5 acc = some (.lst ys) ∧ N (ys ++ [v]) (upd H5 acc (.lst (ys ++ [v]))) else N ys H4))
def tBlk (nt : Nat) (cp : St) (J : It) (g : TG) (te : TE) (H1 : Hp) (Q : VK) : Prop := tBlkT nt cp J g tYes te H1 Q
def tCompT (nt : Nat) (caps : List Nat) (wi : TI) (g : TG) (tt : TT) (te : TE) : TE := fun σ H Q => wi σ H fun J H1 => tBlkT nt (capOf σ caps) J g tt te H1 Q
def tComp (nt : Nat) (caps : List Nat) (wi : TI) (g : TG) (te : TE) : TE := fun σ H Q => wi σ H fun J H1 => tBlk nt (capOf σ caps) J g te H1 Q
def BlkPost (X : Cx) (pins : List (Addr × Obj)) (σ : St) (Q : VK) (acc : Value) (C : Addr) (r : Result) (s' : Shared) : Prop :=
 r = .ok .next ∧ ∃ a H', acc = .ref a ∧ Inv X pins σ H' s' ∧ FpOk X pins H' C ∧ (∃ m, s'.heap.Ns C m) ∧ Q (.ref a) H'
theorem blk_key {elt target iter : Expr} {ifs : List Expr} {pos : Pos} {g : TG} {tt : TT} {te : TE} {it acc : Addr} {tn : Nat → Heap → Prop} {J : It} {Q : VK} {cells : List (Str × Addr)} {fn : Str → Bool} {s3 s4 : Shared} {H3 : Hp} {W : Nat → Nat → List V → Hp → Prop} {m0 : Nat} (hc : X.calm = true)
  (hg : PG (blkG X (ts ++ cs) sc cells fn s3 H3 fp) target g) (ht : PTs (blkG X (ts ++ cs) sc cells fn s3 H3 fp) ifs tt) (he : PE (blkG X (ts ++ cs) sc cells fn s3 H3 fp) elt te) (ok : (blkG X (ts ++ cs) sc cells fn s3 H3 fp).Ok)
  (I3 : Inv X pins σ H3 s3) (f3 : ∀ b ∈ fp, FpOk X pins H3 b) (hlt3 : ∀ b ∈ fp, b < s3.heap.objs.size) (T : Turn X.prog X.w X.K target J fp it tn) (J4 : Inv (blkG X (ts ++ cs) sc cells fn s3 H3 fp) [] (List.replicate ts.length none ++ capOf σ caps) H3 s4) (st4 : tn 0 s4.heap) (w0 : W 0 m0 [] H3)
  (step : ∀ i m ys H, W i m ys H → H acc = some (.lst ys) ∧ ((J.stop i H ∧ Q (.ref acc) H) ∨ (J.go i H ∧ ys.length < 1000000 ∧ ∃ N : List V → Hp → Prop, (∀ ys' H', N ys' H' → ∃ m', m' < m ∧ W (i + 1) m' ys' H') ∧
   ∀ os x H', os.length = ts.length → J.yld i H x H' → g x (os ++ capOf σ caps) H' fun τ H3 => ∃ os', os'.length = ts.length ∧ τ = os' ++ capOf σ caps ∧ tt τ H3 fun b H4 => if b = true then te τ H4 fun v H5 => H5 acc = some (.lst ys) ∧ N (ys ++ [v]) (upd H5 acc (.lst (ys ++ [v]))) else N ys H4))) :
  codeAny (model X.prog X.w) X.A (.compLoop (.ListComp elt [⟨target, iter, ifs, 0⟩] sc pos) 0 (.ref it) (.ref acc) (compEnvC sc cells s3.heap.objs.size X.env)) (BlkPost X pins σ Q (.ref acc) s3.heap.objs.size) s4 := by
 have stat : ∀ {H' : Hp}, (∀ b ∈ fp, H' b = none) → ∀ b ∈ fp, FpOk (blkG X (ts ++ cs) sc cells fn s3 H3 fp) [] H' b := fun hn b hb =>
  ⟨hn b hb, Nat.ne_of_lt (hlt3 b hb), ok.exfs b hb, .inl hb, ok.exf b hb |>.2, fun p hp => absurd (show p ∈ ([] : List (Addr × Obj)) from hp) (by simp)⟩
 refine comp_loop (fun n s' => ∃ i os ys H', os.length = ts.length ∧ Inv (blkG X (ts ++ cs) sc cells fn s3 H3 fp) [] (os ++ capOf σ caps) H' s' ∧ tn i s'.heap ∧ (∀ b ∈ fp, H' b = none) ∧ W i n ys H') ?_ m0
  ⟨0, List.replicate ts.length none, [], _, by simp, J4, st4, fun b hb => (f3 b hb).1, w0⟩
 rintro n s5 ⟨i, os, ys, H5, ol, J5, st5, fr5, w5⟩
 obtain ⟨ha, hcase⟩ := step i n ys H5 w5
 rcases hcase with ⟨stop, q⟩ | ⟨go, hys, N, hN, turn⟩
 ·refine thn (T.done (blkG X (ts ++ cs) sc cells fn s3 H3 fp) rfl rfl rfl hc i [] s5 _ H5 _ J5 (stat fr5) st5 stop) fun r s6 ⟨hr, J6⟩ => ?_
  subst hr
  have hf6 : H5 s3.heap.objs.size = none := J6.free
  obtain ⟨m6, hm6, _⟩ := J6.loc
  exact ⟨rfl, _, H5, rfl, I3.call' (J6.os) J6.base J6.hok J6.bare (fun b hb => ⟨(f3 b hb).2.2.2.1, (f3 b hb).2.1, (f3 b hb).2.2.2.2.1, (f3 b hb).2.2.2.2.2⟩), I3.fpOk (Nat.le_refl _) hf6, ⟨m6, hm6⟩, q⟩
 ·refine thn (T.item (blkG X (ts ++ cs) sc cells fn s3 H3 fp) rfl rfl rfl hc i [] s5 _ H5 _ J5 (stat fr5) st5 go) fun r s6 ⟨u, hr, h6⟩ => ?_
  subst hr
  refine thn h6 fun _ s7 ⟨x, H7, J7, r7, y7, st7, fr7⟩ => ?_
  have J7' := J7.pinned (stat fr7) (T.obj _ _ st7)
  refine wpAny_mono (hg _ s7 _ H7 x u _ J7' r7 (turn os x H7 ol y7)) (fun _ s8 ⟨σ8, H8, J8, os', ol', e8, q8⟩ => ?_) fun _ _ z => z.elim
  subst e8
  refine wpAny_mono (ht _ s8 _ H8 _ J8 q8) (fun b s8' ⟨H8', J8', q8'⟩ => ?_) fun _ _ z => z.elim
  cases b with
  | false =>
   rw [if_neg (by decide)] at q8' ⊢
   obtain ⟨m', hm', w9⟩ := hN _ _ q8'
   refine ⟨m', hm', i + 1, os', ys, _, ol', J8'.unpinned, T.keep _ _ _ st7 fun b hb o e => (J8'.pin (b, o) (List.mem_append_right _ (List.mem_append_right _ (mem_pinsAt hb e)))).1, fun b hb => ?_, w9⟩
   obtain ⟨o, e, d⟩ := T.obj _ _ st7 b hb
   exact (J8'.pin (b, o) (List.mem_append_right _ (List.mem_append_right _ (mem_pinsAt hb e)))).2.1
  | true =>
   rw [if_pos rfl] at q8' ⊢
   refine wpAny_mono (he _ s8' _ H8' _ J8' q8') (fun v s9 ⟨v9, H9, J9, r9, ha9, n9⟩ => ?_) fun _ _ z => z.elim
   refine wpAny_mono (mt_append (X := blkG X (ts ++ cs) sc cells fn s3 H3 fp) _ s9 _ H9 (.ref acc) [v9] (.ref acc) [v] (fun _ H' => H' = upd H9 acc (.lst (ys ++ [v9]))) J9 rfl (.cons r9 .nil) ⟨_, ys, v9, rfl, rfl, ha9, mill hys, rfl⟩) (fun _ s10 ⟨_, H10, J10, _, e10⟩ => ?_) fun _ _ z => z.elim
   subst e10
   obtain ⟨m', hm', w9⟩ := hN _ _ n9
   refine ⟨m', hm', i + 1, os', ys ++ [v9], _, ol', J10.unpinned, T.keep _ _ _ st7 fun b hb o e => (J10.pin (b, o) (List.mem_append_right _ (List.mem_append_right _ (mem_pinsAt hb e)))).1, fun b hb => ?_, w9⟩
   obtain ⟨o, e, d⟩ := T.obj _ _ st7 b hb
   exact (J10.pin (b, o) (List.mem_append_right _ (List.mem_append_right _ (mem_pinsAt hb e)))).2.1
theorem blk_run {elt target iter : Expr} {ifs : List Expr} {pos : Pos} {g : TG} {tt : TT} {te : TE} {it : Addr} {tn : Nat → Heap → Prop} {J : It} {Q : VK} {E : Value → Shared → Prop} (B : Blk X ts caps cs sc cl) (hc : X.calm = true)
  (hg : ∀ s H fp, PG (blk X (ts ++ cs) sc cl s H fp) target g) (ht : ∀ s H fp, PTs (blk X (ts ++ cs) sc cl s H fp) ifs tt) (he : ∀ s H fp, PE (blk X (ts ++ cs) sc cl s H fp) elt te)
  (I2 : Inv X pins σ H s) (T : Turn X.prog X.w X.K target J fp it tn) (st2 : tn 0 s.heap) (f2 : ∀ b ∈ fp, FpOk X pins H b) (h : tBlkT ts.length (capOf σ caps) J g tt te H Q) :
  wpAny (model X.prog X.w) X.A (newList []) (fun acc s₃ => wpAny (model X.prog X.w) X.A (newFunctionEnv sc X.env.globals cl [] X.env.qual none .none (some X.env)) (fun cenv s₄ =>
   codeAny (model X.prog X.w) X.A (.compStart (.ListComp elt [⟨target, iter, ifs, 0⟩] sc pos) 0 (.ref it) acc { cenv with scope := relabel sc X.env }) (BlkPost X pins σ Q acc cenv.locals) s₄) E s₃) E s := by
 refine wpAny_newObj_type (wpAny_newFunctionEnv B.cell (by intro y hy; simp at hy) (fun h₁ hns₁ hsb₁ => ?_) B.kind)
 dsimp only at hns₁ hsb₁ ⊢
 have hnew : H s.heap.objs.size = none := I2.hok.fresh (Nat.le_refl _)
 have I3 : Inv X pins σ (upd H s.heap.objs.size (.lst [])) { s with heap := s.heap.push { cls := .type "list", dict := none, data := .seq ([] : List Value).toArray } } :=
  I2.laid (t' := s.toks) (fun b u e => Heap.get?_push_of_some _ e) (Nat.le_refl _) ⟨Nat.zero_le _, [], 0, .nil, Heap.get?_push_size _ rfl⟩
 obtain ⟨W, ⟨m0, w0⟩, step⟩ := h s.heap.objs.size _ hnew (same_new hnew _) upd_same
 have old2 : ∀ b o, s.heap.get? b = some o → (s.heap.push { cls := .type "list", dict := none, data := .seq ([] : List Value).toArray }).get? b = some o := fun b o e => Heap.get?_push_of_some _ e
 generalize hs3 : ({ s with heap := s.heap.push { cls := .type "list", dict := none, data := .seq ([] : List Value).toArray } } : Shared) = s3 at I3
 have hh : s.heap.push { cls := .type "list", dict := none, data := .seq ([] : List Value).toArray } = s3.heap := by rw [← hs3]
 rw [hh] at hns₁ hsb₁ old2
 have fpO : ∀ b ∈ fp, ∃ o, s.heap.get? b = some o := fun b hb => let ⟨o, e, _⟩ := T.obj 0 _ st2 b hb; ⟨o, e⟩
 have f3 : ∀ b ∈ fp, FpOk X pins (upd H s.heap.objs.size (.lst [])) b := fun b hb => ⟨by
  obtain ⟨o, e⟩ := fpO b hb
  rw [upd_ne (Nat.ne_of_lt (Heap.lt_size e))]; exact (f2 b hb).1, (f2 b hb).2⟩
 have hlt3 : ∀ b ∈ fp, b < s3.heap.objs.size := fun b hb => let ⟨o, e⟩ := fpO b hb; Heap.lt_size (old2 b o e)
 have kk : ∀ b o, s3.heap.get? b = some o → h₁.get? b = some o := fun b o e => hsb₁.extBut b o (Nat.ne_of_lt (Heap.lt_size e)) (Heap.get?_push_of_some _ e)
 have J4 := blk_inv (t' := s.toks + ([] : List (Str × Value)).length) B I3 f3 hlt3 (h₁ := h₁) hns₁ kk
 have st4 : tn 0 h₁ := T.keep _ _ _ st2 fun b hb o e => kk b o (old2 b o e)
 have key : ∀ s4 : Shared, s4 = { s3 with heap := h₁, toks := s.toks + ([] : List (Str × Value)).length } →
   codeAny (model X.prog X.w) X.A (.compLoop (.ListComp elt [⟨target, iter, ifs, 0⟩] sc pos) 0 (.ref it) (.ref s.heap.objs.size) (compEnvC sc cl s3.heap.objs.size X.env)) (BlkPost X pins σ Q (.ref s.heap.objs.size) s3.heap.objs.size) s4 := by
  rintro s4 rfl
  exact blk_key hc (hg _ _ _) (ht _ _ _) (he _ _ _) (blk_ok B I3 f3 hlt3) I3 f3 hlt3 T J4 st4 w0 step
 have key2 := key { s with heap := h₁, toks := s.toks + ([] : List (Str × Value)).length } (by rw [← hs3])
 rw [hh]
 exact codeAny_compStart_list key2 (T.self _ 0 _ _ _ st4 key2)
theorem pe_compT {elt target iter : Expr} {ifs : List Expr} {pos : Pos} {wi : TI} {g : TG} {tt : TT} {te : TE} (B : Blk X ts caps cs sc cl) (hi : PI X target iter wi)
  (hg : ∀ s H fp, PG (blk X (ts ++ cs) sc cl s H fp) target g) (ht : ∀ s H fp, PTs (blk X (ts ++ cs) sc cl s H fp) ifs tt) (he : ∀ s H fp, PE (blk X (ts ++ cs) sc cl s H fp) elt te) (hc : X.calm = true := by rfl) (hs : ∀ x, foldedSetIterable iter X.env x = pure x := by intro _; rfl) :
  PE X (.ListComp elt [⟨target, iter, ifs, 0⟩] sc pos) (tCompT ts.length caps wi g tt te) := by
 intro pins s σ H Q I h
 rw [eval_ListComp]
 refine wpAny_comprehension_free (use := none) rfl hs B.clos B.kind B.loc (thn (hi pins s σ H _ I h) fun v s1 h1 => thn h1 fun itv s2 h2 => ?_)
 obtain ⟨it, fp, tn, J, H2, e, I2, T, st2, f2, hq⟩ := h2
 subst e
 refine thn (blk_run B hc hg ht he I2 T st2 f2 hq) fun acc s3 h3 => thn h3 fun cenv s4 h4 => codeAny_mono h4 fun r s' hp => ?_
 obtain ⟨rfl, a, H', rfl, I', fC, ⟨m, hm⟩, q⟩ := hp
 exact ⟨m, hm, fun h' sb => ⟨.ref a, H', I'.turned (t' := s'.toks) (fun b o hb e => sb.extBut b o hb e) fC.1 fC.2.1 fC.2.2.2.1 fC.2.2.2.2.1 fC.2.2.2.2.2, rfl, q⟩⟩
theorem ps_setCompT {elt target iter : Expr} {ifs : List Expr} {x : Str} {px pos spos : Pos} {wi : TI} {g : TG} {tt : TT} {te : TE} (i : Nat) (B : Blk X ts caps cs sc cl) (hi : PI X target iter wi)
  (hg : ∀ s H fp, PG (blk X (ts ++ cs) sc cl s H fp) target g) (ht : ∀ s H fp, PTs (blk X (ts ++ cs) sc cl s H fp) ifs tt) (he : ∀ s H fp, PE (blk X (ts ++ cs) sc cl s H fp) elt te) (hx : PG X (.Name x px) (gName i))
  (hsw : swapsWith (.ListComp elt [⟨target, iter, ifs, 0⟩] sc pos) (some (.Name x px)) spos.line X.env = pure true) (hc : X.calm = true := by rfl) (hs : ∀ x, foldedSetIterable iter X.env x = pure x := by intro _; rfl) :
  PS X (.Assign [.Name x px] (.ListComp elt [⟨target, iter, ifs, 0⟩] sc pos) spos) (tAsg (tCompT ts.length caps wi g tt te) (gName i)) := by
 intro pins s σ H D I h
 rw [exec_Assign_Name_used _ _ _ _ hsw]
 refine wpAny_bind (wpAny_standAt (wpAny_bind ?_))
 show wpAny _ X.A (do let _ ← comprehension (.ListComp elt [⟨target, iter, ifs, 0⟩] sc pos) sc X.env _ (newList []) false (eval iter X.env) (some (assign (.Name x px) X.env))) _ _ s
 refine wpAny_bind (wpAny_mono (wpAny_comprehension_free (use := some (assign (.Name x px) X.env)) (Q := fun _ s' => SP X pins D .next s') rfl hs B.clos B.kind B.loc
  (thn (hi pins s σ H _ I h) fun v s1 h1 => thn h1 fun itv s2 h2 => ?_)) (fun _ s' hq => wpAny_pure (wpAny_pure hq)) fun _ _ e => e)
 obtain ⟨it, fp, tn, J, H2, e, I2, T, st2, f2, hq⟩ := h2
 subst e
 refine thn (blk_run B hc hg ht he I2 T st2 f2 hq) fun acc s3 h3 => thn h3 fun cenv s4 h4 => codeAny_mono h4 fun r s' hp => ?_
 obtain ⟨rfl, a, H', rfl, I', fC, ⟨m, hm⟩, q⟩ := hp
 obtain ⟨oC, esC, epC, hoC, hdC, rC⟩ := id hm
 have Ip : Inv X (pins ++ [(cenv.locals, oC)]) σ H' s' := I'.pins_of fun p hp => by
  rcases List.mem_append.mp hp with z | z
  ·exact I'.pin p (List.mem_append_right _ z)
  ·have z : p = (cenv.locals, oC) := by simpa using z
   subst z
   exact ⟨hoC, fC.1, fC.2.1, fC.2.2.1, fun v z => by rw [show oC.data = _ from hdC] at z; cases z⟩
 refine thn (hx _ s' σ H' (.ref a) (.ref a) _ Ip rfl q) fun _ s5 ⟨σ5, H5, I5, q5⟩ => ?_
 have pC := I5.pin (cenv.locals, oC) (List.mem_append_right _ (List.mem_append_right _ (by simp)))
 refine ⟨m, ⟨oC, esC, epC, pC.1, hdC, rC⟩, fun h' sb => ⟨σ5, H5, I5.unpinned.turned (t' := s5.toks) (fun b o hb e => sb.extBut b o hb e) pC.2.1 fC.2.1 fC.2.2.2.1 fC.2.2.2.2.1 fC.2.2.2.2.2, q5⟩⟩
theorem pe_comp {elt target iter : Expr} {pos : Pos} {wi : TI} {g : TG} {te : TE} (B : Blk X ts caps cs sc cl) (hi : PI X target iter wi)
  (hg : ∀ s H fp, PG (blk X (ts ++ cs) sc cl s H fp) target g) (he : ∀ s H fp, PE (blk X (ts ++ cs) sc cl s H fp) elt te) (hc : X.calm = true := by rfl) (hs : ∀ x, foldedSetIterable iter X.env x = pure x := by intro _; rfl) :
  PE X (.ListComp elt [⟨target, iter, [], 0⟩] sc pos) (tComp ts.length caps wi g te) := pe_compT B hi hg (fun _ _ _ => pts_nil) he hc hs
theorem ps_setComp {elt target iter : Expr} {x : Str} {px pos spos : Pos} {wi : TI} {g : TG} {te : TE} (i : Nat) (B : Blk X ts caps cs sc cl) (hi : PI X target iter wi)
  (hg : ∀ s H fp, PG (blk X (ts ++ cs) sc cl s H fp) target g) (he : ∀ s H fp, PE (blk X (ts ++ cs) sc cl s H fp) elt te) (hx : PG X (.Name x px) (gName i))
  (hsw : swapsWith (.ListComp elt [⟨target, iter, [], 0⟩] sc pos) (some (.Name x px)) spos.line X.env = pure true) (hc : X.calm = true := by rfl) (hs : ∀ x, foldedSetIterable iter X.env x = pure x := by intro _; rfl) :
  PS X (.Assign [.Name x px] (.ListComp elt [⟨target, iter, [], 0⟩] sc pos) spos) (tAsg (tComp ts.length caps wi g te) (gName i)) := ps_setCompT i B hi hg (fun _ _ _ => pts_nil) he hx hsw hc hs
end
end My
namespace My
open PySem PySem.Spec L2
open PyProof.Rows hiding St
section
variable {X : Cx} {tg e elt it c d : Expr} {te : TE} {ta : TA} {wi : TI} {g : TG} {pos p : Pos} {ts cs : List Str} {caps : List Nat} {sc : Scope} {cl : List (Str × Addr)}
theorem q_list (hg : Gl X "list") (hm : X.mg "list" = none) (ha : QA X [c] ta) (hp : plainE c = true := by rfl) (hc : X.calm = true := by rfl) : QE X (.Call (.Name "list" p) [c] [] pos) (tCB (rList X.K) ta) := ⟨pe_callTy (call_listA hc) hg hm (by decide +kernel) ha.h (by decide) (by decide) (se_cons hp) rfl⟩
theorem q_min (hg : Gl X "min") (hm : X.mg "min" = none) (ha : QA X [c, d] ta) (hp : plainE c = true := by rfl) (hq : plainE d = true := by rfl) (hc : X.calm = true := by rfl) :
  QE X (.Call (.Name "min" p) [c, d] [] pos) (tCB (fun xs H Q => ∃ i j, xs = [.int i, .int j] ∧ Q (.int (if j < i then j else i)) H) ta) := ⟨pe_callB (call_min2 hc) hg hm (by decide +kernel) ha.h (by decide) (by decide) (se_cons hp) (by rw [se_cons hq]; rfl)⟩
theorem g_sub {o i : Expr} {to ti : TE} (ho : QE X o to) (hi : QE X i ti) (ha : ∀ v, assign (.Subscript o i pos) X.env v = (do
      let ov ← holding [v] (eval o X.env)
      let iv ← holding [v, ov] (eval i X.env)
      standAt pos
      holding [v, ov, iv] (setItem ov iv v)
      release [v, ov, iv] []) := by intro _; rfl) : QG X (.Subscript o i pos) (gSub to ti rSetL) := ⟨pg_sub ho.h hi.h set_list ha⟩
theorem blk0 (ts : List Str) (hk : sc.kind = .function := by rfl) (h : (sc.names.all fun x => x.2 != .free && x.2 != .cell && (x.2 != .local || sc.names.lookup x.1 == some .local)) = true := by decide +kernel) : Blk X ts [] [] sc [] := by
 have hh : ∀ x ∈ sc.names, x.2 ≠ .free ∧ x.2 ≠ .cell ∧ (x.2 = .local → sc.names.lookup x.1 = some .local) := fun x hx => by
  have q := List.all_eq_true.mp h x hx
  simp only [Bool.and_eq_true, bne_iff_ne, ne_eq, Bool.or_eq_true, beq_iff_eq] at q
  exact ⟨q.1.1, q.1.2, fun z => q.2.elim (fun y => absurd z y) id⟩
 have rl : relabel sc X.env = sc := by
  unfold relabel
  rw [map_eq_self fun x hx => by
   have q : (x.2 == NameKind.free) = false := by simpa using (hh x hx).1
   obtain ⟨n, k⟩ := x
   simp only at q
   simp [q]]
 refine ⟨closureFor_none fun x hx => (hh x hx).1, hk, fun x hx => (hh x hx).2.1, fun x hx => (hh x hx).2.2, fun x c e => by simp at e, fun x e => ?_, rfl, fun k i x e => by simp at e, fun x e => by simp at e⟩
 rw [rl] at e
 rcases e with e | e
 ·exact absurd rfl (hh _ (PySem.mem_of_lookup e)).2.1
 ·exact absurd rfl (hh _ (PySem.mem_of_lookup e)).1
def closL (cells : List (Str × Addr)) : List (Str × NameKind) → List (Str × Addr) → Option (List (Str × Addr))
 | [], acc => some acc
 | (n, k) :: r, acc => if k == .free then (match cells.lookup n with | some c => closL cells r ((n, c) :: acc) | none => none) else closL cells r acc
theorem closL_of {env : Env} : ∀ {ns : List (Str × NameKind)} {acc cl : List (Str × Addr)}, closL env.cells ns acc = some cl →
  (forIn ns acc fun x r => (match x with | (name, kind) => if (kind == NameKind.free) = true then do let c ← PySem.cellOf env name; pure (ForInStep.yield ((name, c) :: r)) else pure (ForInStep.yield r) : Sem (ForInStep (List (Str × Addr))))) = (pure cl : Sem _)
 | [], acc, cl, h => by cases h; rfl
 | (n, k) :: r, acc, cl, h => by
  unfold closL at h
  rw [List.forIn_cons]
  dsimp only
  split at h
  ·rename_i hk
   rw [if_pos hk]
   split at h
   ·rename_i c hc
    have e : PySem.cellOf env n = pure c := by unfold PySem.cellOf; rw [hc]
    rw [e]
    exact closL_of h
   ·cases h
  ·rename_i hk
   rw [if_neg hk]
   exact closL_of h
theorem closL_sub {cells : List (Str × Addr)} : ∀ {ns : List (Str × NameKind)} {acc cl : List (Str × Addr)}, closL cells ns acc = some cl → (∀ p ∈ acc, cells.lookup p.1 = some p.2) → ∀ p ∈ cl, cells.lookup p.1 = some p.2
 | [], acc, cl, h, ha => by cases h; exact ha
 | (n, k) :: r, acc, cl, h, ha => by
  unfold closL at h
  split at h
  ·split at h
   ·rename_i c hc
    exact closL_sub h fun p hp => by
     rcases List.mem_cons.mp hp with rfl | hp
     ·exact hc
     ·exact ha p hp
   ·cases h
  ·exact closL_sub h ha
theorem closL_has {cells : List (Str × Addr)} {x : Str} : ∀ {ns : List (Str × NameKind)} {acc cl : List (Str × Addr)}, closL cells ns acc = some cl → ((x, NameKind.free) ∈ ns ∨ ∃ c, (x, c) ∈ acc) → ∃ c, (x, c) ∈ cl
 | [], acc, cl, h, ha => by
  cases h
  rcases ha with z | z
  ·cases z
  ·exact z
 | (n, k) :: r, acc, cl, h, ha => by
  unfold closL at h
  split at h
  ·split at h
   ·rename_i c hc
    refine closL_has h ?_
    rcases ha with z | ⟨c', z⟩
    ·rcases List.mem_cons.mp z with e | z
     ·cases e; exact .inr ⟨c, List.mem_cons_self⟩
     ·exact .inl z
    ·exact .inr ⟨c', List.mem_cons_of_mem _ z⟩
   ·cases h
  ·rename_i hk
   refine closL_has h ?_
   rcases ha with z | z
   ·rcases List.mem_cons.mp z with e | z
    ·cases e; exact absurd rfl hk
    ·exact .inl z
   ·exact .inr z
theorem lookup_of_mem {x : Str} {c : Addr} : ∀ {l : List (Str × Addr)}, (x, c) ∈ l → ∃ c', l.lookup x = some c'
 | [], h => by cases h
 | (n, d) :: r, h => by
  rw [List.lookup_cons]
  cases e : x == n with
  | true => exact ⟨d, rfl⟩
  | false =>
   rcases List.mem_cons.mp h with z | z
   ·cases z; simp at e
   ·exact lookup_of_mem z
theorem relabel_cases {env : Env} {x : Str} {k : NameKind} (h : (relabel sc env).names.lookup x = some k) : (x, k) ∈ sc.names ∨ (k = .cell ∧ (x, NameKind.free) ∈ sc.names) := by
 have m := PySem.mem_of_lookup h
 unfold relabel at m
 obtain ⟨⟨n, k'⟩, hm, e⟩ := List.mem_map.mp m
 dsimp only at e
 split at e
 ·rename_i hc
  cases e
  simp only [Bool.and_eq_true, beq_iff_eq] at hc
  rw [hc.1.1] at hm
  exact .inr ⟨rfl, hm⟩
 ·cases e
  exact .inl hm
theorem relabel_free {env : Env} {x : Str} : ∀ {ns : List (Str × NameKind)}, ns.lookup x = some NameKind.free →
  (ns.map fun (n, k) => if (k == NameKind.free && env.scope.kind == .function && env.kindOf n == some .cell) then (n, NameKind.cell) else (n, k)).lookup x = some .cell ∨
  (ns.map fun (n, k) => if (k == NameKind.free && env.scope.kind == .function && env.kindOf n == some .cell) then (n, NameKind.cell) else (n, k)).lookup x = some .free
 | [], h => by cases h
 | (n, k) :: r, h => by
  rw [List.lookup_cons] at h
  rw [List.map_cons]
  dsimp only
  cases e : x == n with
  | true =>
   rw [e] at h
   cases h
   split <;> simp [List.lookup_cons, e]
  | false =>
   rw [e] at h
   split
   ·simp only [List.lookup_cons, e]; exact relabel_free h
   ·simp only [List.lookup_cons, e]; exact relabel_free h
theorem blkC (ts : List Str) (caps : List Nat) (cs : List Str) (hcl : closL X.env.cells sc.names [] = some cl := by rfl) (hcap : caps.map (fun i => X.N[i]?) = cs.map some := by rfl) (hck : (cs.all fun x => X.env.kindOf x == some .cell || X.env.kindOf x == some .free) = true := by rfl)
  (hcf : cs.map (fun x => sc.names.lookup x) = cs.map (fun _ => some NameKind.free) := by rfl) (hk : sc.kind = .function := by rfl) (h : (sc.names.all fun x => x.2 != .cell && (x.2 != .local || sc.names.lookup x.1 == some .local)) = true := by decide +kernel) : Blk X ts caps cs sc cl := by
 have hh : ∀ x ∈ sc.names, x.2 ≠ .cell ∧ (x.2 = .local → sc.names.lookup x.1 = some .local) := fun x hx => by
  have q := List.all_eq_true.mp h x hx
  simp only [Bool.and_eq_true, bne_iff_ne, ne_eq, Bool.or_eq_true, beq_iff_eq] at q
  exact ⟨q.1, fun z => q.2.elim (fun y => absurd z y) id⟩
 have len : caps.length = cs.length := by have := congrArg List.length hcap; simpa using this
 refine ⟨?_, hk, fun x hx => (hh x hx).1, fun x hx => (hh x hx).2, fun x c e => ?_, fun x e => ?_, len, fun k i x e1 e2 => ?_, fun x hx => ?_⟩
 ·simp only [closureFor]
  rw [closL_of hcl]
  rfl
 ·exact closL_sub hcl (fun p hp => by cases hp) _ (PySem.mem_of_lookup e)
 ·have m : (x, NameKind.free) ∈ sc.names := by
   rcases e with e | e
   ·rcases relabel_cases e with z | ⟨_, z⟩
    ·exact absurd rfl (hh _ z).1
    ·exact z
   ·rcases relabel_cases e with z | ⟨z, _⟩
    ·exact z
    ·cases z
  obtain ⟨c, hc⟩ := closL_has hcl (.inl m)
  exact lookup_of_mem hc
 ·have h1 := congrArg (·[k]?) hcap
  simp only [List.getElem?_map, e1, e2, Option.map_some, Option.some.injEq] at h1
  have h2 := List.all_eq_true.mp hck x (List.mem_of_getElem? e2)
  simp only [Bool.or_eq_true, beq_iff_eq] at h2
  exact ⟨h1, h2⟩
 ·obtain ⟨k, hk'⟩ := List.getElem?_of_mem hx
  have h1 := congrArg (·[k]?) hcf
  simp only [List.getElem?_map, hk', Option.map_some, Option.some.injEq] at h1
  exact relabel_free h1
structure QTs (X : Cx) (ifs : List Expr) (t : TT) : Prop where
 h : PTs X ifs t
theorem ts_one {tt : TT} (h : QT X c tt) : QTs X [c] tt := ⟨pts_one h.h⟩
theorem q_compT {ifs : List Expr} {tt : TT} (B : Blk X ts caps cs sc cl) (hi : QI X tg it wi) (hg : ∀ s H fp, QG (blk X (ts ++ cs) sc cl s H fp) tg g) (ht : ∀ s H fp, QTs (blk X (ts ++ cs) sc cl s H fp) ifs tt) (he : ∀ s H fp, QE (blk X (ts ++ cs) sc cl s H fp) elt te) (hc : X.calm = true := by rfl) (hs : ∀ x, foldedSetIterable it X.env x = pure x := by intro _; rfl) :
  QE X (.ListComp elt [⟨tg, it, ifs, 0⟩] sc pos) (tCompT ts.length caps wi g tt te) := ⟨pe_compT B hi.h (fun s H fp => (hg s H fp).h) (fun s H fp => (ht s H fp).h) (fun s H fp => (he s H fp).h) hc hs⟩
theorem q_comp (B : Blk X ts caps cs sc cl) (hi : QI X tg it wi) (hg : ∀ s H fp, QG (blk X (ts ++ cs) sc cl s H fp) tg g) (he : ∀ s H fp, QE (blk X (ts ++ cs) sc cl s H fp) elt te) (hc : X.calm = true := by rfl) (hs : ∀ x, foldedSetIterable it X.env x = pure x := by intro _; rfl) :
  QE X (.ListComp elt [⟨tg, it, [], 0⟩] sc pos) (tComp ts.length caps wi g te) := ⟨pe_comp B hi.h (fun s H fp => (hg s H fp).h) (fun s H fp => (he s H fp).h) hc hs⟩
theorem s_setComp {x : Str} {px spos : Pos} (i : Nat) (B : Blk X ts caps cs sc cl) (hi : QI X tg it wi) (hg : ∀ s H fp, QG (blk X (ts ++ cs) sc cl s H fp) tg g) (he : ∀ s H fp, QE (blk X (ts ++ cs) sc cl s H fp) elt te) (hx : QG X (.Name x px) (gName i))
  (hsw : swapsWith (.ListComp elt [⟨tg, it, [], 0⟩] sc pos) (some (.Name x px)) spos.line X.env = pure true := by rfl) (hc : X.calm = true := by rfl) (hs : ∀ x, foldedSetIterable it X.env x = pure x := by intro _; rfl) :
  QS X (.Assign [.Name x px] (.ListComp elt [⟨tg, it, [], 0⟩] sc pos) spos) (tAsg (tComp ts.length caps wi g te) (gName i)) := ⟨ps_setComp i B hi.h (fun s H fp => (hg s H fp).h) (fun s H fp => (he s H fp).h) hx.h hsw hc hs⟩
end
section
variable {X : Cx} {a b c e : Expr} {ta tb tc te : TE} {pos : Pos} {st : Stmt}
theorem q_leLt (ha : QE X a ta) (hb : QE X b tb) (hc : QE X c tc) (hm : lastMarks [CmpOp.LtE, CmpOp.Lt] [b, c] = false := by with_unfolding_all rfl) : QE X (.Compare a [.LtE, .Lt] [b, c] pos) (tChain (rI0 fun i j => .bl (decide (i ≤ j))) (rI0 fun i j => .bl (decide (i < j))) ta tb tc) := ⟨pe_chain op_le op_lt ha.h hb.h hc.h hm⟩
theorem t_inL (ha : QE X a ta) (hb : QE X b tb) (hm : behindInMarks .In b = false := by with_unfolding_all rfl) : QT X (.Compare a [.In] [b] pos) (tTest (tOp (rIn X.K false) ta tb)) := ⟨pt_cmpR op_in_seq ha.h hb.h hm⟩
theorem q_gint {x : Str} {i : Int} {tk : Tok} (hg : Gl X x) (hm : X.mg x = some (.int i tk)) (hd : (x == ("__debug__" : Str)) = false := by decide) : QE X (.Name x pos) (tC (.int i)) := ⟨pe_glob hg hm ⟨_, rfl⟩ hd⟩
end
theorem blk_rngT {lo : Int} {n nt : Nat} {cp : St} {g : TG} {tt : TT} {te : TE} {H1 : Hp} {Q : VK} (Pv : Addr → Nat → List V → Hp → Prop) (h0 : ∀ acc H2, H1 acc = none → Same H1 H2 → H2 acc = some (.lst []) → Pv acc 0 [] H2)
  (hl : ∀ acc i ys H, Pv acc i ys H → H acc = some (.lst ys) ∧ ys.length < 1000000)
  (hs : ∀ acc i ys H os, H1 acc = none → i < n → Pv acc i ys H → os.length = nt → g (.int (lo + (i : Nat))) (os ++ cp) H fun τ H3 => ∃ os', os'.length = nt ∧ τ = os' ++ cp ∧ tt τ H3 fun b H4 => if b = true then te τ H4 fun v H5 => H5 acc = some (.lst ys) ∧ Pv acc (i + 1) (ys ++ [v]) (upd H5 acc (.lst (ys ++ [v]))) else Pv acc (i + 1) ys H4)
  (hd : ∀ acc ys H, H1 acc = none → Pv acc n ys H → Q (.ref acc) H) : tBlkT nt cp (Itr lo n) g tt te H1 Q := by
 intro acc H2 hn sm e
 refine ⟨fun i m ys H => m = n - i ∧ i ≤ n ∧ Pv acc i ys H, ⟨n, by simp, Nat.zero_le _, h0 acc H2 hn sm e⟩, ?_⟩
 rintro i m ys H ⟨rfl, hi, p⟩
 obtain ⟨q1, q2⟩ := hl acc i ys H p
 refine ⟨q1, ?_⟩
 by_cases hlt : i < n
 ·refine .inr ⟨hlt, q2, Pv acc (i + 1), fun ys' H' p' => ⟨n - (i + 1), by omega, rfl, hlt, p'⟩, fun os x H' ol y => ?_⟩
  obtain ⟨rfl, rfl⟩ := y
  exact hs acc i ys _ os hn hlt p ol
 ·have e : i = n := by omega
  subst e
  exact .inl ⟨Nat.le_refl _, hd _ _ _ hn p⟩
theorem blk_rng {lo : Int} {n nt : Nat} {cp : St} {g : TG} {te : TE} {H1 : Hp} {Q : VK} (Pv : Addr → Nat → List V → Hp → Prop) (h0 : ∀ acc H2, H1 acc = none → Same H1 H2 → H2 acc = some (.lst []) → Pv acc 0 [] H2)
  (hl : ∀ acc i ys H, Pv acc i ys H → H acc = some (.lst ys) ∧ ys.length < 1000000)
  (hs : ∀ acc i ys H os, H1 acc = none → i < n → Pv acc i ys H → os.length = nt → g (.int (lo + (i : Nat))) (os ++ cp) H fun τ H3 => ∃ os', os'.length = nt ∧ τ = os' ++ cp ∧ te τ H3 fun v H4 => H4 acc = some (.lst ys) ∧ Pv acc (i + 1) (ys ++ [v]) (upd H4 acc (.lst (ys ++ [v]))))
  (hd : ∀ acc ys H, H1 acc = none → Pv acc n ys H → Q (.ref acc) H) : tBlk nt cp (Itr lo n) g te H1 Q := by
 refine blk_rngT (tt := tYes) Pv h0 hl (fun acc i ys H os a b c d => ?_) hd
 have h := hs acc i ys H os a b c d
 have e : (fun τ H3 => ∃ os', os'.length = nt ∧ τ = os' ++ cp ∧ tYes τ H3 fun b H4 => if b = true then te τ H4 fun v H5 => H5 acc = some (.lst ys) ∧ Pv acc (i + 1) (ys ++ [v]) (upd H5 acc (.lst (ys ++ [v]))) else Pv acc (i + 1) ys H4) =
   (fun τ H3 => ∃ os', os'.length = nt ∧ τ = os' ++ cp ∧ te τ H3 fun v H4 => H4 acc = some (.lst ys) ∧ Pv acc (i + 1) (ys ++ [v]) (upd H4 acc (.lst (ys ++ [v])))) := by
  funext τ H3
  simp only [tYes, if_true]
 rw [e]
 exact h
def rngK (lo : Int) (n : Nat) (g : TG) (tb : TS) (D : Ends) (σ : St) : Hp → Prop := fun H1 => ∃ W : Nat → Nat → St → Hp → Prop, (∃ m, W 0 m σ H1) ∧ ∀ i m σ H, W i m σ H →
 ((Itr lo n).stop i H ∧ D.nx σ H) ∨ ((Itr lo n).go i H ∧ ∃ N : St → Hp → Prop, (∀ σ' H', N σ' H' → ∃ m', m' < m ∧ W (i + 1) m' σ' H') ∧ ∀ x H', (Itr lo n).yld i H x H' → g x σ H' fun σ2 H2 => tb { D with nx := N, ct := N, bk := D.nx } σ2 H2)
theorem tFor_rng1 {ta : TA} {g : TG} {tb : TS} {D : Ends} {σ : St} {H : Hp} : tFor (iRng1 ta) g tb D σ H = ta σ H fun vs H1 => ∃ j : Int, vs = [.int j] ∧ -(2 ^ 62) ≤ j ∧ j < 2 ^ 62 ∧ rngK 0 j.toNat g tb D σ H1 := rfl
theorem tFor_rng2 {ta : TA} {g : TG} {tb : TS} {D : Ends} {σ : St} {H : Hp} : tFor (iRng2 ta) g tb D σ H = ta σ H fun vs H1 => ∃ i j : Int, vs = [.int i, .int j] ∧ (-(2 ^ 62) ≤ i ∧ i < 2 ^ 62 ∧ -(2 ^ 62) ≤ j ∧ j < 2 ^ 62) ∧ rngK i (j - i).toNat g tb D σ H1 := rfl
theorem rngK_of {lo : Int} {n : Nat} {g : TG} {tb : TS} {D : Ends} {σ : St} {H : Hp} (Pv : Nat → St → Hp → Prop) (h0 : Pv 0 σ H) (hs : ∀ i σ H, i < n → Pv i σ H → g (.int (lo + (i : Nat))) σ H fun σ2 H2 => tb { D with nx := Pv (i + 1), ct := Pv (i + 1), bk := D.nx } σ2 H2)
  (hd : ∀ σ H, Pv n σ H → D.nx σ H) : rngK lo n g tb D σ H := by
 refine ⟨fun i m σ H => m = n - i ∧ i ≤ n ∧ Pv i σ H, ⟨n, by simp, Nat.zero_le _, h0⟩, ?_⟩
 rintro i m σ H ⟨rfl, hi, p⟩
 by_cases hlt : i < n
 ·refine .inr ⟨hlt, Pv (i + 1), fun σ' H' p' => ⟨n - (i + 1), by omega, rfl, hlt, p'⟩, fun x H' y => ?_⟩
  obtain ⟨rfl, rfl⟩ := y
  exact hs i σ _ hlt p
 ·have e : i = n := by omega
  subst e
  exact .inl ⟨Nat.le_refl _, hd _ _ p⟩
def listK (K : PySem.W.Frag) (g : TG) (tb : TS) (D : Ends) (σ : St) : V → Hp → Prop := fun x H1 => ∃ a, x = .ref a ∧ (∃ xs, SqL K H1 a xs) ∧ ∃ W : Nat → Nat → St → Hp → Prop, (∃ m, W 0 m σ H1) ∧ ∀ i m σ H, W i m σ H →
 ((Itl K a).stop i H ∧ D.nx σ H) ∨ ((Itl K a).go i H ∧ ∃ N : St → Hp → Prop, (∀ σ' H', N σ' H' → ∃ m', m' < m ∧ W (i + 1) m' σ' H') ∧ ∀ x H', (Itl K a).yld i H x H' → g x σ H' fun σ2 H2 => tb { D with nx := N, ct := N, bk := D.nx } σ2 H2)
theorem tFor_list {K : PySem.W.Frag} {te : TE} {g : TG} {tb : TS} {D : Ends} {σ : St} {H : Hp} : tFor (iList K te) g tb D σ H = te σ H (listK K g tb D σ) := rfl
theorem listK_of {K : PySem.W.Frag} {a : Addr} {xs : List V} {g : TG} {tb : TS} {D : Ends} {σ : St} {H : Hp} (Pv : Nat → St → Hp → Prop) (h0 : Pv 0 σ H) (hl : ∀ i σ H, i ≤ xs.length → Pv i σ H → SqL K H a xs)
  (hs : ∀ i x σ H, xs[i]? = some x → Pv i σ H → g x σ H fun σ2 H2 => tb { D with nx := Pv (i + 1), ct := Pv (i + 1), bk := D.nx } σ2 H2) (hd : ∀ σ H, Pv xs.length σ H → D.nx σ H) : listK K g tb D σ (.ref a) H :=
 ⟨a, rfl, ⟨xs, hl 0 σ H (Nat.zero_le _) h0⟩, for_list Pv h0 hl hs hd⟩
end My
namespace My
open PySem PySem.Spec L2
open PyProof.Rows hiding St
structure Mth (P : Program) (w : World) (K : PySem.W.Frag) (mg : Str → Option Value) (base : Heap) (CX : CXT) (k : Nat) (C : Addr) (m : Str) (ps : List Str) (sp : Sp) : Prop where
 ex : ∃ (f : Addr) (fd : FuncData), FnOk P w K mg base CX k f fd ps sp ∧ Binds K fd ps [] ∧ Meth K C m f ∧ Cls K C
structure Mkr (P : Program) (w : World) (K : PySem.W.Frag) (mg : Str → Option Value) (base : Heap) (CX : CXT) (k : Nat) (C : Addr) (x : Str) (ps : List Str) (sp : Sp) : Prop where
 ex : ∃ (f : Addr) (fd : FuncData), FnOk P w K mg base CX k f fd ps sp ∧ Binds K fd ps [] ∧ Mk K C f ∧ mg x = some (.ref C)
section
variable {X : Cx} {CX : CXT} {j k : Nat} {C : Addr} {x m fl : Str} {ps : List Str} {sp : Sp} {p pos apos : Pos} {e o value : Expr} {es : List Expr} {t : TA} {ta tv : TE} {E : XK}
theorem q_meth {pl : Sem Bool} (F : Mth X.prog X.w X.K X.mg X.base CX0 j C m ps sp) (hr : Room k X.A) (hj : j ≤ k) (ho : QE X o ta) (ha : QA X (e :: es) t) (hp : (e :: es).all plainE = true := by rfl)
  (ht : eval (.Call (.Attribute o m apos) (e :: es) [] pos) X.env = (do
   let ov ← eval o X.env
   standAt apos.atName
   let (f, first) ← holding [ov] (getMethod ov m pl)
   callWith pos f first (backTo pos (starEach (e :: es) X.env)) (backToKw pos (keywordEach [] X.env))) := by rfl) :
  QE X (.Call (.Attribute o m apos) (e :: es) [] pos) (tMeth C m sp [] E0 ta t) := by
 obtain ⟨f, fd, G, b, hm, c⟩ := F.ex
 exact ⟨pe_meth ho.h c hm G (hr.mono hj) b .nil pass0 ha.h (se_cons (hd_plain hp).1) (se_any (hd_plain hp).2) ht⟩
theorem q_meth0 {pl : Sem Bool} (F : Mth X.prog X.w X.K X.mg X.base CX0 j C m ps sp) (hr : Room k X.A) (hj : j ≤ k) (ho : QE X o ta)
  (ht : eval (.Call (.Attribute o m apos) [] [] pos) X.env = (do
   let ov ← eval o X.env
   standAt apos.atName
   let (f, first) ← holding [ov] (getMethod ov m pl)
   callWith pos f first (backTo pos (starEach [] X.env)) (backToKw pos (keywordEach [] X.env))) := by rfl) :
  QE X (.Call (.Attribute o m apos) [] [] pos) (tMeth C m sp [] E0 ta tNil) := by
 obtain ⟨f, fd, G, b, hm, c⟩ := F.ex
 exact ⟨pe_meth0 ho.h c hm G (hr.mono hj) b .nil pass0 ht⟩
theorem q_methX {pl : Sem Bool} (g : Goes X E) (F : Mth X.prog X.w X.K X.mg X.base (CX1 X.prog X.w) j C m ps sp) (hr : Room k X.A) (hj : j ≤ k) (ho : QE X o ta) (ha : QA X (e :: es) t) (hp : (e :: es).all plainE = true := by rfl)
  (ht : eval (.Call (.Attribute o m apos) (e :: es) [] pos) X.env = (do
   let ov ← eval o X.env
   standAt apos.atName
   let (f, first) ← holding [ov] (getMethod ov m pl)
   callWith pos f first (backTo pos (starEach (e :: es) X.env)) (backToKw pos (keywordEach [] X.env))) := by rfl) :
  QE X (.Call (.Attribute o m apos) (e :: es) [] pos) (tMeth C m sp [] E ta t) := by
 obtain ⟨f, fd, G, b, hm, c⟩ := F.ex
 exact ⟨pe_meth ho.h c hm G (hr.mono hj) b .nil g.pass ha.h (se_cons (hd_plain hp).1) (se_any (hd_plain hp).2) ht⟩
theorem q_make (F : Mkr X.prog X.w X.K X.mg X.base CX0 j C x ps sp) (hr : Room (k + 1) X.A) (hj : j ≤ k) (hg : Gl X x) (ha : QA X (e :: es) t) (hp : (e :: es).all plainE = true := by rfl) (hdb : (x == ("__debug__" : Str)) = false := by decide) :
  QE X (.Call (.Name x p) (e :: es) [] pos) (tMake C sp [] E0 t) := by
 obtain ⟨f, fd, G, b, M, hm⟩ := F.ex
 exact ⟨pe_make M (G.mono hj) hr hg hm b .nil pass0 ha.h hdb (se_cons (hd_plain hp).1) (se_any (hd_plain hp).2)⟩
theorem q_fld (ho : QE X e ta) (hb : attributeBase e fl X.env (eval e X.env) = eval e X.env := by rfl) : QE X (.Attribute e fl pos) (tFld X.K ta fl) := ⟨pe_fld ho.h hb⟩
theorem s_fld {pos' : Pos} (ho : QE X o ta) (hv : QE X value tv) (hs : swapsWith value (some (.Attribute o fl pos')) pos.line X.env = pure false := by rfl) : QS X (.Assign [.Attribute o fl pos'] value pos) (sFld X.K ta tv fl) := ⟨ps_fld ho.h hv.h hs⟩
def tMethX (C : Addr) (m : Str) (sp : Sp) (ta : TE) (t : TA) : TEX := fun σ H Q EX => ta σ H fun x H1 => ∃ a dx fs, x = .ref a ∧ H1 a = some (.ins C dx fs) ∧ fs.lookup m = none ∧ t σ H1 fun vs H2 => sp (x :: vs) H2 Q EX
end
end My
namespace My
open PySem PySem.Spec L2
open PyProof.Rows hiding St
theorem noteFrame_frame {e : Value} {env env' : Env} (h : env'.frame = env.frame) : noteFrame e env' = noteFrame e env := by
 unfold noteFrame PySem.frameOf
 rw [h]
def FlyAny (B : Heap) (l : List Env) (e : Addr) (cls a0 : Value) (h : Heap) : Prop := B.StaysIn h ∧ B.get? e = none ∧ h.FunFrames B l ∧ ∃ fl, h.TracedAtW B e cls a0 fl
section
variable {M : Model} {A : Around} {E : Value → Shared → Prop} {s : Shared} {B : Heap} {env : Env} {outer : List Env} {L e : Addr} {cls a0 : Value}
theorem note_any {Q : Unit → Shared → Prop} (hfr : A.frames = some (env :: outer)) (hf : env.frame = some L) (x : FlyAny B (env :: outer) e cls a0 s.heap)
  (h : ∀ h', Heap.HeldW B (env :: outer) e cls a0 L h' → s.heap.UpToSlots h' → Q () { s with heap := h' }) : wpAny M A (noteFrame (.ref e) env) Q E s := by
 obtain ⟨hkb, hen, hl, fl, ht⟩ := x
 by_cases hfl : fl = rawInt L
 ·subst hfl
  exact wpAny_noteFrame_againW hf ht (h s.heap ⟨hkb, hen, hl, ht⟩ (.refl _))
 ·obtain ⟨oe, vs, T, oT, ts, he, ⟨hcls, h0⟩, hd, h1, hnT, hTe, hT, hdT, h3⟩ := ht
  subst hcls
  unfold noteFrame
  simp only [hf]
  refine wpAny_bind (wpAny_field he hd h1 ?_)
  rw [if_pos (show (Value.ref T != Value.none) = true from by simp)]
  refine wpAny_bind (wpAny_field hT hdT h3 ?_)
  rw [if_neg (show ¬ ((fl == rawInt L) = true) from by simpa using hfl)]
  refine wpAny_bind (wpAny_setField hT hdT (Array.getElem?_eq_some_iff.mp h3).1 ?_)
  have other : ∀ b, b ≠ T → (s.heap.update T (Obj.mapFields (·.setIfInBounds 3 Value.none))).get? b = s.heap.get? b := fun b hb => Heap.get?_update_other _ _ (Ne.symm hb)
  have noRecord : ∀ b o, s.heap.get? b = some o → (∀ vs, o.data ≠ .fields vs) → b ≠ T := fun b o hb hnf q => by
   rw [q, hT] at hb; injection hb with hb; subst hb; exact hnf ts hdT
  refine wpAny_entryW hfr (hl.of_keeps fun b o hb hnf => ⟨o, (other b (noRecord b o hb hnf)).trans hb, rfl⟩) hf ((other e (Ne.symm hTe)).trans he)
   (fun b o hbo => (other b fun q => by rw [q, hnT] at hbo; cases hbo).trans (hkb b o hbo)) hen hd (Array.getElem?_eq_some_iff.mp h1).1 h0
   fun h' ⟨x1, x2, x3, x4⟩ => h h' ⟨x1, hen, x2, x3⟩ fun b o hb hnf => x4 b o ((other b (noRecord b o hb hnf)).trans hb) hnf
theorem passOn_any {what : String} {cenv : Env} {l : List Env} {Q : Value → Shared → Prop} (x : FlyAny B l e cls a0 s.heap) (h : ∀ h', FlyAny B l e cls a0 h' → s.heap.UpToSlots h' → E (.ref e) { s with heap := h' }) :
  wpAny M A (PySem.passOn what (.ref e) cenv : Sem Value) Q E s := by
 obtain ⟨hkb, hen, hl, fl, oe, vs, T, oT, ts, he, hcls, hd, h1, hnT, hTe, hT, hdT, h3⟩ := x
 have hsz3 : 3 < ts.size := (Array.getElem?_eq_some_iff.mp h3).1
 have key : ∀ fr : Option Addr, wpAny M A (setFlight (.ref e) fr) (fun _ s' => E (.ref e) s') E s := fun fr => by
  have other : ∀ b, b ≠ T → (s.heap.update T (Obj.mapFields (·.setIfInBounds 3 (fr.elim Value.none fun f => rawInt f)))).get? b = s.heap.get? b := fun b hb => Heap.get?_update_other _ _ (Ne.symm hb)
  have noRecord : ∀ b o, s.heap.get? b = some o → (∀ vs, o.data ≠ .fields vs) → b ≠ T := fun b o hb hnf q => by
   rw [q, hT] at hb; injection hb with hb; subst hb; exact hnf ts hdT
  unfold setFlight
  refine wpAny_bind (wpAny_field he hd h1 ?_)
  rw [if_pos (show (Value.ref T != Value.none) = true from by simp)]
  refine wpAny_setField hT hdT hsz3 (h _ ⟨fun b o hbo => (other b fun q => by rw [q, hnT] at hbo; cases hbo).trans (hkb b o hbo), hen,
   hl.of_keeps fun b o hb hnf => ⟨o, (other b (noRecord b o hb hnf)).trans hb, rfl⟩, fr.elim Value.none (fun f => rawInt f), ?_⟩ fun b o hb hnf => ⟨o.slots, (other b (noRecord b o hb hnf)).trans hb⟩)
  exact ⟨oe, vs, T, _, _, (other e (Ne.symm hTe)).trans he, hcls, hd, h1, hnT, hTe, Heap.get?_update_self _ hT (Obj.isFreed_of_fields (Obj.data_mapFields hdT _)), Obj.data_mapFields hdT _, by simp [hsz3]⟩
 unfold PySem.passOn
 refine wpAny_bind (wpAny_field he hd h1 ?_)
 rw [if_neg (show ¬ ((Value.ref T == Value.none) = true) from by simp)]
 first
  | exact wpAny_bind (wpAny_pure (wpAny_bind (wpAny_mono (key _) (fun _ _ q => wpAny_throw q) fun _ _ q => q)))
  | exact wpAny_bind (wpAny_mono (key _) (fun _ _ q => wpAny_throw q) fun _ _ q => q)
theorem FlyAny.but {l : List Env} {h h' : Heap} {C : Addr} {m : Str → Option Value} (x : FlyAny B l e cls a0 h) (hn : h.Ns C m) (sb : Heap.SameBut C h h') (hB : B.get? C = none) (hl : C ∉ l.filterMap (·.frame)) : FlyAny B l e cls a0 h' := by
 obtain ⟨hkb, hen, hfr, fl, oe, vs, T, oT, ts, he, hcls, hd, h1, hnT, hTe, hT, hdT, h3⟩ := x
 obtain ⟨oC, es, ep, hC, hdC, _⟩ := hn
 have e2 : ∀ b, b ≠ C → h'.get? b = h.get? b := sb.2
 have ne : ∀ b ob ws, h.get? b = some ob → ob.data = .fields ws → b ≠ C := fun b ob ws g1 g2 z => by
  rw [z, hC] at g1
  cases g1
  rw [hdC] at g2
  cases g2
 have frm : ∀ {l : List Env}, h.FunFrames B l → C ∉ l.filterMap (·.frame) → h'.FunFrames B l := by
  intro l
  induction l with
  | nil => exact fun _ _ => trivial
  | cons env rest ih =>
   rintro ⟨hk, ⟨L, o, hf, hn, ho, hd⟩, hr⟩ hc
   rw [List.filterMap_cons, hf] at hc
   have hc' : C ≠ L ∧ C ∉ rest.filterMap (·.frame) := by simpa using hc
   exact ⟨hk, ⟨L, o, hf, hn, (e2 L (Ne.symm hc'.1)).trans ho, hd⟩, ih hr hc'.2⟩
 refine ⟨fun b o q => (e2 b fun z => by rw [z, hB] at q; cases q).trans (hkb b o q), hen, frm hfr hl, fl, oe, vs, T, oT, ts, (e2 e (ne e oe vs he hd)).trans he, hcls, hd, h1, hnT, hTe, (e2 T (ne T oT ts hT hdT)).trans hT, hdT, h3⟩
end
section
variable {X : Cx} {E : XK} {pins : List (Addr × Obj)} {σ : St} {H : Hp} {s : Shared}
theorem Goes.passAny (b : Goes X E) (I : Inv X pins σ H s) {B : Heap} {ea C : Addr} {a0 : Value} (x : FlyAny B X.stack ea (.ref C) a0 s.heap) (cv : Cv X pins B H) (q : E (.ref C) none H) : X.xe (.ref ea) s := by
 refine b.xe _ _ ?_
 have hfr : X.A.frames = some (X.env :: X.outer) := by rw [I.ok.frames, b.st]
 rw [b.st] at x
 have k0 := x.1
 unfold leaving
 refine wpAny_bind (note_any hfr b.fr x fun h1 held u1 => wpAny_landsW held fun h2 fl u2 => ?_)
 have I' := fly (t' := s.toks) I b.st b.fr cv k0 fl.1 (u1.trans u2)
 obtain ⟨k1, k2, ⟨_, _, k3⟩, k4⟩ := fl
 refine ⟨ea, C, a0, B, H, rfl, I'.os, I'.bare, ?_, I'.hok, ⟨k1, k2, k3, k4⟩, fun a o z n => cv.old a o z fun m => ?_, cv.trk, q⟩
 ·have z := I'.base
  rw [b.ex] at z
  exact z
 ·rcases List.mem_cons.mp (I.stkSub a m) with w | w
  ·exact absurd (Nat.lt_of_lt_of_le (Heap.lt_size z) (w ▸ I.ok.above)) (Nat.lt_irrefl _)
  ·exact n w
def BE (X : Cx) (E : XK) (N : List Str) (sc : Scope) (cl : List (Str × Addr)) (s : Shared) (H : Hp) (fp : List Addr) : Value → Shared → Prop := fun e s' => ∃ (ea C : Addr) (a0 : Value) (B : Heap) (τ : St) (H' : Hp), e = .ref ea ∧ Inv (blk X N sc cl s H fp) [] τ H' s' ∧
 Heap.FlyingW B X.stack ea (.ref C) a0 s'.heap ∧ (∀ b o, s.heap.get? b = some o → b ∉ frs X.stack → b ∉ fp → ∃ o', B.get? b = some o') ∧ (∀ b o, H' b = some o → ∃ o', B.get? b = some o') ∧ E (.ref C) none H'
abbrev blkE (X : Cx) (E : XK) (N : List Str) (sc : Scope) (cl : List (Str × Addr)) (s : Shared) (H : Hp) (fp : List Addr) : Cx := (blk X N sc cl s H fp).wish (BE X E N sc cl s H fp)
theorem blk_pass {N : List Str} {sc : Scope} {cl : List (Str × Addr)} {fp : List Addr} : Passes (CX1 X.prog X.w) (blkE X E N sc cl s H fp) E := by
 intro pins τ H1 s1 e s' I h
 obtain ⟨ea, C, a0, B, H', rfl, ho, hg, un, hok, fl, cov, trk, q⟩ := h
 have I0 : Inv (blk X N sc cl s H fp) pins τ H1 s1 := I.unwish
 have I1 : Inv (blk X N sc cl s H fp) pins τ H' s' := I0.call' (ch := []) ho un hok hg fun _ z => nomatch z
 refine ⟨ea, C, a0, B, τ, H', rfl, I1.pins_of (fun p hp => by cases hp), fl, fun b o e n nf => ?_, trk, q⟩
 obtain ⟨o', e'⟩ := I0.base.there b o e nf
 exact cov b o' e' n
variable {ts cs : List Str} {caps : List Nat} {sc : Scope} {cl : List (Str × Addr)} {fp : List Addr}
def BlkErr (X : Cx) (E : XK) (pins : List (Addr × Obj)) (σ : St) (C : Addr) (e : Value) (s' : Shared) : Prop := ∃ (ea Cc : Addr) (a0 : Value) (B : Heap) (H' : Hp), e = .ref ea ∧ Inv X pins σ H' s' ∧ FpOk X pins H' C ∧ (∃ m, s'.heap.Ns C m) ∧
 FlyAny B X.stack ea (.ref Cc) a0 s'.heap ∧ Cv X pins B H' ∧ B.get? C = none ∧ E (.ref Cc) none H'
def BlkPostE (X : Cx) (E : XK) (pins : List (Addr × Obj)) (σ : St) (Q : VK) (acc : Value) (C : Addr) (r : Result) (s' : Shared) : Prop := BlkPost X pins σ Q acc C r s' ∨ ∃ e, r = .error e ∧ BlkErr X E pins σ C e s'
theorem blk_runX {elt target iter : Expr} {ifs : List Expr} {pos : Pos} {g : TG} {tt : TT} {te : TE} {it : Addr} {tn : Nat → Heap → Prop} {J : It} {Q : VK} {E' : Value → Shared → Prop} (b : Body X) (B : Blk X ts caps cs sc cl) (hc : X.calm = true)
  (hg : ∀ s H fp, PG (blkE X E (ts ++ cs) sc cl s H fp) target g) (ht : ∀ s H fp, PTs (blkE X E (ts ++ cs) sc cl s H fp) ifs tt) (he : ∀ s H fp, PE (blkE X E (ts ++ cs) sc cl s H fp) elt te)
  (I2 : Inv X pins σ H s) (T : Turn X.prog X.w X.K target J fp it tn) (st2 : tn 0 s.heap) (f2 : ∀ b ∈ fp, FpOk X pins H b) (h : tBlkT ts.length (capOf σ caps) J g tt te H Q) :
  wpAny (model X.prog X.w) X.A (newList []) (fun acc s₃ => wpAny (model X.prog X.w) X.A (newFunctionEnv sc X.env.globals cl [] X.env.qual none .none (some X.env)) (fun cenv s₄ =>
   codeAny (model X.prog X.w) X.A (.compStart (.ListComp elt [⟨target, iter, ifs, 0⟩] sc pos) 0 (.ref it) acc { cenv with scope := relabel sc X.env }) (BlkPostE X E pins σ Q acc cenv.locals) s₄) E' s₃) E' s := by
 refine wpAny_newObj_type (wpAny_newFunctionEnv B.cell (by intro y hy; simp at hy) (fun h₁ hns₁ hsb₁ => ?_) B.kind)
 dsimp only at hns₁ hsb₁ ⊢
 have hnew : H s.heap.objs.size = none := I2.hok.fresh (Nat.le_refl _)
 have I3 : Inv X pins σ (upd H s.heap.objs.size (.lst [])) { s with heap := s.heap.push { cls := .type "list", dict := none, data := .seq ([] : List Value).toArray } } :=
  I2.laid (t' := s.toks) (fun b u e => Heap.get?_push_of_some _ e) (Nat.le_refl _) ⟨Nat.zero_le _, [], 0, .nil, Heap.get?_push_size _ rfl⟩
 obtain ⟨W, ⟨m0, w0⟩, step⟩ := h s.heap.objs.size _ hnew (same_new hnew _) upd_same
 have old2 : ∀ b o, s.heap.get? b = some o → (s.heap.push { cls := .type "list", dict := none, data := .seq ([] : List Value).toArray }).get? b = some o := fun b o e => Heap.get?_push_of_some _ e
 generalize hs3 : ({ s with heap := s.heap.push { cls := .type "list", dict := none, data := .seq ([] : List Value).toArray } } : Shared) = s3 at I3
 have hh : s.heap.push { cls := .type "list", dict := none, data := .seq ([] : List Value).toArray } = s3.heap := by rw [← hs3]
 rw [hh] at hns₁ hsb₁ old2
 have fpO : ∀ b ∈ fp, ∃ o, s.heap.get? b = some o := fun b hb => let ⟨o, e, _⟩ := T.obj 0 _ st2 b hb; ⟨o, e⟩
 have f3 : ∀ b ∈ fp, FpOk X pins (upd H s.heap.objs.size (.lst [])) b := fun b hb => ⟨by
  obtain ⟨o, e⟩ := fpO b hb
  rw [upd_ne (Nat.ne_of_lt (Heap.lt_size e))]; exact (f2 b hb).1, (f2 b hb).2⟩
 have hlt3 : ∀ b ∈ fp, b < s3.heap.objs.size := fun b hb => let ⟨o, e⟩ := fpO b hb; Heap.lt_size (old2 b o e)
 have kk : ∀ b o, s3.heap.get? b = some o → h₁.get? b = some o := fun b o e => hsb₁.extBut b o (Nat.ne_of_lt (Heap.lt_size e)) (Heap.get?_push_of_some _ e)
 have J4 := blk_inv (t' := s.toks + ([] : List (Str × Value)).length) B I3 f3 hlt3 (h₁ := h₁) hns₁ kk
 have st4 : tn 0 h₁ := T.keep _ _ _ st2 fun b hb o e => kk b o (old2 b o e)
 have stat : ∀ {H' : Hp}, (∀ b ∈ fp, H' b = none) → ∀ b ∈ fp, FpOk (blk X (ts ++ cs) sc cl s3 (upd H s.heap.objs.size (.lst [])) fp) [] H' b := fun hn b hb =>
  ⟨hn b hb, Nat.ne_of_lt (hlt3 b hb), (blk_ok B I3 f3 hlt3).exfs b hb, .inl hb, (blk_ok B I3 f3 hlt3).exf b hb |>.2, fun p hp => absurd (show p ∈ ([] : List (Addr × Obj)) from hp) (by simp)⟩
 have err : ∀ e s5, BE X E (ts ++ cs) sc cl s3 (upd H s.heap.objs.size (.lst [])) fp e s5 → notedBy (model X.prog X.w) X.A (compEnvC sc cl s3.heap.objs.size X.env) (fun e s' => BlkPostE X E pins σ Q (.ref s.heap.objs.size) s3.heap.objs.size (.error e) s') e s5 := by
  rintro e s5 ⟨ea, Cc, a0, B0, τ, H', rfl, J5, fl, cov, trk, q⟩
  have IX : Inv X pins σ H' s5 := I3.call' (J5.os) J5.base J5.hok J5.bare (fun b hb => ⟨(f3 b hb).2.2.2.1, (f3 b hb).2.1, (f3 b hb).2.2.2.2.1, (f3 b hb).2.2.2.2.2⟩)
  have hC : H' s3.heap.objs.size = none := J5.free
  have stays : (PySem.W.hideAll B0 [s3.heap.objs.size]).StaysIn B0 := fun c o z => PySem.W.of_hideAll _ z
  have cov2 : ∀ c o, s3.heap.get? c = some o → c ∉ frs X.stack → c ∉ fp → ∃ o', (PySem.W.hideAll B0 [s3.heap.objs.size]).get? c = some o' := fun c o z n nf => by
   obtain ⟨o', z'⟩ := cov c o z n nf
   exact ⟨o', PySem.W.hideAll_get _ z' (by simpa using Nat.ne_of_lt (Heap.lt_size z))⟩
  obtain ⟨h1, h2, h3, _⟩ := b.apart I3
  have cv : Cv X pins (PySem.W.hideAll B0 [s3.heap.objs.size]) H' := by
   refine ⟨fun c o z n => ?_, fun c o z => ?_, fun x c z => ?_, fun p hp => ?_⟩
   ·obtain ⟨o', z'⟩ := h3 c o z
    refine cov2 c o' z' n fun nf => ?_
    rcases (f3 c nf).2.2.2.1 with y | y
    ·rw [b.ex] at y; cases y
    ·exact absurd (Nat.lt_of_lt_of_le (Heap.lt_size z) y) (Nat.lt_irrefl _)
   ·obtain ⟨o', z'⟩ := trk c o z
    exact ⟨o', PySem.W.hideAll_get _ z' (by simpa using (ne_of_none z hC))⟩
   ·obtain ⟨⟨o, z'⟩, n⟩ := h1 x c z
    exact cov2 c o z' n fun nf => (f3 c nf).2.2.2.2.1 x c z rfl
   ·obtain ⟨z', n⟩ := h2 p hp
    exact cov2 p.1 p.2 z' n fun nf => (f3 p.1 nf).2.2.2.2.2 p hp rfl
  have fl2 := PySem.W.flyingW_base stays fl
  have fa : FlyAny (PySem.W.hideAll B0 [s3.heap.objs.size]) X.stack ea (.ref Cc) a0 s5.heap := ⟨fl2.1, fl2.2.1, fl2.2.2.1, _, fl2.2.2.2⟩
  have hfr : X.A.frames = some (X.env :: X.outer) := by rw [I3.ok.frames, b.st]
  show wpAny _ _ (noteFrame (.ref ea) (compEnvC sc cl s3.heap.objs.size X.env)) _ _ s5
  rw [noteFrame_frame (env := X.env) (env' := compEnvC sc cl s3.heap.objs.size X.env) rfl]
  have fa' := fa
  rw [b.st] at fa'
  refine note_any hfr b.fr fa' fun h6 held u6 => .inr ⟨_, rfl, ea, Cc, a0, PySem.W.hideAll B0 [s3.heap.objs.size], H', rfl, fly (t' := s5.toks) IX b.st b.fr cv fa.1 held.1 u6, I3.fpOk (Nat.le_refl _) hC, ?_, ?_, cv, PySem.W.hideAll_none _ (by simp), q⟩
  ·obtain ⟨m6, hm6, _⟩ := J5.loc
   exact ⟨m6, u6.ns hm6⟩
  ·rw [b.st]
   exact ⟨held.1, held.2.1, held.2.2.1, _, held.2.2.2⟩
 have key : ∀ s4 : Shared, s4 = { s3 with heap := h₁, toks := s.toks + ([] : List (Str × Value)).length } →
   codeAny (model X.prog X.w) X.A (.compLoop (.ListComp elt [⟨target, iter, ifs, 0⟩] sc pos) 0 (.ref it) (.ref s.heap.objs.size) (compEnvC sc cl s3.heap.objs.size X.env)) (BlkPostE X E pins σ Q (.ref s.heap.objs.size) s3.heap.objs.size) s4 := by
  rintro s4 rfl
  refine comp_loop (fun n s' => ∃ i os ys H', os.length = ts.length ∧ Inv (blk X (ts ++ cs) sc cl s3 (upd H s.heap.objs.size (.lst [])) fp) [] (os ++ capOf σ caps) H' s' ∧ tn i s'.heap ∧ (∀ b ∈ fp, H' b = none) ∧ W i n ys H') ?_ m0
   ⟨0, List.replicate ts.length none, [], _, by simp, J4, st4, fun b hb => (f3 b hb).1, w0⟩
  rintro n s5 ⟨i, os, ys, H5, ol, J5, st5, fr5, w5⟩
  obtain ⟨ha, hcase⟩ := step i n ys H5 w5
  rcases hcase with ⟨stop, q⟩ | ⟨go, hys, N, hN, turn⟩
  ·refine thn (T.done (blk X (ts ++ cs) sc cl s3 (upd H s.heap.objs.size (.lst [])) fp) rfl rfl rfl hc i [] s5 _ H5 _ J5 (stat fr5) st5 stop) fun r s6 ⟨hr, J6⟩ => ?_
   subst hr
   have hf6 : H5 s3.heap.objs.size = none := J6.free
   obtain ⟨m6, hm6, _⟩ := J6.loc
   exact .inl ⟨rfl, _, H5, rfl, I3.call' (J6.os) J6.base J6.hok J6.bare (fun b hb => ⟨(f3 b hb).2.2.2.1, (f3 b hb).2.1, (f3 b hb).2.2.2.2.1, (f3 b hb).2.2.2.2.2⟩), I3.fpOk (Nat.le_refl _) hf6, ⟨m6, hm6⟩, q⟩
  ·refine thn (T.item (blk X (ts ++ cs) sc cl s3 (upd H s.heap.objs.size (.lst [])) fp) rfl rfl rfl hc i [] s5 _ H5 _ J5 (stat fr5) st5 go) fun r s6 ⟨u, hr, h6⟩ => ?_
   subst hr
   refine thn h6 fun _ s7 ⟨x, H7, J7, r7, y7, st7, fr7⟩ => ?_
   have J7' := J7.pinned (stat fr7) (T.obj _ _ st7)
   refine wpAny_mono (hg _ _ _ _ s7 _ H7 x u _ (J7'.wish _) r7 (turn os x H7 ol y7)) (fun _ s8 ⟨σ8, H8, J8, os', ol', e8, q8⟩ => ?_) fun e s' z => err e s' z
   subst e8
   refine wpAny_mono (ht _ _ _ _ s8 _ H8 _ J8 q8) (fun b s8' ⟨H8', J8', q8'⟩ => ?_) fun e s' z => err e s' z
   cases b with
   | false =>
    rw [if_neg (by decide)] at q8' ⊢
    have J8u := J8'.unwish
    obtain ⟨m', hm', w9⟩ := hN _ _ q8'
    refine ⟨m', hm', i + 1, os', ys, _, ol', J8u.unpinned, T.keep _ _ _ st7 fun b hb o e => (J8u.pin (b, o) (List.mem_append_right _ (List.mem_append_right _ (mem_pinsAt hb e)))).1, fun b hb => ?_, w9⟩
    obtain ⟨o, e, d⟩ := T.obj _ _ st7 b hb
    exact (J8u.pin (b, o) (List.mem_append_right _ (List.mem_append_right _ (mem_pinsAt hb e)))).2.1
   | true =>
    rw [if_pos rfl] at q8' ⊢
    refine wpAny_mono (he _ _ _ _ s8' _ H8' _ J8' q8') (fun v s9 ⟨v9, H9, J9w, r9, ha9, n9⟩ => ?_) fun e s' z => err e s' z
    have J9 := J9w.unwish
    refine wpAny_mono (mt_append (X := blk X (ts ++ cs) sc cl s3 (upd H s.heap.objs.size (.lst [])) fp) _ s9 _ H9 (.ref s.heap.objs.size) [v9] (.ref s.heap.objs.size) [v] (fun _ H' => H' = upd H9 s.heap.objs.size (.lst (ys ++ [v9]))) J9 rfl (.cons r9 .nil) ⟨_, ys, v9, rfl, rfl, ha9, mill hys, rfl⟩) (fun _ s10 ⟨_, H10, J10, _, e10⟩ => ?_) fun _ _ z => z.elim
    subst e10
    obtain ⟨m', hm', w9⟩ := hN _ _ n9
    refine ⟨m', hm', i + 1, os', ys ++ [v9], _, ol', J10.unpinned, T.keep _ _ _ st7 fun b hb o e => (J10.pin (b, o) (List.mem_append_right _ (List.mem_append_right _ (mem_pinsAt hb e)))).1, fun b hb => ?_, w9⟩
    obtain ⟨o, e, d⟩ := T.obj _ _ st7 b hb
    exact (J10.pin (b, o) (List.mem_append_right _ (List.mem_append_right _ (mem_pinsAt hb e)))).2.1
 have key2 := key { s with heap := h₁, toks := s.toks + ([] : List (Str × Value)).length } (by rw [← hs3])
 rw [hh]
 exact codeAny_compStart_list key2 (T.self _ 0 _ _ _ st4 key2)
theorem pe_compX {elt target iter : Expr} {ifs : List Expr} {pos : Pos} {wi : TI} {g : TG} {tt : TT} {te : TE} (b : Goes X E) (B : Blk X ts caps cs sc cl) (hi : PI X target iter wi)
  (hg : ∀ s H fp, PG (blkE X E (ts ++ cs) sc cl s H fp) target g) (ht : ∀ s H fp, PTs (blkE X E (ts ++ cs) sc cl s H fp) ifs tt) (he : ∀ s H fp, PE (blkE X E (ts ++ cs) sc cl s H fp) elt te) (hc : X.calm = true := by rfl) (hs : ∀ x, foldedSetIterable iter X.env x = pure x := by intro _; rfl) :
  PE X (.ListComp elt [⟨target, iter, ifs, 0⟩] sc pos) (tCompT ts.length caps wi g tt te) := by
 intro pins s σ H Q I h
 rw [eval_ListComp]
 refine wpAny_comprehension_free (use := none) rfl hs B.clos B.kind B.loc (thn (hi pins s σ H _ I h) fun v s1 h1 => thn h1 fun itv s2 h2 => ?_)
 obtain ⟨it, fp, tn, J, H2, e, I2, T, st2, f2, hq⟩ := h2
 subst e
 refine thn (blk_runX (E := E) b.toBody B hc hg ht he I2 T st2 f2 hq) fun acc s3 h3 => thn h3 fun cenv s4 h4 => codeAny_mono h4 fun r s' hp => ?_
 rcases hp with hp | ⟨e, rfl, hp⟩
 ·obtain ⟨rfl, a, H', rfl, I', fC, ⟨m, hm⟩, q⟩ := hp
  exact ⟨m, hm, fun h' sb => ⟨.ref a, H', I'.turned (t' := s'.toks) (fun b o hb e => sb.extBut b o hb e) fC.1 fC.2.1 fC.2.2.2.1 fC.2.2.2.2.1 fC.2.2.2.2.2, rfl, q⟩⟩
 ·obtain ⟨ea, Cc, a0, B0, H', rfl, I', fC, ⟨m, hm⟩, fa, cv, hB, q⟩ := hp
  refine ⟨m, hm, fun h' sb cenv' _ => ?_⟩
  have I4 : Inv X pins σ H' { s' with heap := h' } := I'.turned (t' := s'.toks) (fun b o hb e => sb.extBut b o hb e) fC.1 fC.2.1 fC.2.2.2.1 fC.2.2.2.2.1 fC.2.2.2.2.2
  have nst : cenv.locals ∉ X.stack.filterMap (·.frame) := fun z => by
   rcases List.mem_cons.mp (I'.stkSub _ z) with y | y
   ·exact fC.2.1 y
   ·exact fC.2.2.1 y
  have fa2 := fa.but hm sb hB nst
  have k0 := fa2.1
  refine passOn_any (s := { s' with heap := h' }) fa2 fun h6 fa6 u6 => ?_
  exact b.passAny (fly (t' := s'.toks) I4 b.st b.fr cv k0 fa6.1 u6) fa6 cv q
end
section
variable {X : Cx} {E : XK} {j k : Nat} {x : Str} {ps : List Str} {sp : Sp} {p pos : Pos} {e elt tg it : Expr} {es : List Expr} {t : TA} {ts cs : List Str} {caps : List Nat} {sc : Scope} {cl : List (Str × Addr)} {wi : TI} {g : TG} {te : TE}
theorem q_fnP (hx : Passes (CX1 X.prog X.w) X E) (F : Fn X.prog X.w X.K X.mg X.base (CX1 X.prog X.w) j x ps sp) (hr : Room k X.A) (hj : j ≤ k) (hg : Gl X x) (ha : QA X (e :: es) t) (hp : (e :: es).all plainE = true := by rfl) (hdb : (x == ("__debug__" : Str)) = false := by decide) :
  QE X (.Call (.Name x p) (e :: es) [] pos) (tCall sp [] E t) := by
 obtain ⟨f, fd, G, bd, kp, m⟩ := F.ex
 exact ⟨pe_call G (hr.mono hj) hg m kp bd .nil hx ha.h hdb (se_cons (hd_plain hp).1) (se_any (hd_plain hp).2)⟩
theorem q_compX (b : Goes X E) (B : Blk X ts caps cs sc cl) (hi : QI X tg it wi) (hg : ∀ s H fp, QG (blkE X E (ts ++ cs) sc cl s H fp) tg g) (he : ∀ s H fp, QE (blkE X E (ts ++ cs) sc cl s H fp) elt te) (hc : X.calm = true := by rfl) (hs : ∀ x, foldedSetIterable it X.env x = pure x := by intro _; rfl) :
  QE X (.ListComp elt [⟨tg, it, [], 0⟩] sc pos) (tComp ts.length caps wi g te) := ⟨pe_compX b B hi.h (fun s H fp => (hg s H fp).h) (fun _ _ _ => pts_nil) (fun s H fp => (he s H fp).h) hc hs⟩
end
end My
namespace My
open PySem PySem.Spec L2
open PyProof.Rows hiding St
def tHand0 (K : PySem.W.Frag) (D : Addr) (th : Addr → TS) (En : Ends) (σ : St) : XK := fun c _ H' => ∃ C, c = .ref C ∧ PySem.W.exmOne K (.ref C) (.ref D) = some true ∧ ∀ ea, th ea { nx := En.nx, rt := En.rt, bk := En.bk, ct := En.ct } σ H'
def tTry0 (K : PySem.W.Frag) (tb : TSX) (D : Addr) (th : Addr → TS) : TS := fun En σ H => tb En (tHand0 K D th En) σ H
section
variable {X : Cx} {body : List Stmt} {x : Str} {np hpos pos : Pos} {b₀ : Stmt} {suite : List Stmt} {tb : TSX} {th : Addr → TS} {D : Addr}
end
def tMakeX (C : Addr) (sp : Sp) (t : TA) : TEX := fun σ H Q EX => t σ H fun vs H1 => ∀ x dx, H1 x = none → H1 dx = none → dx ≠ x → sp (.ref x :: vs) (upd (upd H1 dx (.own x)) x (.ins C dx [])) (fun v H2 => v = .non ∧ Q (.ref x) H2) EX
section
variable {X : Cx} {j k : Nat} {C : Addr} {x : Str} {ps : List Str} {sp : Sp} {p pos : Pos} {e : Expr} {es : List Expr} {t : TA}
end
section
variable {X : Cx} {e : Expr} {te : TE} {p1 p2 p3 pos : Pos} {c1 c2 : Str} {k1 k2 : Nat}
def tFs (te : TE) : TE := fun σ H Q => te σ H fun x H1 => ∃ i : Int, x = .int i ∧ i.natAbs < 2 ^ 30 ∧ ∀ z, Q (.str z) H1
theorem q_fstr (he : QE X e te) (h1 : c1.length ≤ 1000 := by decide +kernel) (h2 : c2.length ≤ 1000 := by decide +kernel) : QE X (.JoinedStr [.Constant (.str c1) k1 p1, .FormattedValue e (-1) none p2, .Constant (.str c2) k2 p3] pos) (tFs te) := ⟨by
 intro pins s σ H Q I h
 have big : ∀ n : Nat, n ≤ 5000 → n ≤ sizeLine := fun n h => Nat.le_trans h (by decide)
 have l1 : (Str.empty ++ c1).length ≤ 1000 := by
  rw [strLen_append]
  have : Str.empty.length = 0 := rfl
  omega
 refine PyProof.Rows.JoinedStr_many (joinParts_cons ?_)
 refine Calls.Constant_str ⟨big _ (Nat.le_trans l1 (by decide)), joinParts_cons (PyProof.Rows.FormattedValue_plain (thn (he.h pins _ σ H _ (I.tok _) h) fun v s1 ⟨x, H1, I1, r1, i, e1, hi, q1⟩ => ?_))⟩
 subst e1
 obtain ⟨t, rfl⟩ := r1
 have hd : i.natAbs.log2 < 30 := log2_lt_of hi (by decide)
 have l2 := int_text_length_le (k := 30) (by decide) hd
 have l3 : ((Str.empty ++ c1) ++ (Str.ofString (toString i))).length ≤ 2000 := by
  rw [strLen_append, PySem.ofString_length]
  omega
 refine PyProof.Rows.formatField_int_small (Nat.lt_trans hd (by decide)) ⟨big _ (Nat.le_trans l3 (by decide)), joinParts_cons ?_⟩
 have l4 : (((Str.empty ++ c1) ++ (Str.ofString (toString i))) ++ c2).length ≤ 3000 := by
  rw [strLen_append]
  omega
 refine Calls.Constant_str ⟨big _ (Nat.le_trans l4 (by decide)), joinParts_nil ⟨.str _, H1, (((I1.tok _).tok _).tok _), ⟨_, rfl⟩, q1 _⟩ (big _ (Nat.le_trans l4 (by decide)))⟩⟩
end
section
variable {X : Cx} {e : Expr} {t : TA} {p pos : Pos}
end
section
variable {X : Cx} {pins : List (Addr × Obj)} {σ : St} {H : Hp} {s : Shared}
theorem EqD.neAt (I : Inv X pins σ H s) {x y : V} {b : Bool} {n : Nat} (h : EqD H x y b n) : ∀ {A : Around} {u v : Value}, RelV x u → RelV y v → A.units + n < cLine → (∃ a c, x = .ref a ∧ y = .ref c) → SeqAt.RcNeAt A s u v (!b) := by
 induction h with
 | flat fx fy =>
  rintro A u v r1 r2 _ ⟨a, c, rfl, _⟩
  cases fx
 | up h ih =>
  intro A u v r1 r2 hu w
  exact ih r1 r2 (by omega) w
 | @tup a b xs ys e n ha hb h ih =>
  intro A u v r1 r2 hu _
  cases r1
  cases r2
  obtain ⟨its, v1, t1, _⟩ := I.tuple (SqT.of ha)
  obtain ⟨jts, v2, t2, _⟩ := I.tuple (SqT.of hb)
  have z := SeqAt.RcNeAt.tuples (A := A) (s := s) (e := e) t1 t2 (by omega) fun j h1 h2 => by
   have k1 : j < xs.length := by rw [v1.length]; simpa using h1
   have k2 : j < ys.length := by rw [v2.length]; simpa using h2
   obtain ⟨u1, q1, w1⟩ := v1.get (List.getElem?_eq_getElem k1)
   obtain ⟨u2, q2, w2⟩ := v2.get (List.getElem?_eq_getElem k2)
   have g1 : its.toArray[j] = u1 := by
    have := List.getElem?_eq_some_iff.mp q1
    obtain ⟨hh, this⟩ := this
    simpa using this
   have g2 : jts.toArray[j] = u2 := by
    have := List.getElem?_eq_some_iff.mp q2
    obtain ⟨hh, this⟩ := this
    simpa using this
   rw [g1, g2]
   exact ((h j _ _ (List.getElem?_eq_getElem k1) (List.getElem?_eq_getElem k2)).at I w1 w2 (by show A.units + 1 + n < cLine; omega)).1
  simpa [v1.length, v2.length] using z
 | @lst a b xs ys e n ha hb hl h ih =>
  intro A u v r1 r2 hu _
  cases r1
  cases r2
  obtain ⟨its, v1, t1, _⟩ := I.list (SqL.of ha)
  obtain ⟨jts, v2, t2, _⟩ := I.list (SqL.of hb)
  have z := SeqAt.RcNeAt.lists (A := A) (s := s) (e := e) t1.isList t2.isList (by simp [← v1.length, ← v2.length, hl]) (by omega) fun j h1 h2 => by
   have k1 : j < xs.length := by rw [v1.length]; simpa using h1
   have k2 : j < ys.length := by rw [v2.length]; simpa using h2
   obtain ⟨u1, q1, w1⟩ := v1.get (List.getElem?_eq_getElem k1)
   obtain ⟨u2, q2, w2⟩ := v2.get (List.getElem?_eq_getElem k2)
   have g1 : its.toArray[j] = u1 := by
    have := List.getElem?_eq_some_iff.mp q1
    obtain ⟨hh, this⟩ := this
    simpa using this
   have g2 : jts.toArray[j] = u2 := by
    have := List.getElem?_eq_some_iff.mp q2
    obtain ⟨hh, this⟩ := this
    simpa using this
   rw [g1, g2]
   exact ((h j _ _ (List.getElem?_eq_getElem k1) (List.getElem?_eq_getElem k2)).at I w1 w2 (by show A.units + 1 + n < cLine; omega)).1
  simpa [v1.length, v2.length] using z
 | @lstNe a b xs ys n ha hb hl =>
  intro A u v r1 r2 hu _
  cases r1
  cases r2
  obtain ⟨its, v1, t1, _⟩ := I.list (SqL.of ha)
  obtain ⟨jts, v2, t2, _⟩ := I.list (SqL.of hb)
  exact SeqAt.RcNeAt.lists_lengths t1.isList t2.isList (by simp [← v1.length, ← v2.length]; exact hl) (by omega)
end
section
variable {X : Cx} {a b : Expr} {ta tb : TE} {pos : Pos} {k : Nat}
def rNeD : R2 := fun x y H Q => ∃ t n p c, x = .ref p ∧ y = .ref c ∧ EqD H x y t n ∧ n ≤ 60 ∧ Q (.bl (!t)) H
theorem op_neD (hr : Room k X.A) : OpR X (compareOp .NotEq) rNeD := by
 intro pins s σ H x y v u Q I rx ry h
 obtain ⟨t, n, p, c, e1, e2, h, hn, q⟩ := h
 have hu := hr.units
 exact (h.neAt I rx ry (by omega) ⟨p, c, e1, e2⟩) _ _ _ _ ⟨.bl (!t), H, I, rfl, q⟩
theorem t_neD (hr : Room k X.A) (ha : QE X a ta) (hb : QE X b tb) : QT X (.Compare a [.NotEq] [b] pos) (tTest (tOp rNeD ta tb)) := ⟨pt_cmpR (op_neD hr) ha.h hb.h (nomark _)⟩
end
end My
namespace My
open PySem PySem.Spec L2
open PyProof.Rows hiding St
section
variable {X : Cx} {o e : Expr} {es : List Expr} {to : TE} {t : TA} {name : Str} {apos cpos : Pos} {id : String} {r : V → List V → Hp → VK → Prop}
def tLm0 (r : V → List V → Hp → VK → Prop) (to : TE) : TE := fun σ H Q => to σ H fun x H1 => r x [] H1 Q
def tLm (r : V → List V → Hp → VK → Prop) (to : TE) (t : TA) : TE := fun σ H Q => to σ H fun x H1 => ∃ l zs, x = .ref l ∧ H1 l = some (.lst zs) ∧ t σ H1 fun vs H2 => r x vs H2 Q
theorem pe_lm0 (slot : Slot "list" name id) (hty : typeOf (.builtin id) = pure (.type "method_descriptor")) (hm : MtM X id r) (hr : ∀ x H Q, r x [] H Q → ∃ l zs, x = .ref l ∧ H l = some (.lst zs)) (ho : PE X o to)
  (hbase : attributeBase o name X.env (eval o X.env) = eval o X.env := by rfl) (hline : (apos.endLine == cpos.line) = true := by rfl) : PE X (.Call (.Attribute o name apos) [] [] cpos) (tLm0 r to) := by
 intro pins s σ H Q I h
 refine wpAny_Call_method0_late hbase hline (thn (ho pins s σ H _ I h) fun v s1 ⟨x, H1, I1, r1, q1⟩ => ?_)
 obtain ⟨l, zs, e1, e2⟩ := hr _ _ _ q1
 obtain ⟨h1, h2⟩ := tyV_is (T := "list") I1 r1 (by rw [e1]; exact .inl ⟨rfl, zs, SqL.of e2⟩)
 exact ⟨"list", id, PySem.F.plainAttrs_list, slot, hty, h1, h2, Calls.callWith_builtin rfl (PySem.evalArgs_none (hm pins s1 σ H1 x [] v [] Q I1 r1 .nil q1))⟩
theorem pe_lm (slot : Slot "list" name id) (hty : typeOf (.builtin id) = pure (.type "method_descriptor")) (hm : MtM X id r) (ho : PE X o to) (ha : PA X (e :: es) t)
  (hbase : attributeBase o name X.env (eval o X.env) = eval o X.env := by rfl)
  (hfew : ((backTo cpos (starEach (e :: es) X.env)).all (fun x => !x.1) && (backToKw cpos (keywordEach [] X.env)).all (fun x => x.1.isSome)
   && decide ((e :: es).length + ([] : List Keyword).length + (if ([] : List Keyword).isEmpty then 0 else 1) < 30)) = true := by rfl)
  (hline : (apos.endLine == cpos.line) = true := by rfl) (hs : starEach (e :: es) X.env = (false, eval e X.env) :: starEach es X.env := by rfl) (hplain : (backTo cpos (starEach es X.env)).any (·.1) = false := by rfl) :
  PE X (.Call (.Attribute o name apos) (e :: es) [] cpos) (tLm r to t) := by
 intro pins s σ H Q I h
 refine wpAny_Call_method_late hbase hfew hline rfl (thn (ho pins s σ H _ I h) fun v s1 ⟨x, H1, I1, r1, l, zs, e1, e2, q1⟩ => ?_)
 obtain ⟨h1, h2⟩ := tyV_is (T := "list") I1 r1 (by rw [e1]; exact .inl ⟨rfl, zs, SqL.of e2⟩)
 refine ⟨"list", id, PySem.F.plainAttrs_list, slot, hty, h1, h2, ?_⟩
 have hA := ha cpos pins s1 σ H1 _ I1 q1
 rw [hs] at hA ⊢
 refine Calls.callWith_builtin (by show (false || (backTo cpos (starEach es X.env)).any (·.1)) = false; rw [hplain] <;> rfl) (Calls.evalArgs_plain ?_)
 exact thn hA fun us s2 ⟨vs, H2, I2, r2, q2⟩ => hm pins s2 σ H2 x vs v us Q I2 r1 r2 q2
theorem q_popL (ho : QE X o to) (hbase : attributeBase o "pop" X.env (eval o X.env) = eval o X.env := by rfl) (hline : (apos.endLine == cpos.line) = true := by rfl) : QE X (.Call (.Attribute o "pop" apos) [] [] cpos) (tLm0 rPop to) :=
 ⟨pe_lm0 PySem.F.slot_list_pop PySem.F.type_list_pop mt_pop (fun _ _ _ ⟨l, zs, _, h1, _, h2, _⟩ => ⟨l, zs, h1, h2⟩) ho.h hbase hline⟩
end
end My
namespace My
open PySem PySem.Spec L2
open PyProof.Rows hiding St
theorem kV_of {P : Program} {w : World} {k : Key} {u : Value} (h : (mixKind P w).is k u = true) : RelV (kV k) u := by
 rcases keyIs_shape h with ⟨i, t, rfl, rfl⟩ | ⟨x, t, rfl, rfl⟩ <;> exact ⟨t, rfl⟩
section
variable {X : Cx} {pins : List (Addr × Obj)} {σ : St} {H : Hp} {s : Shared} {a : Addr} {kvs : List (Key × V)}
end
theorem kv_get {kvs : List (Key × V)} {vs : List (Key × Value)} (r : KV kvs vs) {i : Nat} (hi : i < kvs.length) : ∃ kv v, kvs[i]? = some kv ∧ vs[i]? = some (kv.1, v) := by
 have hl : i < vs.length := by rw [← r.length]; exact hi
 have hk := congrArg (·[i]?) r.keys
 simp only [List.getElem?_map, List.getElem?_eq_getElem hi, List.getElem?_eq_getElem hl, Option.map_some, Option.some.injEq] at hk
 exact ⟨kvs[i], vs[i].2, List.getElem?_eq_getElem hi, by rw [List.getElem?_eq_getElem hl, hk]⟩
section
variable {X : Cx} {tg l o i e value : Expr} {tl td ty tv : TE} {t : TA} {pos pos' p : Pos}
def tDG (td ty : TE) : TE := fun σ H Q => td σ H fun x H1 => ty σ H1 fun y H2 => ∃ a kvs k v, x = .ref a ∧ Rd H2 a (.dK kvs) ∧ y = kV k ∧ valV kvs k = some v ∧ Q v H2
def sDP (td ty tv : TE) : TS := fun D σ H => tv σ H fun v H1 => td σ H1 fun x H2 => ty σ H2 fun y H3 => ∃ a kvs k, x = .ref a ∧ H3 a = some (.dK kvs) ∧ y = kV k ∧ kvs.length < 1000 ∧ D.nx σ (upd H3 a (.dK (putK kvs k v)))
theorem s_dput (hu : X.A.units + 1 < cLine) (ho : QE X o td) (hi : QE X i ty) (hv : QE X value tv) (hs : swapsWith value (some (.Subscript o i pos')) pos.line X.env = pure false := by rfl) : QS X (.Assign [.Subscript o i pos'] value pos) (sDP td ty tv) := ⟨by
 intro pins s σ H D I h
 refine wpAny_Assign_Subscript (thn (hv.h pins s σ H _ I h) fun r s1 ⟨v, H1, I1, rv, q1⟩ => thn (ho.h pins s1 σ H1 _ I1 q1) fun u s2 ⟨x, H2, I2, rx, q2⟩ => thn (hi.h pins s2 σ H2 _ I2 q2) fun iv s3 ⟨y, H3, I3, ry, a, kvs, k, ex, g, ey, hl, q3⟩ => ?_) hs
 subst ex ey
 obtain rfl : u = Value.ref a := rx
 exact d_setItem hu I3 (DPut.k g (small1000 (Nat.le_of_lt hl))) ry rv fun s4 I4 => ⟨σ, _, I4, q3⟩⟩
def tDI (neg : Bool) (ty td : TE) : TE := fun σ H Q => ty σ H fun y H1 => td σ H1 fun x H2 => ∃ a kvs k, x = .ref a ∧ Rd H2 a (.dK kvs) ∧ y = kV k ∧ Q (.bl (if neg = true then !(valV kvs k).isSome else (valV kvs k).isSome)) H2
theorem pc_inD (hu : X.A.units + 1 < cLine) (hi : PE X i ty) (ho : PE X o td) : PC X .In i o (tDI false ty td) := by
 intro pins s σ H Q I h
 refine thn (hi pins s σ H _ I h) fun iv s1 ⟨y, H1, I1, ry, q1⟩ => thn (ho pins s1 σ H1 _ I1 q1) fun u s2 ⟨x, H2, I2, rx, a, kvs, k, ex, g, ey, q2⟩ => ?_
 subst ex
 obtain rfl : u = Value.ref a := rx
 exact d_in hu I2 (.inl ⟨kvs, k, g, ey, rfl⟩) ry fun s3 I3 => ⟨.bl _, H2, I3, rfl, by simpa using q2⟩
theorem pc_ninD (hu : X.A.units + 1 < cLine) (hi : PE X i ty) (ho : PE X o td) : PC X .NotIn i o (tDI true ty td) := by
 intro pins s σ H Q I h
 refine thn (hi pins s σ H _ I h) fun iv s1 ⟨y, H1, I1, ry, q1⟩ => thn (ho pins s1 σ H1 _ I1 q1) fun u s2 ⟨x, H2, I2, rx, a, kvs, k, ex, g, ey, q2⟩ => ?_
 subst ex
 obtain rfl : u = Value.ref a := rx
 exact d_notIn hu I2 (.inl ⟨kvs, k, g, ey, rfl⟩) ry fun s3 I3 => ⟨.bl _, H2, I3, rfl, by simpa using q2⟩
theorem t_inD (hu : X.A.units + 1 < cLine) (hi : QE X i ty) (ho : QE X o td) (hm : behindInMarks .In o = false := by with_unfolding_all rfl) : QT X (.Compare i [.In] [o] pos) (tB (tDI false ty td)) := ⟨pt_cmp (pc_inD hu hi.h ho.h) hm⟩
theorem t_ninD (hu : X.A.units + 1 < cLine) (hi : QE X i ty) (ho : QE X o td) (hm : behindInMarks .NotIn o = false := by with_unfolding_all rfl) : QT X (.Compare i [.NotIn] [o] pos) (tB (tDI true ty td)) := ⟨pt_cmp (pc_ninD hu hi.h ho.h) hm⟩
theorem q_dnew : QE X (.Dict [] [] pos) (fun _ H Q => ∀ p H2, H p = none → Same H H2 → H2 p = some (.dK []) → Q (.ref p) H2) := ⟨fun pins s σ H Q I h => pe_dnewK pins s σ H Q I fun p hp => h p _ hp (same_new hp _) upd_same⟩
theorem call_lenD2 : CallR X (.builtin "len") (fun xs H Q => ∃ a kvs, xs = [.ref a] ∧ Rd H a (.dK kvs) ∧ Q (.int kvs.length) H) := by
 intro pins s σ H xs us Q I r h
 obtain ⟨a, kvs, rfl, e, q⟩ := h
 obtain ⟨u, rfl, ru⟩ := vals1 r
 cases ru
 exact d_len I e fun t s' I' => ⟨.int kvs.length, H, I', ⟨t, rfl⟩, q⟩
theorem q_lenD (hg : Gl X "len") (hm : X.mg "len" = none) (ha : QA X [e] t) (hp : plainE e = true := by rfl) : QE X (.Call (.Name "len" p) [e] [] pos) (tCB (fun xs H Q => ∃ a kvs, xs = [.ref a] ∧ Rd H a (.dK kvs) ∧ Q (.int kvs.length) H) t) :=
 ⟨pe_callB call_lenD2 hg hm PySem.boot_len ha.h (by decide) (by decide) (se_cons hp) rfl⟩
def rDictU : List V → Hp → VK → Prop := fun xs H Q => ∃ a kvs, xs = [.ref a] ∧ Rd H a (.dK kvs) ∧ ∀ p H2, H p = none → Same H H2 → H2 p = some (.dK kvs) → Q (.ref p) H2
theorem call_dictU : CallR X (.type "dict") rDictU := by
 intro pins s σ H xs us Q I r h
 obtain ⟨a, kvs, rfl, e, q⟩ := h
 obtain ⟨u, rfl, ru⟩ := vals1 r
 cases ru
 exact d_copyOf I e fun p s' hp I' => ⟨.ref p, _, I', rfl, q p _ hp (same_new hp _) upd_same⟩
theorem q_dictU (hg : Gl X "dict") (hm : X.mg "dict" = none) (ha : QA X [e] t) (hp : plainE e = true := by rfl) : QE X (.Call (.Name "dict" p) [e] [] pos) (tCB rDictU t) := ⟨pe_callTy call_dictU hg hm (by decide +kernel) ha.h (by decide) (by decide) (se_cons hp) rfl⟩
end
end My
namespace My
open PySem PySem.Spec L2
open PyProof.Rows hiding St
section
variable {X : Cx} {l m : Expr} {ta : TA} {p pos pos' : Pos} {es : List Expr}
end
end My
namespace My
open PySem PySem.Spec
open PyProof.Rows hiding St
def Rise (l : List Nat) : Prop := l.Pairwise (· < ·)
def TOk (b : Bool) (t : SetTable) : Prop := Rise t.place.toList ∧ t.dummies = #[] ∧ t.led = b
end My
namespace My
open PySem PySem.Spec
open PyProof.Rows hiding St
section
variable {prog : Program} {w : World} {A : Around} {E : Value → Shared → Prop} {s : Shared}
def byT (w : World) : Bool := w.params.followText "set-order"
def keyI (e : Int × Value) : Int := match e.2 with
 | .int k _ => k
 | _ => 0
def AllI (prog : Program) (w : World) (es : List (Int × Value)) : Prop := ∀ e ∈ es, ∃ (k : Int) (t : Tok), e.2 = .int k t ∧ e.1 = (intKind prog w).hash k
def SetI (prog : Program) (w : World) (h : Heap) (a : Addr) (S : Int → Prop) (n : Nat) : Prop :=
 ∃ o es ep t, h.get? a = some o ∧ o.ExactSet ∧ o.data = .set es ep t ∧ TOk (!byT w) t ∧ t.fits es.size = true ∧ AllI prog w es.toList ∧ (es.toList.map keyI).Nodup ∧ (∀ k, k ∈ es.toList.map keyI ↔ S k) ∧ es.size ≤ n
theorem SetI.keep {h h' : Heap} {a : Addr} {S : Int → Prop} {n : Nat} (x : SetI prog w h a S n) (hk : ∀ o, h.get? a = some o → h'.get? a = some o) : SetI prog w h' a S n :=
 let ⟨o, es, ep, t, ho, r⟩ := x; ⟨o, es, ep, t, hk o ho, r⟩
end
end My
namespace My
open PySem PySem.Spec
open PyProof.Rows hiding St
section
variable {prog : Program} {w : World} {A : Around} {R : Result → Shared → Prop} {I : Addr} {fp wr : List Addr} {G : Array GenState → Array GenState → Prop} {P : Nat → Value → Prop} {St : Nat → Shared → Prop}
end
section
variable {prog : Program} {w : World} {A : Around} {E : Value → Shared → Prop} {s : Shared}
end
end My
namespace My
open PySem PySem.Spec
open PyProof.Rows hiding St
section
variable {prog : Program} {w : World} {A : Around} {E : Value → Shared → Prop} {s : Shared}
end
end My
namespace My
open PySem PySem.Spec
open PyProof.Rows hiding St
section
variable {prog : Program} {w : World} {A : Around} {E : Value → Shared → Prop} {s : Shared}
theorem SetI.type {a : Addr} {S : Int → Prop} {n : Nat} (x : SetI prog w s.heap a S n) : s.TypeIs (.ref a) "set" := let ⟨o, _, _, _, ho, hex, _⟩ := x; ⟨o, ho, hex.1⟩
abbrev listNil (c : Nat) : Obj := { cls := .type "list", data := .seq #[] c }
theorem sorted_keep {h : Heap} {a b : Addr} {o : Obj} {vs : List Value} {out : Array Value} (hb : b ≠ a) (e : h.get? b = some o) : (sortedHeap h a vs out).get? b = some o := by
 unfold sortedHeap
 exact (Heap.get?_update_other _ _ (Ne.symm hb)).trans (Heap.get?_push_of_some _ (Heap.get?_push_of_some _ ((Heap.get?_update_other _ _ (Ne.symm hb)).trans e)))
theorem sorted_at {h : Heap} {a : Addr} {vs : List Value} {n : Nat} {out : Array Value} (e : h.get? a = some (seqObj "list" vs.toArray n)) : ∃ c, (sortedHeap h a vs out).get? a = some { cls := .type "list", dict := none, data := .seq out c, slots := #[] } := by
 unfold sortedHeap
 exact ⟨_, get?_update_seq (Heap.get?_push_of_some _ (Heap.get?_push_of_some _ (get?_update_seq e fun _ => #[]))) fun _ => out⟩
end
end My
namespace My
open PySem PySem.Spec L2
open PyProof.Rows hiding St
theorem vals_ints : ∀ {ns : List Int} {us : List Value}, Vals (ns.map V.int) us → IntsAre us ns
 | [], us, h => by cases h; exact .nil
 | n :: ns, us, h => by
  cases h with
  | cons h1 h2 =>
   obtain ⟨t, rfl⟩ := h1
   exact .cons n t (vals_ints h2)
section
variable {X : Cx} {e : Expr} {t : TA} {p p' pos pos' : Pos}
theorem SetI.few {prog : Program} {w : World} {h : Heap} {a : Addr} {S : Int → Prop} {n : Nat} (x : SetI prog w h a S n) (hb : ∀ k, S k → 0 ≤ k ∧ k < 60) : SetI prog w h a S 60 := by
 obtain ⟨o, es, ep, t, ho, hex, hd, hT, hf, hA, hN, hM, hz⟩ := x
 refine ⟨o, es, ep, t, ho, hex, hd, hT, hf, hA, hN, hM, ?_⟩
 have hs : es.toList.map keyI ⊆ (List.range 60).map fun k : Nat => (k : Int) := fun k hk => by
  obtain ⟨h1, h2⟩ := hb k ((hM k).mp hk)
  exact List.mem_map.mpr ⟨k.toNat, List.mem_range.mpr (by omega), by omega⟩
 have := List.Nodup.length_le_of_subset hN hs
 simpa using this
def rSortSet : List V → Hp → VK → Prop := fun xs H Q => ∃ (a : Addr) (ns : List Int), xs = [.ref a] ∧ H a = some (.lst (ns.map V.int)) ∧ ns.length < 4000 ∧ (∀ k ∈ ns, 0 ≤ k ∧ k < 60) ∧
 ∀ l H2 (ks : List Int), H l = none → Same H H2 → H2 l = some (.lst (ks.map V.int)) → ks.Pairwise (· < ·) → (∀ k, k ∈ ks ↔ k ∈ ns) → Q (.ref l) H2
end
end My
namespace My
open PySem PySem.Spec L2
open PyProof.Rows hiding St
section
variable {X : Cx} {a b o e : Expr} {es : List Expr} {ta tb to te : TE} {t : TA} {name : Str} {apos cpos pos p p2 : Pos} {id : String} {r : V → List V → Hp → VK → Prop}
theorem q_ixX (ha : QE X a ta) (hb : QE X b tb) (hs : PlainIx b := by intro _ _; rfl) : QE X (.Subscript a b pos) (tOp rIxS ta tb) := ⟨pe_ix ix_str ha.h hb.h hs⟩
def rSlX : V → Option Int → Option Int → Hp → VK → Prop := fun x lo hi H Q => ∃ z, x = .str z ∧ z.length ≤ 1000 ∧ Q (.str (Txt.slice z lo hi)) H
def tXm (r : V → List V → Hp → VK → Prop) (to : TE) (t : TA) : TE := fun σ H Q => to σ H fun x H1 => ∃ z, x = .str z ∧ t σ H1 fun vs H2 => r x vs H2 Q
def rFind : V → List V → Hp → VK → Prop := fun x vs H Q => ∃ z y, x = .str z ∧ vs = [.str y] ∧ Q (.int (Txt.find z y)) H
theorem vals_strs : ∀ {ss : List Str} {us : List Value}, Vals (ss.map V.str) us → StrsAre us ss
 | [], us, h => by cases h; exact .nil
 | x :: ss, us, h => by
  cases h with
  | cons h1 h2 =>
   obtain ⟨t, rfl⟩ := h1
   exact .cons x t (vals_strs h2)
theorem strs_vals : ∀ {ss : List Str} {us : List Value}, StrsAre us ss → Vals (ss.map V.str) us
 | _, _, .nil => .nil
 | _, _, .cons x t h => .cons ⟨t, rfl⟩ (strs_vals h)
def rJoin : V → List V → Hp → VK → Prop := fun x vs H Q => ∃ z a ss, x = .str z ∧ vs = [.ref a] ∧ H a = some (.lst (List.map V.str ss)) ∧ z.length ≤ 16 ∧ (ss.map (·.length)).sum + ss.length ≤ 1048576 ∧ Q (.str (Txt.join z ss)) H
end
end My
namespace My
open PySem PySem.Spec L2
open PyProof.Rows hiding St
def leS (a b : Str) : Prop := a.cps.toList ≤ b.cps.toList
theorem leS_of {a b : Str} (h : (!ltCps b.cps.toList a.cps.toList) = true) : leS a b := by
 rw [ltCps_eq, Bool.not_eq_true', decide_eq_false_iff_not] at h
 exact List.not_lt.mp h
theorem rising_pw : ∀ (p : Str) (l : List Str), risingS p l = true → (p :: l).Pairwise leS
 | p, [], _ => List.pairwise_singleton ..
 | p, x :: l, h => by
  unfold risingS at h
  rw [Bool.and_eq_true] at h
  have ih := rising_pw x l h.2
  have hx := leS_of h.1
  refine List.pairwise_cons.mpr ⟨fun y hy => ?_, ih⟩
  rcases List.mem_cons.mp hy with rfl | hy
  ·exact hx
  ·exact List.le_trans hx ((List.pairwise_cons.mp ih).1 y hy)
theorem sorted_pw : ∀ {l : List Str}, sortedS l = true → l.Pairwise leS
 | [], _ => List.Pairwise.nil
 | x :: l, h => rising_pw x l h
section
variable {X : Cx} {e : Expr} {t : TA} {p pos : Pos}
def rSortStr : List V → Hp → VK → Prop := fun xs H Q => ∃ (a : Addr) (ss : List Str), xs = [.ref a] ∧ H a = some (.lst (ss.map V.str)) ∧ ss.length < 64 ∧ ∀ l H2 (ts : List Str), H l = none → Same H H2 → H2 l = some (.lst (ts.map V.str)) → ts.Pairwise leS → ts.Perm ss → Q (.ref l) H2
end
end My
namespace My
open PySem PySem.Spec L2
open PyProof.Rows hiding St
section
variable {prog : Program} {w : World} {A : Around} {E : Value → Shared → Prop} {s : Shared}
def EqIn (prog : Program) (w : World) (A : Around) (s : Shared) (u v : Value) : Prop := ∀ (E : Value → Shared → Prop) (Q : Bool → Shared → Prop), Q true s → wpAny (model prog w) A (eqBool u v) Q E s
theorem EqIn.of {A : Around} {u v : Value} (h : SeqAt.EqAt A s u v true) : EqIn prog w A s u v := fun E Q q => h prog w E Q q
theorem EqIn.refs {a b : Addr} (h : ∀ (E : Value → Shared → Prop) (Q : Value → Shared → Prop), Q (.bool true) s → wpAny (model prog w) A (richCompare .Eq (.ref a) (.ref b)) Q E s) : EqIn prog w A s (.ref a) (.ref b) := fun E Q q => by
 unfold eqBool
 refine wpAny_holding ?_
 refine wpAny_ite_split (fun _ => wpAny_bind (wpAny_rule (wpAny_pure q))) (fun _ => ?_)
 exact wpAny_bind (h E _ (wpAny_truthy_bool q))
theorem rc_tupNe {l b : Addr} {items items2 : Array Value} {Q : Value → Shared → Prop} (hl : s.heap.IsTuple l items) (hb : s.heap.IsTuple b items2) (hz : items.size = items2.size) (hu : A.units < cLine)
  (he : ∀ j (h1 : j < items.size) (h2 : j < items2.size), EqIn prog w A.in1 s items[j] items2[j]) (h : Q (.bool false) s) : wpAny (model prog w) A (richCompare .NotEq (.ref l) (.ref b)) Q E s := by
 obtain ⟨o1, g1, c1, n1, d1⟩ := id hl
 obtain ⟨o2, g2, c2, n2, d2⟩ := id hb
 have t1 : s.TypeIs (.ref l) "tuple" := ⟨o1, g1, c1⟩
 have t2 : s.TypeIs (.ref b) "tuple" := ⟨o2, g2, c2⟩
 refine wpAny_richCompare_same_room (op := .NotEq) t1 t2 F.slot_tuple_ne (wpAny_call_entry F.slot_tuple_ne t1 F.entry_tuple_ne ?_ (F.args_tuple_ne_2 _ _)) hu
 show wpAny _ _ (slotArgs "__ne__" 1 ⟨[.ref l, .ref b], []⟩ >>= _) _ _ s
 refine wpAny_bind (wpAny_pure ?_)
 dsimp only
 refine wpAny_bind (wpAny_isInstance (T := "tuple") (b := true) t2 AutoSeq1.sub_tuple_tuple ?_)
 rw [if_neg (by decide)]
 refine wpAny_bind (wpAny_tupleItemsOf g1 d1 (wpAny_bind (wpAny_tupleItemsOf g2 d2 ?_)))
 refine wpAny_bind (wpAny_forIn_list _ (fun rest b s' => b.1 = none ∧ s' = s ∧ ∃ i, rest = (items.toList.zip items2.toList).drop i) _ ?_ ?_ _ _ ⟨rfl, rfl, 0, rfl⟩)
 ·rintro ⟨y, x⟩ rest b' s' ⟨hb', rfl, i, hi⟩
  have hlt : i < (items.toList.zip items2.toList).length := by
   rcases Nat.lt_or_ge i (items.toList.zip items2.toList).length with h' | h'
   ·exact h'
   ·rw [List.drop_of_length_le h'] at hi; cases hi
  have hlt' := hlt
  rw [List.length_zip, Array.length_toList, Array.length_toList] at hlt'
  have k1 : i < items.size := by omega
  have k2 : i < items2.size := by omega
  rw [List.drop_eq_getElem_cons hlt] at hi
  injection hi with hyx hrest
  have hy : y = items[i] := by have := congrArg Prod.fst hyx; simpa using this
  have hx : x = items2[i] := by have := congrArg Prod.snd hyx; simpa using this
  subst hy hx
  refine wpAny_bind (he i k1 k2 _ _ ?_)
  rw [if_neg (by decide)]
  exact wpAny_pure ⟨rfl, rfl, i + 1, hrest⟩
 ·rintro ⟨b1, b2⟩ s' ⟨hb', rfl, _⟩
  simp only at hb'
  subst hb'
  dsimp only
  refine wpAny_pure ⟨_, rfl, ?_⟩
  rw [show Builtin.Tuple.tupleCompareSizes CmpOp.NotEq items.size items2.size = Value.bool false by rw [hz]; simp [Builtin.Tuple.tupleCompareSizes]]
  exact ⟨(fun z => nomatch z), h⟩
theorem rc_tupEq {l b : Addr} {items items2 : Array Value} {Q : Value → Shared → Prop} (hl : s.heap.IsTuple l items) (hb : s.heap.IsTuple b items2) (hz : items.size = items2.size) (hu : A.units < cLine)
  (he : ∀ j (h1 : j < items.size) (h2 : j < items2.size), EqIn prog w A.in1 s items[j] items2[j]) (h : Q (.bool true) s) : wpAny (model prog w) A (richCompare .Eq (.ref l) (.ref b)) Q E s := by
 obtain ⟨o1, g1, c1, n1, d1⟩ := id hl
 obtain ⟨o2, g2, c2, n2, d2⟩ := id hb
 have t1 : s.TypeIs (.ref l) "tuple" := ⟨o1, g1, c1⟩
 have t2 : s.TypeIs (.ref b) "tuple" := ⟨o2, g2, c2⟩
 refine wpAny_richCompare_same_room (op := .Eq) t1 t2 F.slot_tuple_eq (wpAny_call_entry F.slot_tuple_eq t1 F.entry_tuple_eq ?_ (F.args_tuple_eq_2 _ _)) hu
 show wpAny _ _ (slotArgs "__eq__" 1 ⟨[.ref l, .ref b], []⟩ >>= _) _ _ s
 refine wpAny_bind (wpAny_pure ?_)
 dsimp only
 refine wpAny_bind (wpAny_isInstance (T := "tuple") (b := true) t2 AutoSeq1.sub_tuple_tuple ?_)
 rw [if_neg (by decide)]
 refine wpAny_bind (wpAny_tupleItemsOf g1 d1 (wpAny_bind (wpAny_tupleItemsOf g2 d2 ?_)))
 refine wpAny_bind (wpAny_forIn_list _ (fun rest b s' => b.1 = none ∧ s' = s ∧ ∃ i, rest = (items.toList.zip items2.toList).drop i) _ ?_ ?_ _ _ ⟨rfl, rfl, 0, rfl⟩)
 ·rintro ⟨y, x⟩ rest b' s' ⟨hb', rfl, i, hi⟩
  have hlt : i < (items.toList.zip items2.toList).length := by
   rcases Nat.lt_or_ge i (items.toList.zip items2.toList).length with h' | h'
   ·exact h'
   ·rw [List.drop_of_length_le h'] at hi; cases hi
  have hlt' := hlt
  rw [List.length_zip, Array.length_toList, Array.length_toList] at hlt'
  have k1 : i < items.size := by omega
  have k2 : i < items2.size := by omega
  rw [List.drop_eq_getElem_cons hlt] at hi
  injection hi with hyx hrest
  have hy : y = items[i] := by have := congrArg Prod.fst hyx; simpa using this
  have hx : x = items2[i] := by have := congrArg Prod.snd hyx; simpa using this
  subst hy hx
  refine wpAny_bind (he i k1 k2 _ _ ?_)
  rw [if_neg (by decide)]
  exact wpAny_pure ⟨rfl, rfl, i + 1, hrest⟩
 ·rintro ⟨b1, b2⟩ s' ⟨hb', rfl, _⟩
  simp only at hb'
  subst hb'
  dsimp only
  refine wpAny_pure ⟨_, rfl, ?_⟩
  rw [show Builtin.Tuple.tupleCompareSizes CmpOp.Eq items.size items2.size = Value.bool true by rw [hz]; simp [Builtin.Tuple.tupleCompareSizes]]
  exact ⟨(fun z => nomatch z), h⟩
end
section
variable {X : Cx} {pins : List (Addr × Obj)} {σ : St} {H : Hp} {s : Shared} {a b : Expr} {ta tb : TE} {pos : Pos} {k : Nat}
theorem kv_at {kvs : List (Key × V)} {vs : List (Key × Value)} (r : KV kvs vs) {i : Nat} {kv : Key × V} {k : Key} {v : Value} (h1 : kvs[i]? = some kv) (h2 : vs[i]? = some (k, v)) : kv.1 = k ∧ RelV kv.2 v := by
 induction r generalizing i with
 | nil => simp at h1
 | cons h _ ih =>
  cases i with
  | zero =>
   simp at h1 h2
   subst h1
   subst h2
   exact h
  | succ i => exact ih (by simpa using h1) (by simpa using h2)
inductive EqP (H : Hp) : V → V → Nat → Prop where
 | deep {x y : V} {n : Nat} (h : EqD H x y true n) : EqP H x y n
 | dct {a b : Addr} {ka kb : List (Key × V)} {n : Nat} (ha : Rd H a (.dK ka)) (hb : Rd H b (.dK kb)) (hl : ka.length = kb.length) (h : ∀ (j : Nat) x y, ka[j]? = some x → kb[j]? = some y → x.1 = y.1 ∧ EqD H x.2 y.2 true n) (hN : (ka.map (·.1)).Nodup) : EqP H (.ref a) (.ref b) (n + 2)
 | tup {a b : Addr} {xs ys : List V} {n : Nat} (ha : H a = some (.tup xs)) (hb : H b = some (.tup ys)) (hl : xs.length = ys.length) (h : ∀ (j : Nat) x y, xs[j]? = some x → ys[j]? = some y → EqP H x y n) : EqP H (.ref a) (.ref b) (n + 2)
theorem valueAt_nodup : ∀ {vs : List (Key × Value)} {j : Nat} {k : Key} {y : Value}, (vs.map (·.1)).Nodup → vs[j]? = some (k, y) → valueAt vs k = some y
 | [], j, k, y, _, h => by simp at h
 | (k', y') :: vs, 0, k, y, _, h => by
  simp at h
  obtain ⟨rfl, rfl⟩ := h
  simp [valueAt]
 | (k', y') :: vs, j + 1, k, y, hN, h => by
  rw [List.map_cons, List.nodup_cons] at hN
  have hm : (k, y) ∈ vs := List.mem_of_getElem? (by simpa using h)
  have hne : k' ≠ k := fun e => hN.1 (List.mem_map.mpr ⟨_, hm, e.symm⟩)
  have ih := valueAt_nodup hN.2 (show vs[j]? = some (k, y) by simpa using h)
  unfold valueAt at ih ⊢
  rw [List.find?_cons_of_neg (by simpa using hne)]
  exact ih
theorem hits_of {A : Around} {vb : List (Key × Value)} (hN : (vb.map (·.1)).Nodup) : ∀ {va : List (Key × Value)} (i : Nat), (∀ (j : Nat) k v, va[j]? = some (k, v) → ∃ y, vb[i + j]? = some (k, y) ∧ SeqAt.EqAt A s v y true) → PySem.W.KeqHits A s vb va true
 | [], _, _ => .nil
 | (k, v) :: va, i, h => by
  obtain ⟨y, h1, h2⟩ := h 0 k v rfl
  exact .hit (e := true) (valueAt_nodup hN h1) h2 (hits_of hN (i + 1) fun j k v e => by
   have := h (j + 1) k v e
   rw [show i + 1 + j = i + (j + 1) by omega]
   exact this)
theorem EqP.at (I : Inv X pins σ H s) {x y : V} {n : Nat} (h : EqP H x y n) : ∀ {A : Around} {u v : Value}, RelV x u → RelV y v → A.units + n < cLine → EqIn X.prog X.w A s u v ∧ ((∃ a c, x = .ref a ∧ y = .ref c) →
  (∀ (E : Value → Shared → Prop) (Q : Value → Shared → Prop), Q (.bool true) s → wpAny (model X.prog X.w) A (richCompare .Eq u v) Q E s) ∧ ∀ (E : Value → Shared → Prop) (Q : Value → Shared → Prop), Q (.bool false) s → wpAny (model X.prog X.w) A (richCompare .NotEq u v) Q E s) := by
 induction h with
 | deep h =>
  intro A u v r1 r2 hu
  obtain ⟨z1, z2⟩ := h.at I r1 r2 hu
  exact ⟨.of z1, fun w => ⟨fun E Q q => z2 w _ _ E Q q, fun E Q q => h.neAt I r1 r2 hu w _ _ E Q q⟩⟩
 | @dct a b ka kb n ha hb hl h hN =>
  intro A u v r1 r2 hu
  cases r1
  cases r2
  obtain ⟨_, n1, va, kv1, d1⟩ := dk_rd I.hok ha
  obtain ⟨_, n2, vb, kv2, d2⟩ := dk_rd I.hok hb
  have hkeys : ka.map (·.1) = kb.map (·.1) := List.ext_getElem? fun j => by
   rw [List.getElem?_map, List.getElem?_map]
   by_cases c : j < ka.length
   ·have c2 : j < kb.length := by omega
    rw [List.getElem?_eq_getElem c, List.getElem?_eq_getElem c2]
    exact congrArg some (h j _ _ (List.getElem?_eq_getElem c) (List.getElem?_eq_getElem c2)).1
   ·rw [List.getElem?_eq_none (by omega), List.getElem?_eq_none (by omega)]
  have hNb : (vb.map (·.1)).Nodup := by rw [← kv2.keys, ← hkeys]; exact hN
  have lA : va.length = ka.length := kv1.length.symm
  have lB : vb.length = kb.length := kv2.length.symm
  have hits : ∀ A : Around, A.units + n < cLine → PySem.W.KeqHits A s vb va true := fun A hA => hits_of hNb 0 fun j k v e => by
   have hj : j < ka.length := by rw [← lA]; exact (List.getElem?_eq_some_iff.mp e).1
   have hj2 : j < kb.length := by omega
   obtain ⟨p1, r1⟩ := kv_at kv1 (List.getElem?_eq_getElem hj) e
   obtain ⟨q, e2⟩ : ∃ q, vb[j]? = some q := ⟨_, List.getElem?_eq_getElem (by omega)⟩
   obtain ⟨p2, r2⟩ := kv_at kv2 (List.getElem?_eq_getElem hj2) (show vb[j]? = some (q.1, q.2) from e2)
   obtain ⟨p3, hd⟩ := h j _ _ (List.getElem?_eq_getElem hj) (List.getElem?_eq_getElem hj2)
   refine ⟨q.2, ?_, (hd.at I r1 r2 hA).1⟩
   rw [Nat.zero_add, e2, ← p1, p3, p2]
  have e1 : ∀ (E : Value → Shared → Prop) (Q : Value → Shared → Prop), Q (.bool true) s → wpAny (model X.prog X.w) A (richCompare .Eq (.ref a) (.ref b)) Q E s := fun E Q q =>
   PySem.W.keq_eq (A := A) n1 n2 d1 d2 (by omega) (r := true) (fun _ => hits _ (by show A.units + 1 + n < cLine; omega)) (by rw [show (va.length == vb.length && true) = true by rw [lA, lB, hl]; simp]; exact q)
  refine ⟨EqIn.refs e1, fun _ => ⟨e1, fun E Q q => ?_⟩⟩
  exact PySem.W.keq_ne (A := A) n1 n2 d1 d2 (by omega) (r := true) (fun _ => hits _ (by show A.units + 1 + n < cLine; omega)) (by rw [show (!(va.length == vb.length && true)) = false by rw [lA, lB, hl]; simp]; exact q)
 | @tup a b xs ys n ha hb hl h ih =>
  intro A u v r1 r2 hu
  cases r1
  cases r2
  obtain ⟨its, v1, t1, _⟩ := I.tuple (SqT.of ha)
  obtain ⟨jts, v2, t2, _⟩ := I.tuple (SqT.of hb)
  have he : ∀ j (h1 : j < its.toArray.size) (h2 : j < jts.toArray.size), EqIn X.prog X.w A.in1 s its.toArray[j] jts.toArray[j] := fun j h1 h2 => by
   have k1 : j < xs.length := by rw [v1.length]; simpa using h1
   have k2 : j < ys.length := by rw [v2.length]; simpa using h2
   obtain ⟨u1, q1, w1⟩ := v1.get (List.getElem?_eq_getElem k1)
   obtain ⟨u2, q2, w2⟩ := v2.get (List.getElem?_eq_getElem k2)
   have g1 : its.toArray[j] = u1 := by obtain ⟨hh, this⟩ := List.getElem?_eq_some_iff.mp q1; simpa using this
   have g2 : jts.toArray[j] = u2 := by obtain ⟨hh, this⟩ := List.getElem?_eq_some_iff.mp q2; simpa using this
   rw [g1, g2]
   exact (ih j _ _ (List.getElem?_eq_getElem k1) (List.getElem?_eq_getElem k2) w1 w2 (by show A.units + 1 + n < cLine; omega)).1
  have hz : its.toArray.size = jts.toArray.size := by simp [← v1.length, ← v2.length, hl]
  have e1 : ∀ (E : Value → Shared → Prop) (Q : Value → Shared → Prop), Q (.bool true) s → wpAny (model X.prog X.w) A (richCompare .Eq (.ref a) (.ref b)) Q E s := fun E Q q => rc_tupEq t1 t2 hz (by omega) he q
  exact ⟨EqIn.refs e1, fun _ => ⟨e1, fun E Q q => rc_tupNe t1 t2 hz (by omega) he q⟩⟩
def rEqP : R2 := fun x y H Q => ∃ n a c, x = .ref a ∧ y = .ref c ∧ EqP H x y n ∧ n ≤ 60 ∧ Q (.bl true) H
def rNeP : R2 := fun x y H Q => ∃ n a c, x = .ref a ∧ y = .ref c ∧ EqP H x y n ∧ n ≤ 60 ∧ Q (.bl false) H
theorem op_eqP (hr : Room k X.A) : OpR X (compareOp .Eq) rEqP := by
 intro pins s σ H x y v u Q I rx ry h
 obtain ⟨n, p, c, e1, e2, h, hn, q⟩ := h
 have hu := hr.units
 exact ((h.at I rx ry (by omega)).2 ⟨p, c, e1, e2⟩).1 _ _ ⟨.bl true, H, I, rfl, q⟩
theorem q_eqP (hr : Room k X.A) (ha : QE X a ta) (hb : QE X b tb) : QE X (.Compare a [.Eq] [b] pos) (tOp rEqP ta tb) := ⟨pe_cmpR (op_eqP hr) ha.h hb.h (nomark _)⟩
end
end My
namespace My
open PySem PySem.Spec L2
open PyProof.Rows hiding St
structure BlkM (X : Cx) (ts : List Str) (caps : List Nat) (cs : List Str) (sc : Scope) (cl : List (Str × Addr)) (x : Str) : Prop where
 clos : closureFor sc X.env = pure cl
 kind : sc.kind = .function
 own : ∀ n, cellsFrom n sc.names cl = (x, n) :: cl
 own0 : ∀ n, cellsFrom n sc.names [] = [(x, n)]
 loc : ∀ y ∈ sc.names, y.2 = .local → sc.names.lookup y.1 = some .local
 sub : ∀ y c, cl.lookup y = some c → X.env.cells.lookup y = some c
 has : ∀ y, ((relabel sc X.env).names.lookup y = some .cell ∨ (relabel sc X.env).names.lookup y = some .free) → y = x ∨ ∃ c, cl.lookup y = some c
 len : caps.length = cs.length
 cap : ∀ (k : Nat) i y, caps[k]? = some i → cs[k]? = some y → X.N[i]? = some y ∧ (X.env.kindOf y = some .cell ∨ X.env.kindOf y = some .free)
 capK : ∀ y ∈ cs, (relabel sc X.env).names.lookup y = some .cell ∨ (relabel sc X.env).names.lookup y = some .free
 capX : ∀ y ∈ cs, y ≠ x
section
variable {X : Cx} {pins : List (Addr × Obj)} {σ : St} {H : Hp} {s : Shared} {ts cs : List Str} {caps : List Nat} {sc : Scope} {cl : List (Str × Addr)} {fp : List Addr} {x : Str}
variable {tg it elt : Expr} {pos : Pos} {wi : TI} {g : TG} {te : TE}
end
end My
namespace My
open PySem PySem.Spec L2
open PyProof.Rows hiding St
theorem bits_lt {z : Int} {n : Nat} (hz : z.natAbs < 2 ^ n) : Builtin.Int.intBits z ≤ n := by
 unfold Builtin.Int.intBits
 split
 ·exact Nat.zero_le _
 ·rename_i h0
  have h1 : z.natAbs ≠ 0 := by
   intro q
   apply h0
   have : z = 0 := by omega
   simp [this]
  have := (Nat.log2_lt h1).mpr hz
  omega
section
variable {prog : Program} {w : World} {A : Around} {E : Value → Shared → Prop} {s : Shared}
theorem collect_src {T : String} {r d : Addr} {n : Nat} {Pi : Nat → Value → Prop} {OK : Heap → Prop} {Q : List Value → Shared → Prop} (Ks : PySem.W.KdlSrc prog w T r d n Pi OK) (hh : A.handled = none) (hok : OK s.heap) (hn : n ≤ sizeLine)
  (h : ∀ h' tk (acc : Array Value), (∀ b o, s.heap.get? b = some o → h'.get? b = some o) → ItemsOf Pi acc n → s.heap.objs.size ≤ h'.objs.size → Q acc.toList { s with heap := h', toks := tk }) :
  wpAny (model prog w) A (collect (.ref r)) Q E s := by
 unfold collect
 refine wpAny_bind (wpAny_runValue (codeAny_builtin entry_proto_collect' ?_))
 rw [Around.under_plainId F.plain_proto_collect _]
 show wpAny _ A.in1 (newList [] >>= fun l => again (.builtin "list.__iadd__" ⟨[l, .ref r], []⟩)) _ _ s
 refine wpAny_bind (wpAny_newObj_type ?_)
 refine wpAny_pure ⟨plainId_quiet F.plain_list_iadd _, codeAny_builtin entry_list_iadd' ?_⟩
 rw [Around.under_plainId F.plain_list_iadd _]
 show wpAny _ A.in1 (Builtin.List.listExtendWith (.ref s.heap.objs.size) (.ref r) (.ref s.heap.objs.size)) _ _ _
 have lt := Ks.there _ hok
 have key := PySem.W.kdl_extend (A := A) (s := { s with heap := s.heap.push (listNil 0) })
  (R := fun (q : Result) (s' : Shared) => ∃ (h' : Heap) (tk : Nat) (acc : Array Value) (c' : Nat), q = .ok (.ret (.ref s.heap.objs.size)) ∧ s' = { s with heap := h', toks := tk } ∧ (∀ b o, s.heap.get? b = some o → h'.get? b = some o) ∧
   h'.get? s.heap.objs.size = some { cls := .type "list", dict := none, data := .seq acc c', slots := #[] } ∧ ItemsOf Pi acc n)
  Ks hh (Ks.keep _ _ hok fun b _ o e => Heap.get?_push_of_some _ e) s.heap.objs.size (Nat.ne_of_gt lt.1) (Nat.ne_of_gt lt.2) (.ref s.heap.objs.size) 0 (Heap.get?_push_size _ rfl)
  (fun h' tk acc c' hk g i1 => ⟨h', tk, acc, c', rfl, rfl, fun b o e => hk b o (Nat.ne_of_lt (Heap.lt_size e)) (Heap.get?_push_of_some _ e), g, i1⟩) hn
 refine wpAny_mono key (fun fin s' x => ?_) fun e s' x => ?_
 ·cases fin with
  | done f =>
   obtain ⟨h', tk, acc, c', e, rfl, hk, g, i1⟩ := x
   cases e
   show wpAny _ A (load s.heap.objs.size >>= _) _ _ _
   exact wpAny_bind (wpAny_load g (wpAny_pure (h h' tk acc hk i1 (Nat.le_of_lt (Heap.lt_size g)))))
  | again c₁ =>
   refine ⟨x.1, codeAny_mono x.2 fun q s₂ y => ?_⟩
   obtain ⟨h', tk, acc, c', rfl, rfl, hk, g, i1⟩ := y
   show wpAny _ A (load s.heap.objs.size >>= _) _ _ _
   exact wpAny_bind (wpAny_load g (wpAny_pure (h h' tk acc hk i1 (Nat.le_of_lt (Heap.lt_size g)))))
 ·obtain ⟨_, _, _, _, e', _⟩ := x
  cases e'
end
section
variable {X : Cx} {c d : Expr} {p pos : Pos} {ta : TA}
theorem q_max (hg : Gl X "max") (hm : X.mg "max" = none) (ha : QA X [c, d] ta) (hp : plainE c = true := by rfl) (hq : plainE d = true := by rfl) (hc : X.calm = true := by rfl) :
  QE X (.Call (.Name "max" p) [c, d] [] pos) (tCB (fun xs H Q => ∃ i j, xs = [.int i, .int j] ∧ Q (.int (if j > i then j else i)) H) ta) := ⟨pe_callB (call_max2 hc) hg hm (by decide +kernel) ha.h (by decide) (by decide) (se_cons hp) (by rw [se_cons hq]; rfl)⟩
def rSortD : List V → Hp → VK → Prop := fun xs H Q => ∃ (a : Addr) (kvs : List (Key × V)) (ss : List Str), xs = [.ref a] ∧ Rd H a (.dK kvs) ∧ (kvs.map fun kv => kV kv.1) = ss.map V.str ∧ ss.length < 64 ∧ ∀ l H2 (ts : List Str), H l = none → Same H H2 → H2 l = some (.lst (ts.map V.str)) → ts.Pairwise leS → ts.Perm ss → Q (.ref l) H2
theorem call_sortD (hc : X.calm = true) : CallR X (.builtin "sorted") rSortD := by
 intro pins s σ H xs us Q I r h
 obtain ⟨a, kvs, ss, rfl, e, hss, hl, q⟩ := h
 obtain ⟨u, rfl, ru⟩ := vals1 r
 cases ru
 obtain ⟨z, hd, vs, rel, dd⟩ := dk_rd I.hok e
 obtain ⟨ep, at_⟩ := dd.dictAt
 have hkl : kvs.length = ss.length := by have := congrArg List.length hss; simpa using this
 refine Calls.call_function_entry kind_sorted plain_sorted entry_sorted (args_sorted1 _) ?_
 unfold Builtin.«sorted»
 refine wpAny_bind (m := checkCount "sorted" 1 1 _) (wpAny_pure ?_)
 refine wpAny_bind (collect_src (A := X.A.in1) (PySem.W.kdl_dict hd) (I.ok.hd hc) at_ (by rw [← rel.length]; exact z) fun h' tk acc hk hacc hD => ?_)
 obtain ⟨hs, hacc⟩ := hacc
 have hsz : acc.size = ss.length := by rw [hs, ← rel.length, hkl]
 have hv : Vals (ss.map V.str) acc.toList := by
  rw [← hss]
  refine vals_of ?_ fun i x u e1 e2 => ?_
  ·rw [List.length_map, hkl, Array.length_toList]; exact hsz.symm
  ·obtain ⟨k, x', g1, g2⟩ := hacc i u (by simpa using e2)
   have hi : i < kvs.length := by have := (List.getElem?_eq_some_iff.mp e1).1; simpa using this
   obtain ⟨kv, v, g3, g4⟩ := kv_get rel hi
   rw [g1] at g4
   cases g4
   rw [List.getElem?_map, g3] at e1
   cases e1
   exact kV_of g2
 have hS := vals_strs hv
 have hal : acc.toList.length < 64 := by rw [Array.length_toList, hsz]; exact hl
 refine wpAny_bind (wpAny_newList ?_ (Nat.le_trans (Nat.le_of_lt hal) (by decide)))
 have hoL : (h'.push (seqObj "list" acc.toList.toArray 0)).get? h'.objs.size = some (seqObj "list" acc.toList.toArray 0) := Heap.get?_push_size _ rfl
 refine wpAny_bind (wpAny_holding (wpAny_call_entry slot_list_sort ⟨_, hoL, rfl⟩ entry_list_sort (list_sort_treeK strKind_oneLt hoL hS.keysOf (fun v₁ v₂ rest e => keyKind_strs (by rw [← e]; exact hS)) hal fun st' hp hs' => ⟨_, rfl, ?_⟩) (args_list_sort _)))
 obtain ⟨ts, h1, h2, h3⟩ := sorted_out_str hS hp hs'
 obtain ⟨c, e1⟩ := sorted_at hoL (out := (arrOf st').map (·.2))
 have hf : H h'.objs.size = none := I.hok.fresh hD
 have hol : ts.length ≤ sizeLine := by rw [h2.length_eq]; exact Nat.le_trans (Nat.le_of_lt hl) (by decide)
 refine wpAny_pure ⟨_, rfl, ?_⟩
 exact ⟨.ref h'.objs.size, upd H h'.objs.size (.lst (ts.map V.str)), I.laid (t' := tk) (o := .lst (ts.map V.str)) (fun b o eb => sorted_keep (Nat.ne_of_lt (Nat.lt_of_lt_of_le (Heap.lt_size eb) hD)) (Heap.get?_push_of_some _ (hk b o eb))) hD (show ObjOk X.prog X.w _ _ _ (.lst (ts.map V.str)) from ⟨by simpa using hol, ((arrOf st').map (·.2)).toList, c, strs_vals h1, by rw [Array.toArray_toList]; exact e1⟩), rfl, q _ _ ts hf (same_new hf _) upd_same (sorted_pw h3) h2⟩
theorem q_sortD {e : Expr} {t : TA} (hg : Gl X "sorted") (hm : X.mg "sorted" = none) (ha : QA X [e] t) (hp : plainE e = true := by rfl) (hc : X.calm = true := by rfl) : QE X (.Call (.Name "sorted" p) [e] [] pos) (tCB rSortD t) :=
 ⟨pe_callB (call_sortD hc) hg hm (by decide +kernel) ha.h (by decide) (by decide) (se_cons hp) rfl⟩
end
end My
namespace My
open PySem PySem.Spec L2
open PyProof.Rows hiding St
section
variable {X : Cx} {e : Expr} {t : TA} {p pos : Pos}
def rSumI : List V → Hp → VK → Prop := fun xs H Q => ∃ (a : Addr) (ns : List Int), xs = [.ref a] ∧ H a = some (.lst (ns.map V.int)) ∧ Q (.int ns.sum) H
end
end My
namespace My
open PySem PySem.Spec L2
open PyProof.Rows hiding St
section
variable {X : Cx} {pins : List (Addr × Obj)} {σ : St} {H : Hp} {s : Shared} {a : Addr} {kvs : List (Key × V)}
end
section
variable {X : Cx} {o e f : Expr} {apos cpos : Pos} {td ty tx : TE}
end
end My
namespace My
open PySem PySem.Spec L2
open PyProof.Rows hiding St
section
variable {X : Cx} {a b : Expr} {p2 pos : Pos} {tx tb : TE}
end
end My
namespace My
open PySem PySem.Spec L2
open PyProof.Rows hiding St
def numS (n : Int) : Str := Str.ofString (toString n)
theorem len_cl (a : Str) : a.cps.toList.length = a.length := Array.length_toList
def one (c : Nat) : Str := ⟨#[c]⟩
end My
namespace My
open PySem PySem.Spec L2
open PyProof.Rows hiding St
section
variable {X : Cx} {a b c e e2 : Expr} {es : List Expr} {ta tb tc te te2 to : TE} {t : TA} {o : Expr} {apos cpos p pos p1 p2 p3 : Pos} {k1 : Nat} {c1 : Str}
def rStrI : List V → Hp → VK → Prop := fun xs H Q => ∃ i : Int, xs = [.int i] ∧ i.natAbs.log2 < 1920 ∧ Q (.str (numS i)) H
def rIntX : List V → Hp → VK → Prop := fun xs H Q => ∃ (z : Str) (n : Int), xs = [.str z] ∧ PySem.intText? z = some n ∧ z.length ≤ 640 ∧ Q (.int n) H
def FmtV (x : V) (z : Str) : Prop := (∃ i : Int, x = .int i ∧ i.natAbs.log2 < 1920 ∧ z = numS i) ∨ x = .str z ∧ z.length ≤ 100000
theorem big_le {n : Nat} (h : n ≤ 1000000) : n ≤ sizeLine := Nat.le_trans h (by decide)
theorem FmtV.len {x : V} {z : Str} (h : FmtV x z) : z.length ≤ 100000 := by
 rcases h with ⟨i, rfl, hd, rfl⟩ | ⟨rfl, hl⟩
 ·have l2 := int_text_length_le (k := 1920) (by decide) hd
  unfold numS
  rw [PySem.ofString_length]
  omega
 ·exact hl
def tFs1 (te : TE) : TE := fun σ H Q => te σ H fun x H1 => ∃ z, FmtV x z ∧ Q (.str z) H1
def tFs3 (c : Str) (te te2 : TE) : TE := fun σ H Q => te σ H fun x H1 => ∃ y, FmtV x y ∧ te2 σ H1 fun x2 H2 => ∃ z, FmtV x2 z ∧ Q (.str (y ++ c ++ z)) H2
def rSplit : V → List V → Hp → VK → Prop := fun x vs H Q => ∃ (z : Str) (d : Nat), x = .str z ∧ vs = [.str (one d)] ∧ z.length ≤ 100000 ∧ ∀ l H2, H l = none → Same H H2 → H2 l = some (.lst ((Txt.split z (one d)).map V.str)) → Q (.ref l) H2
def rStarts : V → List V → Hp → VK → Prop := fun x vs H Q => ∃ z y, x = .str z ∧ vs = [.str y] ∧ Q (.bl (Txt.startswith z y)) H
def rInX : R2 := fun x y H Q => ∃ (d : Nat) (z : Str), x = .str (one d) ∧ y = .str z ∧ Q (.bl (decide (d ∈ z.cps.toList))) H
theorem op_inX : OpR X (compareOp .In) rInX := by
 intro pins s σ H x y v u Q I rx ry h
 obtain ⟨d, z, rfl, rfl, q⟩ := h
 refine op_in_str pins s σ H _ _ v u Q I rx ry ⟨one d, z, rfl, rfl, ?_⟩
 rw [show one d = ⟨#[d]⟩ from rfl, StrLaws.found_one]
 exact q
theorem q_inX (ha : QE X a ta) (hb : QE X b tb) (hm : behindInMarks .In b = false := by with_unfolding_all rfl) : QE X (.Compare a [.In] [b] pos) (tOp rInX ta tb) := ⟨pe_cmpR op_inX ha.h hb.h hm⟩
theorem q_gstr {x z : Str} {tk : Tok} (hg : Gl X x) (hm : X.mg x = some (.str z tk)) (hd : (x == ("__debug__" : Str)) = false := by decide) : QE X (.Name x pos) (tC (.str z)) := ⟨pe_glob hg hm ⟨_, rfl⟩ hd⟩
theorem q_lenX (hg : Gl X "len") (hm : X.mg "len" = none) (ha : QA X (e :: es) t) (hp : (e :: es).all plainE = true := by rfl) :
  QE X (.Call (.Name "len" p) (e :: es) [] pos) (tCB (fun xs H Q => ∃ z, xs = [.str z] ∧ z.length ≤ sizeLine ∧ Q (.int z.length) H) t) := ⟨pe_cB call_len_str hg hm PySem.boot_len ha.h hp⟩
def rAllB : List V → Hp → VK → Prop := fun xs H Q => ∃ (a : Addr) (bs : List Bool), xs = [.ref a] ∧ H a = some (.lst (bs.map V.bl)) ∧ Q (.bl (bs.all id)) H
theorem vals_bools : ∀ {bs : List Bool} {us : List Value}, Vals (bs.map V.bl) us → us = bs.map Value.bool
 | [], us, h => by cases h; rfl
 | b :: bs, us, h => by
  cases h with
  | cons h1 h2 =>
   cases h1
   rw [vals_bools h2]
   rfl
theorem all_rngB {bs : List Bool} : (List.range bs.length).all (fun i => bs.getD i false) = bs.all id := by
 rw [Bool.eq_iff_iff, List.all_eq_true, List.all_eq_true]
 constructor
 ·intro h x hx
  obtain ⟨i, hi⟩ := List.getElem?_of_mem hx
  have := h i (List.mem_range.mpr (List.getElem?_eq_some_iff.mp hi).1)
  rw [List.getD_eq_getElem?_getD, hi] at this
  exact this
 ·intro h i hi
  have hi' := List.mem_range.mp hi
  rw [List.getD_eq_getElem?_getD, List.getElem?_eq_getElem hi']
  exact h _ (List.getElem_mem hi')
theorem call_allB (hc : X.calm = true) : CallR X (.builtin "all") rAllB := by
 intro pins s σ H xs us Q I r h
 obtain ⟨a, bs, rfl, e, q⟩ := h
 obtain ⟨u, rfl, ru⟩ := vals1 r
 cases ru
 obtain ⟨_, its, n, hv, g⟩ := I.hok a _ e
 have ei := vals_bools hv
 subst ei
 have hL : s.heap.IsList a (bs.map Value.bool).toArray := ⟨_, g, rfl, n, by simp⟩
 refine call_all_walk (wpAny_pyIter_list hL ?_)
 have hn : a ≠ s.heap.objs.size := Nat.ne_of_lt (Heap.lt_size g)
 refine ⟨_, _, _, _, _, _, fun i => bs.getD i false, rfl, Walks.list (A := X.A.in1) (I.ok.hd hc) _ a hn (bs.map Value.bool).toArray, ?_, ?_, fun h' tk hk => ?_⟩
 ·exact ⟨⟨_, Heap.get?_push_size _ rfl, rfl, rfl⟩, ⟨_, Heap.get?_push_of_some _ g, rfl, n, by simp⟩⟩
 ·intro i v s1 Q1 E1 hP hQ
  have : v = Value.bool (bs.getD i false) := by
   have hP' : (bs.map Value.bool).toArray[i]? = some v := hP
   rw [List.getElem?_toArray, List.getElem?_map] at hP'
   rw [List.getD_eq_getElem?_getD]
   cases hb : bs[i]? with
   | none => rw [hb] at hP'; cases hP'
   | some b => rw [hb] at hP'; cases hP'; rfl
  subst this
  exact wpAny_truthy_bool hQ
 ·rw [show (bs.map Value.bool).toArray.size = bs.length by simp, all_rngB]
  exact ⟨.bl (bs.all id), H, I.kept (old_kept hk), rfl, q⟩
theorem q_allB (hg : Gl X "all") (hm : X.mg "all" = none) (ha : QA X [e] t) (hp : plainE e = true := by rfl) (hc : X.calm = true := by rfl) : QE X (.Call (.Name "all" p) [e] [] pos) (tCB rAllB t) :=
 ⟨pe_callB (call_allB hc) hg hm (by decide +kernel) ha.h (by decide) (by decide) (se_cons hp) rfl⟩
end
def Itx (z : Str) : It := ⟨fun i _ => i < z.cps.toList.length, fun i H x H' => H' = H ∧ ∃ d, z.cps.toList[i]? = some d ∧ x = .str (one d), fun i _ => z.cps.toList.length ≤ i⟩
theorem turn_text {P : Program} {w : World} {K : PySem.W.Frag} {tg : Expr} (it : Addr) (z : Str) (t : Tok) : Turn P w K tg (Itx z) [it] it (fun i h => h.IsStrIter it "str_ascii_iterator" z t i) where
 mem := by simp
 obj := fun i h st b hb => by
  have e : b = it := by simpa using hb
  subst e
  obtain ⟨o, e, c, d⟩ := st
  exact ⟨o, e, fun v z => by rw [d] at z; cases z⟩
 keep := fun i h h' st k => let ⟨o, ho, r⟩ := st; ⟨o, k it (by simp) o ho, r⟩
 item := by
  intro X hP hw hK hc i pins s σ H E I hf st hg
  subst hP hw hK
  obtain ⟨f0, f1, f2, f3, f4, f5⟩ := hf it (by simp)
  have hg2 : i < z.cps.toList.length := hg
  have hg' : i < z.cps.size := by simpa using hg2
  refine wpAny_pyNext_ascii_item st (c := z.cps[i]) (by simp [hg']) fun h' st' sb => ?_
  have I1 : Inv X pins σ H { s with heap := h', toks := s.toks + 1 } := I.turned (fun b o hb e => (sb.2 b hb).trans e) f0 f1 f3 f4 f5
  obtain ⟨o, e, c, d⟩ := id st'
  exact ⟨_, rfl, go_of (s := { s with heap := h', toks := s.toks + 1 }) e c d (by decide) ⟨.str (one z.cps[i]), H, I1, ⟨_, rfl⟩, ⟨rfl, _, by simp [hg'], rfl⟩, st', fun b hb => (hf b hb).1⟩⟩
 done := by
  intro X hP hw hK hc i pins s σ H E I hf st hg
  subst hP hw hK
  obtain ⟨f0, f1, f2, f3, f4, f5⟩ := hf it (by simp)
  have hg' : z.cps.toList.length ≤ i := hg
  exact wpAny_pyNext_ascii_end (I.ok.hd hc) st (by simp at hg' ⊢; omega) fun h' eb => ⟨rfl, I.turned (t' := s.toks) (fun b o hb e => eb b o hb e) f0 f1 f3 f4 f5⟩
 self := fun _ _ _ _ _ st h => wpAny_pyIter_striter_ascii st h
section
variable {X : Cx} {tg l : Expr} {tl : TE}
def iTxt (tl : TE) : TI := fun σ H R => tl σ H fun x H1 => ∃ z, x = .str z ∧ (∀ d ∈ z.cps.toList, d < 128) ∧ R (Itx z) H1
theorem i_txt (hl : QE X l tl) : QI X tg l (iTxt tl) := ⟨by
 intro pins s σ H R I h
 refine thn (hl.h pins s σ H _ I h) fun v s1 ⟨x, H1, I1, r1, q1⟩ => ?_
 obtain ⟨z, e, ha, q⟩ := q1
 subst e
 obtain ⟨t, rfl⟩ := r1
 have hall : z.cps.all (· < 128) = true := by
  rw [Array.all_eq_true_iff_forall_mem]
  intro d hd
  exact decide_eq_true (ha d (by simpa using hd))
 refine wpAny_pyIter_ascii hall ?_
 refine ⟨s1.heap.objs.size, [s1.heap.objs.size], _, _, H1, rfl, I1.kept (t' := s1.toks) fun b o e => Heap.get?_push_of_some _ e, turn_text _ z t, ⟨_, Heap.get?_push_size _ rfl, rfl, rfl⟩, fun b hb => ?_, q⟩
 have e : b = s1.heap.objs.size := by simpa using hb
 subst e
 exact I1.fpOk (Nat.le_refl _) (I1.hok.fresh (Nat.le_refl _))⟩
end
section
variable {X : Cx} {a b c e : Expr} {es : List Expr} {ta tb tc : TE} {t : TA} {p pos : Pos}
theorem t_leLe (ha : QE X a ta) (hb : QE X b tb) (hc : QE X c tc) (hm : lastMarks [CmpOp.LtE, CmpOp.LtE] [b, c] = false := by with_unfolding_all rfl) : QT X (.Compare a [.LtE, .LtE] [b, c] pos) (tTest (tChain (rI0 fun i j => .bl (decide (i ≤ j))) (rI0 fun i j => .bl (decide (i ≤ j))) ta tb tc)) := ⟨pt_chain op_le op_le ha.h hb.h hc.h hm⟩
structure OwnCls (K : PySem.W.Frag) (C : Addr) : Prop where
 cl : Cls K C
 a : PySem.W.findIn K (.ref C) "__class__" = some (some (.builtin "object.__class__"))
 b : PySem.W.specialIn K (.builtin "object.__class__") "__get__" = some (some (.builtin "getset_descriptor.__get__"))
 t : PySem.W.takesIn K (.builtin "object.__class__") = some true
 m : PySem.W.mroIn K C (.type "object") = some true
 k : PySem.W.kitOne K (.ref C) (.ref C) = some true
def rInstC (K : PySem.W.Frag) : List V → Hp → VK → Prop := fun xs H Q => ∃ a C dx fs, xs = [.ref a, .ref C] ∧ H a = some (.ins C dx fs) ∧ OwnCls K C ∧ Q (.bl true) H
theorem call_instC : CallR X (.builtin "isinstance") (rInstC X.K) := by
 intro pins s σ H xs us Q I r h
 obtain ⟨a, C, dx, fs, rfl, ha, T, q⟩ := h
 obtain ⟨u, v, rfl, ru, rv⟩ := vals2 r
 cases (show v = Value.ref C from rv)
 exact isinst_ok I ru (.ins ha T.cl T.a T.b T.t T.m) T.k fun tk => ⟨.bl true, H, I.tok tk, rfl, q⟩
theorem q_instC (hg : Gl X "isinstance") (hm : X.mg "isinstance" = none) (ha : QA X (e :: es) t) (hp : (e :: es).all plainE = true := by rfl) : QE X (.Call (.Name "isinstance" p) (e :: es) [] pos) (tCB (rInstC X.K) t) := ⟨pe_cB call_instC hg hm (by rfl) ha.h hp⟩
end
theorem blk_text {z : Str} {nt : Nat} {cp : St} {g : TG} {tt : TT} {te : TE} {H1 : Hp} {Q : VK} (Pv : Addr → Nat → List V → Hp → Prop) (h0 : ∀ acc H2, H1 acc = none → Same H1 H2 → H2 acc = some (.lst []) → Pv acc 0 [] H2)
  (hl : ∀ acc i ys H, H1 acc = none → Pv acc i ys H → H acc = some (.lst ys) ∧ ys.length < 1000000)
  (hs : ∀ acc i d ys H os, H1 acc = none → z.cps.toList[i]? = some d → Pv acc i ys H → os.length = nt → g (.str (one d)) (os ++ cp) H fun τ H3 => ∃ os', os'.length = nt ∧ τ = os' ++ cp ∧ tt τ H3 fun b H4 => if b = true then te τ H4 fun v H5 => H5 acc = some (.lst ys) ∧ Pv acc (i + 1) (ys ++ [v]) (upd H5 acc (.lst (ys ++ [v]))) else Pv acc (i + 1) ys H4)
  (hd : ∀ acc ys H, H1 acc = none → Pv acc z.cps.toList.length ys H → Q (.ref acc) H) : tBlkT nt cp (Itx z) g tt te H1 Q := by
 intro acc H2 hn sm e
 refine ⟨fun i m ys H => m = z.cps.toList.length - i ∧ i ≤ z.cps.toList.length ∧ Pv acc i ys H, ⟨z.cps.toList.length, by simp, Nat.zero_le _, h0 acc H2 hn sm e⟩, ?_⟩
 rintro i m ys H ⟨rfl, hi, p⟩
 obtain ⟨q1, q2⟩ := hl acc i ys H hn p
 refine ⟨q1, ?_⟩
 by_cases hlt : i < z.cps.toList.length
 ·refine .inr ⟨hlt, q2, Pv acc (i + 1), fun ys' H' p' => ⟨z.cps.toList.length - (i + 1), by omega, rfl, hlt, p'⟩, fun os x H' ol y => ?_⟩
  obtain ⟨rfl, d, hy, rfl⟩ := y
  exact hs acc i d ys _ os hn hy p ol
 ·have e : i = z.cps.toList.length := by omega
  subst e
  exact .inl ⟨Nat.le_refl _, hd _ _ _ hn p⟩
end My
namespace My
open PySem PySem.Spec L2
open PyProof.Rows hiding St
section
variable {X : Cx} {o e : Expr} {apos cpos : Pos} {td ty te : TE}
theorem q_dpop (ho : QE X o td) (he : QE X e ty) (m : M1 X o "pop" apos e cpos := by exact ⟨rfl, rfl, rfl, rfl⟩) : QE X (.Call (.Attribute o "pop" apos) [e] [] cpos) (tDPop1 td ty) := ⟨pe_dpop1 ho.h he.h m⟩
def tDClr (td : TE) : TE := fun σ H Q => td σ H fun x H1 => ∃ a kvs, x = .ref a ∧ H1 a = some (.dK kvs) ∧ Q .non (upd H1 a (.dK []))
def tTru (K : PySem.W.Frag) (ta : TE) : TT := fun σ H Q => ta σ H fun x H' => ∃ k, TruV K x H' k ∧ Q k H'
theorem t_tru (ha : QE X e te) (he : ∀ whole, isTrue e X.env whole = (do let v ← whole; standAt e.pos; holding [v] (truthy v)) := by intro _; rfl) : QT X e (tTru X.K te) := ⟨pt_truth ha.h he⟩
end
end My
namespace My
open PySem PySem.Spec L2
open PyProof.Rows hiding St
section
variable {X : Cx} {j k : Nat} {C : Addr} {m : Str} {ps : List Str} {sp : Sp} {pos apos : Pos} {o : Expr} {ta : TE}
end
end My
set_option maxHeartbeats 4000000
namespace My
open PySem L2
theorem scal_ii {i j : Int} : scal (.int i) (.int j) = true := rfl
theorem scal_ss {i j : Str} : scal (.str i) (.str j) = true := rfl
end My
local macro_rules | `(tactic| walk_at "rd") => `(tactic| ((try dsimp only [L2.tSeq, L2.tNext, L2.tRet, L2.tRetN, L2.tIfS, L2.tDrop, L2.tAsg, L2.gName, L2.tVar, L2.tC, L2.tOp, L2.tUn, L2.rI, L2.rI0, L2.rU, L2.rEq, L2.rNe, L2.tTest, L2.tB, L2.tAnd, L2.tOr, L2.tNot, L2.tAndV, L2.tOrV, L2.tNotV, L2.tIf, L2.tCall, L2.tCB, L2.tNil, L2.tCons, My.tTup2, My.tLst2, L2.tPar, My.gTup2, L2.gCons, L2.gNil, My.rIxT2, My.rIxL2, L2.rIxL, L2.rCat, L2.CPow, L2.CMul, L2.CDiv, L2.tBM, L2.rAppend, List.getElem?_cons_zero, List.getElem?_cons_succ, List.set_cons_zero, List.set_cons_succ, List.cons_append, List.nil_append, My.scal_ii, My.scal_ss, Bool.not_true, Bool.not_false, List.length_cons, List.length_nil, My.tApp, My.tMakeX, My.tTry0, My.tHand0, My.tFs, My.tLm0, My.tLm, L2.rReverse, L2.rClear, L2.rPop, L2.rExtend, My.tDG, My.sDP, My.tDI, L2.rIxS, L2.tSl, L2.tNoPart, L2.tPart, My.tXm, My.rFind, My.rJoin, My.rSlX, My.rSortSet, My.rEqP, My.rNeP, My.rSortStr, My.rSortD, My.rSumI, L2.tDGet2, My.rStrI, My.rIntX, My.tFs1, My.tFs3, My.rSplit, My.rStarts, My.rInX, My.rAllB, My.rInstC, L2.tDPop1, My.tDClr, My.tTru, My.tMethX, L2.tChain, L2.gSub, L2.rSetL, L2.tMeth, L2.tMake, L2.tFld, L2.sFld, My.tTry, My.tXE, My.tXS, My.tCallX, My.tRaise]); (try simp only [L2.tSeq, L2.tNext, L2.tRet, L2.tRetN, L2.tIfS, L2.tDrop, L2.tAsg, L2.gName, L2.tVar, L2.tC, L2.tOp, L2.tUn, L2.rI, L2.rI0, L2.rU, L2.rEq, L2.rNe, L2.tTest, L2.tB, L2.tAnd, L2.tOr, L2.tNot, L2.tAndV, L2.tOrV, L2.tNotV, L2.tIf,
 L2.tCall, L2.tCB, L2.tNil, L2.tCons, My.tTup2, My.tLst2, L2.tPar, My.gTup2, L2.gCons, L2.gNil, My.rIxT2, My.rIxL2, L2.rIxL, L2.rCat, L2.CPow, L2.CMul, L2.CDiv, L2.tBM, L2.rAppend,
 List.getElem?_cons_zero, List.getElem?_cons_succ, List.set_cons_zero, List.set_cons_succ, List.append_nil, List.cons_append, List.nil_append, Option.some.injEq, Option.some_inj, exists_eq_left, exists_eq_left', exists_eq_right, exists_eq, exists_eq', exists_and_left, exists_and_right, exists_const,
 L2.V.int.injEq, L2.V.bl.injEq, L2.V.ref.injEq, L2.V.str.injEq, L2.V.ty.injEq, L2.HO.lst.injEq, L2.HO.tup.injEq, reduceCtorEq, List.cons.injEq, and_true, true_and, and_false, false_and, exists_false, or_false, false_or, My.scal_ii, My.scal_ss, Bool.not_true, Bool.not_false, decide_eq_true_eq, Bool.false_eq_true, if_true, if_false, Bool.not_eq_true', decide_eq_false_iff_not, ite_self, ge_iff_le, gt_iff_lt, My.atI0, My.atI1, My.atI2, My.atI3, List.length_cons, List.length_nil, Nat.zero_add, and_assoc, My.tApp, My.tMakeX, My.tTry0, My.tHand0, My.tFs, My.tLm0, My.tLm, L2.rReverse, L2.rClear, L2.rPop, L2.rExtend, My.tDG, My.sDP, My.tDI, L2.rIxS, L2.tSl, L2.tNoPart, L2.tPart, My.tXm, My.rFind, My.rJoin, My.rSlX, My.rSortSet, My.rEqP, My.rNeP, My.rSortStr, My.rSortD, My.rSumI, L2.tDGet2, My.rStrI, My.rIntX, My.tFs1, My.tFs3, My.rSplit, My.rStarts, My.rInX, My.rAllB, My.rInstC, L2.tDPop1, My.tDClr, My.tTru, My.tMethX, L2.tChain, L2.gSub, L2.rSetL, L2.tMeth, L2.tMake, L2.tFld, L2.sFld, My.tTry, My.tXE, My.tXS, My.tCallX, My.tRaise, My.kind_bl, My.kind_int, My.ask_int, My.ask_bool, My.ask_tuple, My.ask_list, My.ask_str, My.isa_bb, My.isa_bi, My.isa_ii, My.isa_ib, My.isa_tt, My.isa_ll, Bool.true_eq_false, Int.reduceToNat, Int.reducePow, Int.reduceLT, Int.reduceLE, Int.reduceNeg, Int.reduceAbs, Int.reduceSub, Int.reduceMul, Nat.reduceLT, Nat.reduceLeDiff, Nat.reducePow, Int.zero_add, true_or, or_true, eq_self])))
namespace My
open PySem PySem.Spec L2
open PyProof.Rows hiding St
def top (i : Nat) : Stmt := PySem.Challenge.pw_roadshare_k72_deeds_refused.main.body.getD i (.Pass ⟨0, 0, 0, 0⟩)
abbrev s_is_whole : Stmt := top 13
theorem sc_is_whole : FnScope ["thing"] ["thing"] (defScope s_is_whole) := ⟨rfl, rfl, rfl, by decide +kernel, rfl, by decide +kernel, by decide +kernel⟩
abbrev s_greatest_divisor : Stmt := top 14
theorem sc_greatest_divisor : FnScope ["one", "other", "larger", "smaller", "rest"] ["one", "other"] (defScope s_greatest_divisor) := ⟨rfl, rfl, rfl, by decide +kernel, rfl, by decide +kernel, by decide +kernel⟩
abbrev s_is_ratio : Stmt := top 16
theorem sc_is_ratio : FnScope ["thing", "top", "bottom"] ["thing"] (defScope s_is_ratio) := ⟨rfl, rfl, rfl, by decide +kernel, rfl, by decide +kernel, by decide +kernel⟩
abbrev s_ratio : Stmt := top 17
theorem sc_ratio : FnScope ["top", "bottom", "divisor"] ["top", "bottom"] (defScope s_ratio) := ⟨rfl, rfl, rfl, by decide +kernel, rfl, by decide +kernel, by decide +kernel⟩
abbrev s_rest_of : Stmt := top 18
theorem sc_rest_of : FnScope ["one", "other"] ["one", "other"] (defScope s_rest_of) := ⟨rfl, rfl, rfl, by decide +kernel, rfl, by decide +kernel, by decide +kernel⟩
abbrev s_is_less : Stmt := top 19
theorem sc_is_less : FnScope ["one", "other"] ["one", "other"] (defScope s_is_less) := ⟨rfl, rfl, rfl, by decide +kernel, rfl, by decide +kernel, by decide +kernel⟩
abbrev s_is_name : Stmt := top 23
theorem sc_is_name : FnScope ["thing"] ["thing"] (defScope s_is_name) := ⟨rfl, rfl, rfl, by decide +kernel, rfl, by decide +kernel, by decide +kernel⟩
abbrev s_is_price : Stmt := top 26
theorem sc_is_price : FnScope ["thing"] ["thing"] (defScope s_is_price) := ⟨rfl, rfl, rfl, by decide +kernel, rfl, by decide +kernel, by decide +kernel⟩
abbrev s_is_road : Stmt := top 27
theorem sc_is_road : FnScope ["thing", "many", "to"] ["thing", "many"] (defScope s_is_road) := ⟨rfl, rfl, rfl, by decide +kernel, rfl, by decide +kernel, by decide +kernel⟩
abbrev s_look_roads : Stmt := top 28
theorem sc_look_roads : FnScope ["thing", "many", "road"] ["thing"] (defScope s_look_roads) := ⟨rfl, rfl, rfl, by decide +kernel, rfl, by decide +kernel, by decide +kernel⟩
abbrev s_way_from : Stmt := top 29
theorem sc_way_from : FnScope ["roads", "k", "way", "place"] ["roads", "k"] (defScope s_way_from) := ⟨rfl, rfl, rfl, by decide +kernel, rfl, by decide +kernel, by decide +kernel⟩
abbrev s_Tree___init__ : Stmt := inClass (top 30) 0
theorem sc_Tree___init__ : FnScope ["self", "roads"] ["self", "roads"] (defScope s_Tree___init__) := ⟨rfl, rfl, rfl, by decide +kernel, rfl, by decide +kernel, by decide +kernel⟩
abbrev s_Tree_roads : Stmt := inClass (top 30) 1
theorem sc_Tree_roads : FnScope ["self"] ["self"] (defScope s_Tree_roads) := ⟨rfl, rfl, rfl, by decide +kernel, rfl, by decide +kernel, by decide +kernel⟩
abbrev s_Tree_many : Stmt := inClass (top 30) 2
theorem sc_Tree_many : FnScope ["self"] ["self"] (defScope s_Tree_many) := ⟨rfl, rfl, rfl, by decide +kernel, rfl, by decide +kernel, by decide +kernel⟩
abbrev s_Tree_leads_to : Stmt := inClass (top 30) 3
theorem sc_Tree_leads_to : FnScope ["self", "k"] ["self", "k"] (defScope s_Tree_leads_to) := ⟨rfl, rfl, rfl, by decide +kernel, rfl, by decide +kernel, by decide +kernel⟩
abbrev s_Tree_price : Stmt := inClass (top 30) 4
theorem sc_Tree_price : FnScope ["self", "k"] ["self", "k"] (defScope s_Tree_price) := ⟨rfl, rfl, rfl, by decide +kernel, rfl, by decide +kernel, by decide +kernel⟩
abbrev s_Tree_look_crossing : Stmt := inClass (top 30) 7
theorem sc_Tree_look_crossing : FnScope ["self", "k"] ["self", "k"] (defScope s_Tree_look_crossing) := ⟨rfl, rfl, rfl, by decide +kernel, rfl, by decide +kernel, by decide +kernel⟩
abbrev s_Tree_look_road : Stmt := inClass (top 30) 8
theorem sc_Tree_look_road : FnScope ["self", "k"] ["self", "k"] (defScope s_Tree_look_road) := ⟨rfl, rfl, rfl, by decide +kernel, rfl, by decide +kernel, by decide +kernel⟩
abbrev s_look_price : Stmt := top 33
theorem sc_look_price : FnScope ["price"] ["price"] (defScope s_look_price) := ⟨rfl, rfl, rfl, by decide +kernel, rfl, by decide +kernel, by decide +kernel⟩
abbrev s_look_room : Stmt := top 34
theorem sc_look_room : FnScope ["tree"] ["tree"] (defScope s_look_room) := ⟨rfl, rfl, rfl, by decide +kernel, rfl, by decide +kernel, by decide +kernel⟩
abbrev s_with_road : Stmt := top 35
theorem sc_with_road : FnScope ["tree", "k", "road", "roads"] ["tree", "k", "road"] (defScope s_with_road) := ⟨rfl, rfl, rfl, by decide +kernel, rfl, by decide +kernel, by decide +kernel⟩
abbrev s_with_one_more : Stmt := top 36
theorem sc_with_one_more : FnScope ["tree", "road"] ["tree", "road"] (defScope s_with_one_more) := ⟨rfl, rfl, rfl, by decide +kernel, rfl, by decide +kernel, by decide +kernel⟩
abbrev s_Shire___init__ : Stmt := inClass (top 37) 0
theorem sc_Shire___init__ : FnScope ["self", "tree"] ["self", "tree"] (defScope s_Shire___init__) := ⟨rfl, rfl, rfl, by decide +kernel, rfl, by decide +kernel, by decide +kernel⟩
abbrev s_Shire_come : Stmt := inClass (top 37) 1
theorem sc_Shire_come : FnScope ["self", "name", "k"] ["self", "name", "k"] (defScope s_Shire_come) := ⟨rfl, rfl, rfl, by decide +kernel, rfl, by decide +kernel, by decide +kernel⟩
abbrev s_Shire_go : Stmt := inClass (top 37) 2
theorem sc_Shire_go : FnScope ["self", "name", "places"] ["self", "name"] (defScope s_Shire_go) := ⟨rfl, rfl, rfl, by decide +kernel, rfl, by decide +kernel, by decide +kernel⟩
abbrev s_Shire_move : Stmt := inClass (top 37) 3
theorem sc_Shire_move : FnScope ["self", "name", "k"] ["self", "name", "k"] (defScope s_Shire_move) := ⟨rfl, rfl, rfl, by decide +kernel, rfl, by decide +kernel, by decide +kernel⟩
abbrev s_Shire_reprice : Stmt := inClass (top 37) 4
theorem sc_Shire_reprice : FnScope ["self", "k", "price"] ["self", "k", "price"] (defScope s_Shire_reprice) := ⟨rfl, rfl, rfl, by decide +kernel, rfl, by decide +kernel, by decide +kernel⟩
abbrev s_Shire_cut : Stmt := inClass (top 37) 5
theorem sc_Shire_cut : FnScope ["self", "k", "price", "whole", "fresh", "longer"] ["self", "k", "price"] (defScope s_Shire_cut) := ⟨rfl, rfl, rfl, by decide +kernel, rfl, by decide +kernel, by decide +kernel⟩
abbrev s_Shire_build : Stmt := inClass (top 37) 6
theorem sc_Shire_build : FnScope ["self", "to", "price", "fresh"] ["self", "to", "price"] (defScope s_Shire_build) := ⟨rfl, rfl, rfl, by decide +kernel, rfl, by decide +kernel, by decide +kernel⟩
abbrev s_Shire_back : Stmt := inClass (top 37) 7
theorem sc_Shire_back : FnScope ["self", "ahead"] ["self"] (defScope s_Shire_back) := ⟨rfl, rfl, rfl, by decide +kernel, rfl, by decide +kernel, by decide +kernel⟩
abbrev s_Shire_tree : Stmt := inClass (top 37) 8
theorem sc_Shire_tree : FnScope ["self"] ["self"] (defScope s_Shire_tree) := ⟨rfl, rfl, rfl, by decide +kernel, rfl, by decide +kernel, by decide +kernel⟩
abbrev s_Shire_homes : Stmt := inClass (top 37) 9
theorem sc_Shire_homes : FnScope ["self"] ["self"] (defScope s_Shire_homes) := ⟨rfl, rfl, rfl, by decide +kernel, rfl, by decide +kernel, by decide +kernel⟩
abbrev s_Shire_look_village : Stmt := inClass (top 37) 13
theorem sc_Shire_look_village : FnScope ["self", "name"] ["self", "name"] (defScope s_Shire_look_village) := ⟨rfl, rfl, rfl, by decide +kernel, rfl, by decide +kernel, by decide +kernel⟩
abbrev s_Shire_place : Stmt := inClass (top 37) 14
theorem sc_Shire_place : FnScope ["self", "name", "k", "places"] ["self", "name", "k"] (defScope s_Shire_place) := ⟨rfl, rfl, rfl, by decide +kernel, rfl, by decide +kernel, by decide +kernel⟩
abbrev s_Shire_do : Stmt := inClass (top 37) 15
theorem sc_Shire_do : FnScope ["self", "land", "places"] ["self", "land", "places"] (defScope s_Shire_do) := ⟨rfl, rfl, rfl, by decide +kernel, rfl, by decide +kernel, by decide +kernel⟩
abbrev s_law_cell_at : Stmt := top 39
theorem sc_law_cell_at : FnScope ["_law_script", "_law_k"] ["_law_script", "_law_k"] (defScope s_law_cell_at) := ⟨rfl, rfl, rfl, by decide +kernel, rfl, by decide +kernel, by decide +kernel⟩
abbrev s_law_whole : Stmt := top 40
theorem sc_law_whole : FnScope ["_law_found"] ["_law_found"] (defScope s_law_whole) := ⟨rfl, rfl, rfl, by decide +kernel, rfl, by decide +kernel, by decide +kernel⟩
abbrev s_law_divisor : Stmt := top 41
theorem sc_law_divisor : FnScope ["_law_one", "_law_other"] ["_law_one", "_law_other"] (defScope s_law_divisor) := ⟨rfl, rfl, rfl, by decide +kernel, rfl, by decide +kernel, by decide +kernel⟩
abbrev s_law_low : Stmt := top 42
theorem sc_law_low : FnScope ["_law_top", "_law_bottom", "_law_part"] ["_law_top", "_law_bottom"] (defScope s_law_low) := ⟨rfl, rfl, rfl, by decide +kernel, rfl, by decide +kernel, by decide +kernel⟩
abbrev s_law_numbers : Stmt := top 43
theorem sc_law_numbers : FnScope ["_law_cell", "_law_many", "_law_found", "_law_rest", "_law_k", "_law_one"] ["_law_cell", "_law_many"] (defScope s_law_numbers) := ⟨rfl, rfl, rfl, by decide +kernel, rfl, by decide +kernel, by decide +kernel⟩
abbrev s_law_name : Stmt := top 44
theorem sc_law_name : FnScope ["_law_k", "_law_seed", "_law_letters", "_law_size", "_law_spot", "_law_word_here", "_law_place", "_law_at"] ["_law_k", "_law_seed"] (defScope s_law_name) := ⟨rfl, rfl, rfl, by decide +kernel, rfl, by decide +kernel, by decide +kernel⟩
abbrev s_law_price_by : Stmt := top 45
theorem sc_law_price_by : FnScope ["_law_v", "_law_wide", "_law_cell", "_law_top"] ["_law_v", "_law_wide", "_law_cell"] (defScope s_law_price_by) := ⟨rfl, rfl, rfl, by decide +kernel, rfl, by decide +kernel, by decide +kernel⟩
abbrev s_law_roads_by : Stmt := top 46
theorem sc_law_roads_by : FnScope ["_law_cell", "_law_most", "_law_xs", "_law_many", "_law_wide", "_law_turn", "_law_roads", "_law_k", "_law_to"] ["_law_cell", "_law_most"] (defScope s_law_roads_by) := ⟨rfl, rfl, rfl, by decide +kernel, rfl, by decide +kernel, by decide +kernel⟩
abbrev s_law_deed_by : Stmt := top 47
theorem sc_law_deed_by : FnScope ["_law_v", "_law_roads", "_law_homes", "_law_k", "_law_names", "_law_way", "_law_price", "_law_at", "_law_whole_here"] ["_law_v", "_law_roads", "_law_homes", "_law_k"] (defScope s_law_deed_by) := ⟨rfl, rfl, rfl, by decide +kernel, rfl, by decide +kernel, by decide +kernel⟩
abbrev s_law_done : Stmt := top 48
theorem sc_law_done : FnScope ["_law_deed", "_law_roads", "_law_homes", "_law_to", "_law_whole_here", "_law_part", "_law_rest"] ["_law_deed", "_law_roads", "_law_homes"] (defScope s_law_done) := ⟨rfl, rfl, rfl, by decide +kernel, rfl, by decide +kernel, by decide +kernel⟩
abbrev s_law_do : Stmt := top 49
theorem sc_law_do : FnScope ["_law_shire", "_law_deed"] ["_law_shire", "_law_deed"] (defScope s_law_do) := ⟨rfl, rfl, rfl, by decide +kernel, rfl, by decide +kernel, by decide +kernel⟩
abbrev s_law_stands : Stmt := top 50
theorem sc_law_stands : FnScope ["_law_shire", "_law_roads", "_law_homes", "_law_tree", "_law_told"] ["_law_shire", "_law_roads", "_law_homes"] (defScope s_law_stands) := ⟨rfl, rfl, rfl, by decide +kernel, rfl, by decide +kernel, by decide +kernel⟩
abbrev s_law_bad_name : Stmt := top 51
theorem sc_law_bad_name : FnScope ["_law_v", "_law_homes", "_law_some", "_law_names"] ["_law_v", "_law_homes"] (defScope s_law_bad_name) := ⟨rfl, rfl, rfl, by decide +kernel, rfl, by decide +kernel, by decide +kernel⟩
abbrev s_law_bad_price : Stmt := top 52
theorem sc_law_bad_price : FnScope ["_law_v", "_law_whole_here", "_law_some"] ["_law_v", "_law_whole_here"] (defScope s_law_bad_price) := ⟨rfl, rfl, rfl, by decide +kernel, rfl, by decide +kernel, by decide +kernel⟩
abbrev s_law_faulty : Stmt := top 53
theorem sc_law_faulty : FnScope ["_law_v", "_law_roads", "_law_homes", "_law_many", "_law_far", "_law_place", "_law_road", "_law_whole_here", "_law_price"] ["_law_v", "_law_roads", "_law_homes"] (defScope s_law_faulty) := ⟨rfl, rfl, rfl, by decide +kernel, rfl, by decide +kernel, by decide +kernel⟩
abbrev s_law_is_price : Stmt := top 54
theorem sc_law_is_price : FnScope ["_law_price"] ["_law_price"] (defScope s_law_is_price) := ⟨rfl, rfl, rfl, by decide +kernel, rfl, by decide +kernel, by decide +kernel⟩
abbrev s_law_is_name : Stmt := top 55
theorem sc_law_is_name : FnScope ["_law_name_here"] ["_law_name_here"] (defScope s_law_is_name) := ⟨rfl, rfl, rfl, by decide +kernel, rfl, by decide +kernel, by decide +kernel⟩
abbrev s_law_due : Stmt := top 56
theorem sc_law_due : FnScope ["_law_deed", "_law_roads", "_law_homes", "_law_many", "_law_whole_here"] ["_law_deed", "_law_roads", "_law_homes"] (defScope s_law_due) := ⟨rfl, rfl, rfl, by decide +kernel, rfl, by decide +kernel, by decide +kernel⟩
abbrev s_law_word : Stmt := top 57
theorem sc_law_word : FnScope ["_law_e", "_law_kinds"] ["_law_e"] (defScope s_law_word) := ⟨rfl, rfl, rfl, by decide +kernel, rfl, by decide +kernel, by decide +kernel⟩
abbrev s_law_got : Stmt := top 58
theorem sc_law_got : FnScope ["_law_shire", "_law_deed", "_law_e"] ["_law_shire", "_law_deed"] (defScope s_law_got) := ⟨rfl, rfl, rfl, by decide +kernel, rfl, by decide +kernel, by decide +kernel⟩
abbrev s_law_filled : Stmt := top 59
theorem sc_law_filled : FnScope ["_law_shire", "_law_roads", "_law_homes", "_law_cell", "_law_deeds", "_law_k", "_law_deed"] ["_law_shire", "_law_roads", "_law_homes", "_law_cell"] (defScope s_law_filled) := ⟨rfl, rfl, rfl, by decide +kernel, rfl, by decide +kernel, by decide +kernel⟩
abbrev s_law : Stmt := top 60
theorem sc_law : FnScope ["_law_script", "_law_roads", "_law_shire", "_law_homes", "_law_k", "_law_deed", "_law_cell", "_law_ahead", "_law_due_here"] ["_law_script"] (defScope s_law) := ⟨rfl, rfl, rfl, by decide +kernel, rfl, by decide +kernel, by decide +kernel⟩
theorem if_go {c : TT} {a b : TS} {D : Ends} {σ : St} {H : Hp} (h : ∀ A : St → Hp → Prop, A = a D → ∀ B : St → Hp → Prop, B = b D → c σ H fun x H1 => if x = true then A σ H1 else B σ H1) : tIfS c a b D σ H := h _ rfl _ rfl
theorem seq_go {a b : TS} {D : Ends} {σ : St} {H : Hp} (h : ∀ B : St → Hp → Prop, B = b D → a { D with nx := B } σ H) : tSeq a b D σ H := h _ rfl
def isW : V → Bool
 | .int _ => true
 | _ => false
def Th0 (H : Hp) (x : V) : Prop := ∃ t, kindV H x = some t
def sp_whole : Sp := fun vs H Q _ => ∃ x, vs = [x] ∧ Th0 H x ∧ Q (.bl (isW x)) H
def sp_gcd : Sp := fun vs H Q _ => ∃ a b : Int, vs = [.int a, .int b] ∧ Q (.int (Int.gcd a b)) H
def sp_cell (K : PySem.W.Frag) : Sp := fun vs H Q _ => ∃ (a : Addr) (ns : List Int) (k : Nat), vs = [.ref a, .int k] ∧ SqL K H a (ns.map V.int) ∧ Q (.int (cellOf ns k)) H
section
variable {P : Program} {w : World} {K : PySem.W.Frag} {mg : Str → Option Value} {base : Heap} {f : Addr} {fd : FuncData}
theorem isW_kind {H : Hp} {x : V} {t : String} (e : kindV H x = some t) : (isA t "int" && !isA t "bool") = isW x := by
 unfold kindV at e
 split at e
 ·cases e; rfl
 ·cases e; rfl
 ·cases e; rfl
 ·cases e; rfl
 ·split at e
  ·cases e; rfl
  ·cases e; rfl
  ·cases e; rfl
  ·cases e
 ·cases e
theorem ok_is_whole (F : Fun K "is_whole" "is_whole" s_is_whole f fd) (n_isinstance : mg "isinstance" = none) (n_int : mg "int" = none) (n_bool : mg "bool" = none) :
  FnOk P w K mg base CX0 1 f fd ["thing"] sp_whole := by
 refine okQ F sc_is_whole (fun vs H Q E h => ?_) (fun cdv A outer s H vs Q E hr h => ?_)
 ·obtain ⟨x, rfl, _⟩ := h; rfl
 obtain ⟨x, rfl, ⟨t, ht⟩, q⟩ := h
 refine ⟨_, (b_one (s_ret (q_and (q_inst rfl n_isinstance (a_c (q_v 0) (a_c (q_ty rfl n_int rfl) a_nil))) (q_one (q_not (q_inst rfl n_isinstance (a_c (q_v 0) (a_c (q_ty rfl n_bool rfl) a_nil)))))))), ?_⟩
 rw [show start ["thing"] [x] = [some (x)] from rfl]
 rw [← isW_kind ht] at q
 refine ⟨_, rfl, x, "int", t, rfl, ht, by decide, _, rfl, ?_⟩
 refine ite2 (fun c => ?_) (fun c => ?_)
 ·refine ⟨_, rfl, x, "bool", t, rfl, ht, by decide, _, rfl, ?_⟩
  rw [c] at q
  exact q
 ·rw [Bool.eq_false_iff.mpr c] at q
  exact q
def Pg (a b : Int) (H : Hp) (σ : St) (H' : Hp) : Prop := ∃ (l m : Int) (r : Option V), σ = [some (.int a), some (.int b), some (.int l), some (.int m), r] ∧ H' = H ∧ 0 ≤ l ∧ 0 ≤ m ∧ Int.gcd l m = Int.gcd a b
theorem ok_gcd (F : Fun K "greatest_divisor" "greatest_divisor" s_greatest_divisor f fd) (n_abs : mg "abs" = none) :
  FnOk P w K mg base CX0 1 f fd ["one", "other"] sp_gcd := by
 refine okQ F sc_greatest_divisor (fun vs H Q E h => ?_) (fun cdv A outer s H vs Q E hr h => ?_)
 ·obtain ⟨a, b, rfl, _⟩ := h; rfl
 obtain ⟨a, b, rfl, q⟩ := h
 refine ⟨_, (b_cons (s_set 2 sc_greatest_divisor.nd (q_abs rfl n_abs (a_c (q_v 0) a_nil)))
   (b_cons (s_set 3 sc_greatest_divisor.nd (q_abs rfl n_abs (a_c (q_v 1) a_nil)))
   (b_cons (s_while PassesOwn.never (t_ne (q_v 3) q_int) (b_cons (s_set 4 sc_greatest_divisor.nd (q_mod (q_v 2) (q_v 3)))
   (b_cons (s_set 2 sc_greatest_divisor.nd (q_v 3))
   (b_one (s_set 3 sc_greatest_divisor.nd (q_v 4))))))
   (b_one (s_ret (q_v 2)))))), ?_⟩
 rw [show start ["one", "other", "larger", "smaller", "rest"] [.int a, .int b] = [some (.int a), some (.int b), none, none, none] from rfl]
 walk_at "rd"
 simp only [abs_ite]
 refine while_w (Pg a b H) (fun σ _ => (slotI σ 3).toNat) ⟨_, _, none, rfl, rfl, by omega, by omega, gcd_abs a b⟩ ?_
 rintro σ H' ⟨l, m, r, rfl, rfl, hl, hm, hg⟩
 walk_at "rd"
 refine ite2 (fun c => ?_) (fun c => ?_)
 ·have hm' : 0 < m := by omega
  refine ⟨_, fun σ' H' z => z, hm', _, ?_, rfl, m, l % m, some (.int (l % m)), rfl, rfl, hm, Int.emod_nonneg _ (by omega), ?_⟩
  ·exact emod_lt_nat hm'
  ·rw [gcd_turn]; exact hg
 ·have e : m = 0 := by omega
  subst e
  have e2 : (Int.gcd a b : Int) = l := by rw [← hg]; simp; omega
  rw [e2] at q
  exact q
theorem ok_cell (F : Fun K "_law_cell_at" "_law_cell_at" s_law_cell_at f fd) (n_len : mg "len" = none) :
  FnOk P w K mg base CX0 1 f fd ["_law_script", "_law_k"] (sp_cell K) := by
 refine okQ F sc_law_cell_at (fun vs H Q E h => ?_) (fun cdv A outer s H vs Q E hr h => ?_)
 ·obtain ⟨a, ns, k, rfl, _⟩ := h; rfl
 obtain ⟨a, ns, k, rfl, hS, q⟩ := h
 refine ⟨_, (b_cons (s_if (t_lt (q_v 1) (q_lenS rfl n_len (a_c (q_v 0) a_nil))) (b_one (s_ret (q_ixS (q_v 0) (q_v 1)))) b_nil)
   (b_one (s_ret (q_add (q_mul q_int (q_v 1)) q_int)))), ?_⟩
 rw [show start ["_law_script", "_law_k"] [.ref a, .int k] = [some (.ref a), some (.int k)] from rfl]
 walk_at "rd"
 refine ⟨_, .inl hS, ?_⟩
 rw [List.length_map]
 refine ite2 (fun c => ?_) (fun c => ?_)
 ·exact ⟨_, hS, _, cell_in (by omega), q⟩
 ·rw [cell_out (by omega)] at q
  exact q
theorem th0_int {H : Hp} (i : Int) : Th0 H (.int i) := ⟨"int", rfl⟩
end
def RatV (H : Hp) (x : V) (q : Rat) : Prop := ∃ p, x = .ref p ∧ H p = some (.tup [.int q.num, .int (q.den : Int)])
theorem RatV.same {H H' : Hp} {x : V} {q : Rat} (h : RatV H x q) (s : Same H H') : RatV H' x q := by
 obtain ⟨p, e, h⟩ := h
 exact ⟨p, e, s _ _ h⟩
def Big (b : Int) : Prop := b.natAbs < 2 ^ 8000
theorem Big.of {b : Int} {n : Nat} (h : b.natAbs < 2 ^ n) (hn : n ≤ 8000) : Big b := pow_mono h hn
theorem low_ratio {t b : Int} (hb : 0 < b) : t.fdiv (Int.gcd t b : Int) = (Rat.divInt t b).num ∧ b.fdiv (Int.gcd t b : Int) = ((Rat.divInt t b).den : Int) := by
 have e : sgcd t b = (Int.gcd t b : Int) := by unfold sgcd; rw [if_neg (by omega)]
 have h := ratio_parts (t := t) (b := b) (by omega)
 rw [← e, fdiv_of_dvd (sgcd_dvd_left t b), fdiv_of_dvd (sgcd_dvd_right t b)]
 exact h
def sp_lowQ : Sp := fun vs H Q _ => ∃ t b : Int, vs = [.int t, .int b] ∧ Big b ∧ 0 < b ∧ ∀ r H', Same H H' → RatV H' r (Rat.divInt t b) → Q r H'
theorem eqd_rat {H : Hp} {x y : V} {q : Rat} (hx : RatV H x q) (hy : RatV H y q) : ∃ p c, x = .ref p ∧ y = .ref c ∧ EqD H x y true 1 := by
 obtain ⟨p, rfl, hp⟩ := hx
 obtain ⟨c, rfl, hc⟩ := hy
 refine ⟨p, c, rfl, rfl, ?_⟩
 have h := EqD.tup (e := fun _ => true) (n := 0) hp hc fun j x y h1 h2 => by
  rw [h1] at h2
  cases h2
  match j, h1 with
  | 0, h1 => cases h1; have z := EqD.flat (H := H) (x := .int q.num) (y := .int q.num) rfl rfl; rw [eqV_refl rfl] at z; exact z
  | 1, h1 => cases h1; have z := EqD.flat (H := H) (x := .int (q.den : Int)) (y := .int (q.den : Int)) rfl rfl; rw [eqV_refl rfl] at z; exact z
 exact h
def sp_ratio0 : Sp := fun vs H Q _ => ∃ t b : Int, vs = [.int t, .int b] ∧ Big b ∧ b ≠ 0 ∧ ∀ r H', Same H H' → RatV H' r (Rat.divInt t b) → Q r H'
section
variable {P : Program} {w : World} {K : PySem.W.Frag} {mg : Str → Option Value} {base : Heap} {f : Addr} {fd : FuncData} {dV : Value} {cNF : Addr}
theorem ok_ratio (F : FunD K "ratio" "ratio" s_ratio dV f fd) (F_is_whole : Fn P w K mg base CX0 1 "is_whole" ["thing"] sp_whole) (F_greatest_divisor : Fn P w K mg base CX0 1 "greatest_divisor" ["one", "other"] sp_gcd) :
  FnOk P w K mg base CX0 2 f fd ["top", "bottom"] sp_ratio0 := by
 refine okQD F sc_ratio (fun vs H Q E h => ?_) (fun cdv A outer s H vs Q E hr h => ?_)
 ·obtain ⟨t, b, rfl, _⟩ := h; rfl
 obtain ⟨t, b, rfl, hz, hb0, q⟩ := h
 refine ⟨_, (b_cons (s_if (t_w (w_or (t_not (t_val (q_fn F_is_whole hr (by decide) rfl (a_c (q_v 0) a_nil)))) (w_or1 (t_not (t_val (q_fn F_is_whole hr (by decide) rfl (a_c (q_v 1) a_nil))))))) (b_one s_never) b_nil)
   (b_cons (s_if (t_eq (q_v 1) q_int) (b_one s_never) b_nil)
   (b_cons (s_set 2 sc_ratio.nd (q_fn F_greatest_divisor hr (by decide) rfl (a_c (q_v 0) (a_c (q_v 1) a_nil))))
   (b_cons (s_if (t_lt (q_v 1) q_int) (b_one (s_set 2 sc_ratio.nd (q_neg (q_v 2)))) b_nil)
   (b_one (s_ret (q_tup (a_c (q_fdivL (q_v 0) (q_v 2)) (a_c (q_fdivL (q_v 1) (q_v 2)) a_nil))))))))), ?_⟩
 rw [show start ["top", "bottom", "divisor"] [.int t, .int b] = [some (.int t), some (.int b), none] from rfl]
 refine seq_go fun B hB => ?_
 refine if_go fun A hA C hC => ?_
 walk_at "rd"
 simp only [sp_whole]
 walk_at "rd"
 refine ⟨th0_int _, ?_⟩
 rw [if_neg (by simp [isW])]
 refine ⟨th0_int _, ?_⟩
 rw [if_neg (by simp [isW])]
 subst hC
 walk_at "rd"
 subst hB
 try dsimp only
 refine seq_go fun B hB => ?_
 refine if_go fun A hA C hC => ?_
 walk_at "rd"
 refine ite2 (fun c => absurd c hb0) (fun c => ?_)
 subst hC
 walk_at "rd"
 subst hB
 try dsimp only
 walk_at "rd"
 simp only [sp_gcd]
 walk_at "rd"
 have hne := sgcd_ne (t := t) c
 have hlog : (sgcd t b).natAbs.log2 < 9000 := by rw [sgcd_abs]; exact log2_lt_of (pow_mono (Nat.lt_of_le_of_lt (gcd_le_abs c) hz) (by omega)) (by omega)
 have fin : ∀ (p : Addr) (H2 : Hp), H p = none → Same H H2 → H2 p = some (.tup [.int (t.fdiv (sgcd t b)), .int (b.fdiv (sgcd t b))]) → Q (.ref p) H2 := fun p H2 _ hs e => q _ _ hs ⟨p, rfl, by
  rw [fdiv_of_dvd (sgcd_dvd_left t b), fdiv_of_dvd (sgcd_dvd_right t b), (ratio_parts c).1, (ratio_parts (t := t) c).2] at e
  exact e⟩
 refine ite2 (fun cb => ?_) (fun cb => ?_)
 ·have e : sgcd t b = -(Int.gcd t b : Int) := by unfold sgcd; rw [if_pos cb]
  rw [e] at hne hlog fin
  exact ⟨hne, hlog, hne, hlog, fin⟩
 ·have e : sgcd t b = (Int.gcd t b : Int) := by unfold sgcd; rw [if_neg cb]
  rw [e] at hne hlog fin
  exact ⟨hne, hlog, hne, hlog, fin⟩
end
def Thing (H : Hp) (x : V) : Prop := Th0 H x ∧ ∀ a xs, x = .ref a → H a = some (.tup xs) → ∀ y ∈ xs, Th0 H y
def frV : V → V → Bool
 | .int t, .int b => decide (1 ≤ b) && decide (Int.gcd t b = 1)
 | _, _ => false
def isFr (H : Hp) : V → Bool
 | .ref a => match H a with
  | some (.tup [u, v]) => frV u v
  | _ => false
 | _ => false
theorem frV_ii (i j : Int) : frV (.int i) (.int j) = (decide (1 ≤ j) && decide (Int.gcd i j = 1)) := rfl
theorem w_or_int (u : V) : isW u = false ∨ ∃ i, u = .int i := by
 cases u
 case int i => exact .inr ⟨i, rfl⟩
 all_goals exact .inl rfl
theorem frV_l {u v : V} (h : isW u = false) : frV u v = false := by
 cases u
 case int i => cases h
 all_goals cases v <;> rfl
theorem frV_r {u v : V} (h : isW v = false) : frV u v = false := by
 cases v
 case int i => cases h
 all_goals cases u <;> rfl
def sp_fr : Sp := fun vs H Q _ => ∃ x, vs = [x] ∧ Thing H x ∧ Q (.bl (isFr H x)) H
section
variable {P : Program} {w : World} {K : PySem.W.Frag} {mg : Str → Option Value} {base : Heap} {f : Addr} {fd : FuncData}
theorem th0_same {H H' : Hp} {x : V} (hs : Same H H') (h : Th0 H x) : Th0 H' x := by
 obtain ⟨t, e⟩ := h
 refine ⟨t, ?_⟩
 unfold kindV at e ⊢
 split at e
 ·exact e
 ·exact e
 ·exact e
 ·exact e
 ·split at e
  ·rename_i q; rw [hs _ _ q]; exact e
  ·rename_i q; rw [hs _ _ q]; exact e
  ·rename_i q; rw [hs _ _ q]; exact e
  ·cases e
 ·cases e
theorem thing_same {H H' : Hp} {x : V} (hs : Same H H') (h : Thing H x) : Thing H' x := by
 refine ⟨th0_same hs h.1, fun a xs e1 e2 y hy => ?_⟩
 obtain ⟨t, e⟩ := h.1
 subst e1
 unfold kindV at e
 dsimp only at e
 split at e
 ·rename_i q; rw [hs _ _ q] at e2; cases e2
 ·rename_i q
  have q' := hs _ _ q
  rw [e2] at q'; cases q'
  exact th0_same hs (h.2 a _ rfl q y hy)
 ·rename_i q; rw [hs _ _ q] at e2; cases e2
 ·cases e
theorem th_int {H : Hp} (i : Int) : Thing H (.int i) := ⟨⟨"int", rfl⟩, fun _ _ e => nomatch e⟩
theorem th_bl {H : Hp} (i : Bool) : Thing H (.bl i) := ⟨⟨"bool", rfl⟩, fun _ _ e => nomatch e⟩
theorem th_non {H : Hp} : Thing H .non := ⟨⟨"NoneType", rfl⟩, fun _ _ e => nomatch e⟩
theorem th_str {H : Hp} (x : Str) : Thing H (.str x) := ⟨⟨"str", rfl⟩, fun _ _ e => nomatch e⟩
theorem th_lst {H : Hp} {a : Addr} {xs : List V} (h : H a = some (.lst xs)) : Thing H (.ref a) := ⟨⟨"list", by unfold kindV; dsimp only; rw [h]⟩, fun b ys e1 e2 => by cases e1; rw [h] at e2; cases e2⟩
theorem th_tup {H : Hp} {a : Addr} {xs : List V} (h : H a = some (.tup xs)) (hx : ∀ x ∈ xs, Th0 H x) : Thing H (.ref a) :=
 ⟨⟨"tuple", by unfold kindV; dsimp only; rw [h]⟩, fun b ys e1 e2 => by cases e1; rw [h] at e2; cases e2; exact hx⟩
theorem th_pair {H : Hp} {a : Addr} {x y : V} (h : H a = some (.tup [x, y])) (hx : Th0 H x) (hy : Th0 H y) : Thing H (.ref a) := th_tup h (by
 intro z hz
 simp only [List.mem_cons, List.not_mem_nil, or_false] at hz
 rcases hz with rfl | rfl
 ·exact hx
 ·exact hy)
theorem thing_cases {H : Hp} {x : V} (h : Thing H x) : (∃ a u v, x = .ref a ∧ H a = some (.tup [u, v]) ∧ Th0 H u ∧ Th0 H v) ∨
  (∃ a xs, x = .ref a ∧ H a = some (.tup xs) ∧ xs.length ≠ 2 ∧ isFr H x = false) ∨ (∃ t, kindV H x = some t ∧ isA t "tuple" = false ∧ isFr H x = false) := by
 obtain ⟨⟨t, e⟩, h2⟩ := h
 have e0 := e
 unfold kindV at e
 split at e
 ·cases e; exact .inr (.inr ⟨_, e0, by decide, rfl⟩)
 ·cases e; exact .inr (.inr ⟨_, e0, by decide, rfl⟩)
 ·cases e; exact .inr (.inr ⟨_, e0, by decide, rfl⟩)
 ·cases e; exact .inr (.inr ⟨_, e0, by decide, rfl⟩)
 ·rename_i a
  split at e
  ·rename_i q; cases e; exact .inr (.inr ⟨_, e0, by decide, by unfold isFr; dsimp only; rw [q]⟩)
  ·rename_i xs q
   match xs, q with
   | [u, v], q => exact .inl ⟨a, u, v, rfl, q, h2 a _ rfl q u (by simp), h2 a _ rfl q v (by simp)⟩
   | [], q => exact .inr (.inl ⟨a, _, rfl, q, by simp, by simp only [isFr, q]⟩)
   | [_], q => exact .inr (.inl ⟨a, _, rfl, q, by simp, by simp only [isFr, q]⟩)
   | _ :: _ :: _ :: _, q => exact .inr (.inl ⟨a, _, rfl, q, by simp, by simp only [isFr, q]⟩)
  ·rename_i q; cases e; exact .inr (.inr ⟨_, e0, by decide, by unfold isFr; dsimp only; rw [q]⟩)
  ·cases e
 ·cases e
theorem fr_pair {H : Hp} {a : Addr} {u v : V} (h : H a = some (.tup [u, v])) : isFr H (.ref a) = frV u v := by
 unfold isFr
 dsimp only
 rw [h]
theorem ok_is_ratio (F : Fun K "is_ratio" "is_ratio" s_is_ratio f fd) (n_isinstance : mg "isinstance" = none) (n_tuple : mg "tuple" = none) (n_len : mg "len" = none)
  (F_is_whole : Fn P w K mg base CX0 1 "is_whole" ["thing"] sp_whole) (F_greatest_divisor : Fn P w K mg base CX0 1 "greatest_divisor" ["one", "other"] sp_gcd) :
  FnOk P w K mg base CX0 2 f fd ["thing"] sp_fr := by
 refine okQ F sc_is_ratio (fun vs H Q E h => ?_) (fun cdv A outer s H vs Q E hr h => ?_)
 ·obtain ⟨x, rfl, _⟩ := h; rfl
 obtain ⟨x, rfl, hx, q⟩ := h
 refine ⟨_, (b_cons (s_if (t_w (w_or (t_not (t_val (q_inst rfl n_isinstance (a_c (q_v 0) (a_c (q_ty rfl n_tuple rfl) a_nil))))) (w_or1 (t_ne (q_len rfl n_len (a_c (q_v 0) a_nil)) q_int)))) (b_one (s_ret q_bl)) b_nil)
   (b_cons (s_set 1 sc_is_ratio.nd (q_ixT (q_v 0) q_int))
   (b_cons (s_set 2 sc_is_ratio.nd (q_ixT (q_v 0) q_int))
   (b_cons (s_if (t_w (w_or (t_not (t_val (q_fn F_is_whole hr (by decide) rfl (a_c (q_v 1) a_nil)))) (w_or1 (t_not (t_val (q_fn F_is_whole hr (by decide) rfl (a_c (q_v 2) a_nil))))))) (b_one (s_ret q_bl)) b_nil)
   (b_one (s_ret (q_and (q_ge (q_v 2) q_int) (q_one (q_eq (q_fn F_greatest_divisor hr (by decide) rfl (a_c (q_v 1) (a_c (q_v 2) a_nil))) q_int))))))))), ?_⟩
 rw [show start ["thing", "top", "bottom"] [x] = [some (x), none, none] from rfl]
 rcases thing_cases hx with ⟨a, u, v, rfl, ha, hu, hv⟩ | ⟨a, xs, rfl, ha, hl, hf⟩ | ⟨t, ht, hn, hf⟩
 ·rw [fr_pair ha] at q
  walk_at "rd"
  simp only [kind_tup ha, ha, sp_whole, sp_gcd]
  walk_at "rd"
  rw [if_neg (by decide)]
  refine ⟨hu, ?_⟩
  rcases w_or_int u with w1 | ⟨i, rfl⟩
  ·rw [frV_l w1] at q
   rw [if_pos w1]
   exact q
  rw [if_neg (by simp [isW])]
  refine ⟨hv, ?_⟩
  rcases w_or_int v with w2 | ⟨j, rfl⟩
  ·rw [frV_r w2] at q
   rw [if_pos w2]
   exact q
  rw [if_neg (by simp [isW])]
  walk_at "rd"
  rw [frV_ii] at q
  refine ite2 (fun c => ?_) (fun c => ?_)
  ·rw [decide_eq_true c, Bool.true_and] at q
   have e : decide ((Int.gcd i j : Int) = 1) = decide (Int.gcd i j = 1) := decide_eq_decide.mpr (by omega)
   rw [e]
   exact q
  ·rw [decide_eq_false c, Bool.false_and] at q
   exact q
 ·rw [hf] at q
  walk_at "rd"
  simp only [kind_tup ha, ha]
  walk_at "rd"
  rw [if_pos (by omega)]
  exact q
 ·rw [hf] at q
  walk_at "rd"
  simp only [ht]
  walk_at "rd"
  rw [if_pos hn]
  exact q
end
section
variable {P : Program} {w : World} {K : PySem.W.Frag} {mg : Str → Option Value} {base : Heap} {f : Addr} {fd : FuncData}
theorem num_nonneg {t b : Int} (ht : 0 ≤ t) (hb : 0 < b) : 0 ≤ (Rat.divInt t b).num := by
 rw [← (low_ratio hb).1]
 exact Int.fdiv_nonneg ht (by omega)
def RoadV (H : Hp) (x : V) (r : Nat × Rat) : Prop := ∃ p y, x = .ref p ∧ H p = some (.tup [.int r.1, y]) ∧ RatV H y r.2
def RoadsV (H : Hp) (xs : List V) (rs : List (Nat × Rat)) : Prop := xs.length = rs.length ∧ ∀ (i : Nat) x r, xs[i]? = some x → rs[i]? = some r → RoadV H x r
def TreeOk (rs : List (Nat × Rat)) : Prop := ∃ rank : Nat → Nat, rank 0 = 0 ∧ (∀ v, rank v ≤ rs.length) ∧ ∀ (k : Nat) r, rs[k]? = some r → r.1 ≤ rs.length ∧ rank r.1 < rank (k + 1)
def intL (lo : Int) (n : Nat) : List Int := (List.range n).map fun k : Nat => lo + (k : Int)
theorem ints_len {lo : Int} {n : Nat} : (intL lo n).length = n := by simp [intL]
theorem ints_mem {lo : Int} {n : Nat} {x : Int} (h : x ∈ intL lo n) : lo ≤ x ∧ x < lo + n := by
 obtain ⟨k, hk, e⟩ := List.mem_map.mp h
 have := List.mem_range.mp hk
 omega
theorem ints_nodup {lo : Int} {n : Nat} : (intL lo n).Nodup := by
 refine List.Pairwise.map _ (fun a b h => ?_) List.nodup_range
 intro e
 exact h (by omega)
theorem ixN_at {n i : Nat} (h : i < n) : ixN n (i : Int) = some i := by
 unfold ixN
 simp
 omega
def Pr (H0 : Hp) (a p pn : Addr) (m c n : Int) (b : Bool) (zs : List V) (i : Nat) (σ : St) (H : Hp) : Prop := ∃ (o1 o2 o3 : Option V) (ts : List Int), σ = [some (.ref a), some (.int m), some (.int c), some (.int n), some (.bl b), some (.ref p), o1, o2, o3, none, none, none] ∧
 Same H0 H ∧ H p = some (.lst (ts.map V.int)) ∧ H pn = some (.lst zs) ∧ ts.Perm (intL 1 n.toNat)
def Laid (H : Hp) (ts : List Int) (ys : List V) (j : Nat) : Prop := ∃ (k : Nat) (x : V) (r : Nat × Rat), ts[j]? = some ((k : Int) + 1) ∧ ys[k]? = some x ∧ RoadV H x r ∧ SzQ 98 r.2 ∧ 0 ≤ r.2.num ∧ (r.1 = 0 ∨ ∃ j', j' < j ∧ ts[j']? = some (r.1 : Int))
theorem RoadV.same {H H' : Hp} {x : V} {r : Nat × Rat} (h : RoadV H x r) (s : Same H H') : RoadV H' x r := let ⟨p, y, e, h1, h2⟩ := h; ⟨p, y, e, s _ _ h1, h2.same s⟩
theorem RoadV.upd {H : Hp} {x : V} {r : Nat × Rat} {l : Addr} {ys : List V} {o : HO} (h : RoadV H x r) (hl : H l = some (.lst ys)) : RoadV (upd H l o) x r := by
 obtain ⟨p, y, e, h1, z, e2, h3⟩ := h
 exact ⟨p, y, e, by rw [upd_ne (ne_of h1 hl (by intro z; cases z))]; exact h1, z, e2, by rw [upd_ne (ne_of h3 hl (by intro z; cases z))]; exact h3⟩
theorem list_choose {α : Type} [Inhabited α] {n : Nat} {P : Nat → α → Prop} (h : ∀ k, k < n → ∃ r, P k r) : ∃ rs : List α, rs.length = n ∧ ∀ (k : Nat) r, rs[k]? = some r → P k r := by
 induction n with
 | zero => exact ⟨[], rfl, fun k r e => by simp at e⟩
 | succ n ih =>
  obtain ⟨rs, hl, hr⟩ := ih fun k hk => h k (by omega)
  obtain ⟨r0, h0⟩ := h n (by omega)
  refine ⟨rs ++ [r0], by simp [hl], fun k r e => ?_⟩
  by_cases hk : k < rs.length
  ·rw [List.getElem?_append_left hk] at e; exact hr k r e
  ·rw [List.getElem?_append_right (by omega)] at e
   have hk2 : k = n := by
    have := (List.getElem?_eq_some_iff.mp e).1
    simp at this; omega
   subst hk2
   simp [hl] at e
   rw [← e]; exact h0
open Classical in
noncomputable def rankOf (ts : List Int) (v : Nat) : Nat := if h : ∃ j : Nat, ts[j]? = some (v : Int) then h.choose + 1 else 0
theorem rank_at {ts : List Int} (hnd : ts.Nodup) {j v : Nat} (h : ts[j]? = some (v : Int)) : rankOf ts v = j + 1 := by
 have hh : ∃ j : Nat, ts[j]? = some (v : Int) := ⟨j, h⟩
 unfold rankOf
 rw [dif_pos hh]
 have e := hh.choose_spec
 have := (List.getElem?_inj (List.getElem?_eq_some_iff.mp e).1 hnd).mp (e.trans h.symm)
 omega
theorem rank_le {ts : List Int} {v : Nat} : rankOf ts v ≤ ts.length := by
 unfold rankOf
 split
 ·rename_i hh
  exact (List.getElem?_eq_some_iff.mp hh.choose_spec).1
 ·exact Nat.zero_le _
theorem mem_ints {lo : Int} {n : Nat} {k : Nat} (h : k < n) : lo + (k : Int) ∈ intL lo n := List.mem_map.mpr ⟨k, List.mem_range.mpr h, rfl⟩
theorem roads_of {H : Hp} {ts : List Int} {ys : List V} {n : Nat} (hpm : ts.Perm (intL 1 n)) (hy : ys.length = n) (h : ∀ j, j < n → Laid H ts ys j) : ∃ rs : List (Nat × Rat), RoadsV H ys rs ∧ TreeOk rs ∧ rs.length = n ∧ ∀ r ∈ rs, SzQ 98 r.2 ∧ 0 ≤ r.2.num := by
 have hl : ts.length = n := by rw [hpm.length_eq, ints_len]
 have hnd : ts.Nodup := hpm.nodup_iff.mpr ints_nodup
 have hbd : ∀ x ∈ ts, 1 ≤ x ∧ x ≤ n := fun x hx => by have := ints_mem (hpm.mem_iff.mp hx); omega
 obtain ⟨rs, hrl, hr⟩ := list_choose (α := Nat × Rat) (n := n) (P := fun k r => ∃ x, ys[k]? = some x ∧ RoadV H x r ∧ SzQ 98 r.2 ∧ 0 ≤ r.2.num ∧ ∃ j, ts[j]? = some (((k + 1 : Nat)) : Int) ∧ (r.1 = 0 ∨ ∃ j', j' < j ∧ ts[j']? = some (r.1 : Int))) fun k hk => by
  have hm : (1 : Int) + (k : Int) ∈ ts := hpm.mem_iff.mpr (mem_ints hk)
  obtain ⟨j, hj⟩ := List.getElem?_of_mem hm
  obtain ⟨k', x, r, g1, g2, g3, g4, g5, g6⟩ := h j (by rw [← hl]; exact (List.getElem?_eq_some_iff.mp hj).1)
  have hkk : k' = k := by rw [hj] at g1; have := Option.some.inj g1; omega
  subst hkk
  exact ⟨r, x, g2, g3, g4, g5, j, by rw [g1]; simp, g6⟩
 have rz : rankOf ts 0 = 0 := by
  unfold rankOf
  rw [dif_neg fun ⟨j, hj⟩ => by have := hbd _ (List.mem_of_getElem? hj); simp at this]
 refine ⟨rs, ⟨by omega, fun i x r h1 h2 => ?_⟩, ⟨rankOf ts, rz, fun v => by rw [hrl, ← hl]; exact rank_le, fun k r h1 => ?_⟩, hrl, fun r hm => ?_⟩
 ·obtain ⟨x', g, g2, _⟩ := hr i r h2
  rw [h1] at g
  cases g
  exact g2
 ·obtain ⟨x', _, _, _, _, j, hj, hc⟩ := hr k r h1
  rcases hc with z | ⟨j', hlt, hj'⟩
  ·exact ⟨by omega, by rw [z, rz, rank_at hnd hj]; omega⟩
  ·have := hbd _ (List.mem_of_getElem? hj')
   exact ⟨by omega, by rw [rank_at hnd hj', rank_at hnd hj]; omega⟩
 ·obtain ⟨k, hk⟩ := List.getElem?_of_mem hm
  obtain ⟨_, _, _, g4, g5, _⟩ := hr k r hk
  exact ⟨g4, g5⟩
theorem cxK {CX : CXT} {N : List Str} {qual : Str} {scope : Scope} {cd : Value} {A : Around} {outer : List Env} {s : Shared} {H : Hp} {E : XK} : (cxOf CX P w K mg base N qual scope f cd A outer s H E).K = K := rfl
inductive WayR (rs : List (Nat × Rat)) : Nat → List Nat → Prop where
 | nil : WayR rs 0 []
 | cons {k : Nat} {r : Nat × Rat} {w : List Nat} (h : rs[k]? = some r) (hw : WayR rs r.1 w) : WayR rs (k + 1) ((k + 1) :: w)
theorem WayR.uniq {rs : List (Nat × Rat)} {k : Nat} {w : List Nat} (h : WayR rs k w) : ∀ {w' : List Nat}, WayR rs k w' → w' = w := by
 induction h with
 | nil => intro w' h'; cases h'; rfl
 | cons h _ ih =>
  intro w' h'
  cases h' with
  | cons h2 hw2 =>
   rw [h] at h2
   cases h2
   rw [ih hw2]
theorem way_some {rs : List (Nat × Rat)} (T : TreeOk rs) {k : Nat} (hk : k ≤ rs.length) : ∃ w, WayR rs k w ∧ w.length ≤ rs.length := by
 obtain ⟨rank, r0, hb, hr⟩ := T
 have key : ∀ m k, k ≤ rs.length → rank k ≤ m → ∃ w, WayR rs k w ∧ w.length ≤ rank k := by
  intro m
  induction m with
  | zero =>
   intro k hk hm
   cases k with
   | zero => exact ⟨[], .nil, Nat.zero_le _⟩
   | succ j =>
    have h2 := (hr j _ (List.getElem?_eq_getElem (l := rs) (i := j) (by omega))).2
    omega
  | succ m ih =>
   intro k hk hm
   cases k with
   | zero => exact ⟨[], .nil, Nat.zero_le _⟩
   | succ j =>
    have e := List.getElem?_eq_getElem (l := rs) (i := j) (by omega)
    obtain ⟨h1, h2⟩ := hr j _ e
    obtain ⟨w, hw, hl⟩ := ih rs[j].1 h1 (by omega)
    exact ⟨(j + 1) :: w, .cons e hw, by simp; omega⟩
 obtain ⟨w, hw, hl⟩ := key _ k hk (Nat.le_refl _)
 exact ⟨w, hw, Nat.le_trans hl (hb k)⟩
theorem WayR.mem {rs : List (Nat × Rat)} {k : Nat} {w : List Nat} (h : WayR rs k w) : ∀ x ∈ w, 1 ≤ x ∧ x ≤ rs.length := by
 induction h with
 | nil => intro x hx; cases hx
 | cons h _ ih =>
  intro x hx
  rcases List.mem_cons.mp hx with z | z
  ·have := (List.getElem?_eq_some_iff.mp h).1
   omega
  ·exact ih x z
def natV (w : List Nat) : List V := w.map fun k : Nat => V.int (k : Int)
end
def PrP (H : Hp) (x : V) : Prop := ∃ a t b, x = .ref a ∧ H a = some (.tup [.int t, .int b]) ∧ 1 ≤ b ∧ Int.gcd t b = 1 ∧ 0 ≤ t
def RdP (H : Hp) (x : V) (n : Int) : Prop := ∃ a t y, x = .ref a ∧ H a = some (.tup [.int t, y]) ∧ 0 ≤ t ∧ t < n ∧ PrP H y
def Thing2 (H : Hp) (x : V) : Prop := Th0 H x ∧ ∀ a xs, x = .ref a → H a = some (.tup xs) → ∀ y ∈ xs, Thing H y
def sp_isprice : Sp := fun vs H Q _ => ∃ x, vs = [x] ∧ Thing H x ∧ ∀ r : Bool, (r = true ↔ PrP H x) → Q (.bl r) H
def sp_isroad : Sp := fun vs H Q _ => ∃ x n, vs = [x, .int n] ∧ Thing2 H x ∧ ∀ r : Bool, (r = true ↔ RdP H x n) → Q (.bl r) H
theorem fr_inv {H : Hp} {x : V} (h : isFr H x = true) : ∃ a t b, x = .ref a ∧ H a = some (.tup [.int t, .int b]) ∧ 1 ≤ b ∧ Int.gcd t b = 1 := by
 unfold isFr at h
 split at h
 ·rename_i a
  split at h
  ·rename_i u v e
   rcases w_or_int u with w1 | ⟨i, rfl⟩
   ·rw [frV_l w1] at h; cases h
   rcases w_or_int v with w1 | ⟨j, rfl⟩
   ·rw [frV_r w1] at h; cases h
   rw [frV_ii, Bool.and_eq_true, decide_eq_true_eq, decide_eq_true_eq] at h
   exact ⟨a, i, j, rfl, e, h.1, h.2⟩
  ·cases h
 ·cases h
theorem fr_of {H : Hp} {a : Addr} {t b : Int} (e : H a = some (.tup [.int t, .int b])) (h1 : 1 ≤ b) (h2 : Int.gcd t b = 1) : isFr H (.ref a) = true := by
 rw [fr_pair e, frV_ii, decide_eq_true h1, decide_eq_true h2]; rfl
section
variable {P : Program} {w : World} {K : PySem.W.Frag} {mg : Str → Option Value} {base : Heap} {f : Addr} {fd : FuncData}
theorem ok_is_price (F : Fun K "is_price" "is_price" s_is_price f fd) (F_is_ratio : Fn P w K mg base CX0 2 "is_ratio" ["thing"] sp_fr) : FnOk P w K mg base CX0 3 f fd ["thing"] sp_isprice := by
 refine okQ F sc_is_price (fun vs H Q E h => ?_) (fun cdv A outer s H vs Q E hr h => ?_)
 ·obtain ⟨x, rfl, _⟩ := h; rfl
 obtain ⟨x, rfl, hx, q⟩ := h
 refine ⟨_, (b_one (s_ret (q_and (q_fn F_is_ratio hr (by decide) rfl (a_c (q_v 0) a_nil)) (q_one (q_ge (q_ixT (q_v 0) q_int) q_int))))), ?_⟩
 rw [show start ["thing"] [x] = [some (x)] from rfl]
 walk_at "rd"
 simp only [sp_fr]
 walk_at "rd"
 refine ⟨hx, ?_⟩
 refine ite2 (fun c => ?_) (fun c => ?_)
 ·obtain ⟨a, t, b, rfl, e, h1, h2⟩ := fr_inv c
  walk_at "rd"
  simp only [e]
  walk_at "rd"
  refine q _ ?_
  rw [decide_eq_true_eq]
  exact ⟨fun h => ⟨a, t, b, rfl, e, h1, h2, h⟩, fun ⟨a', t', b', e1, e2, _, _, h⟩ => by cases e1; rw [e] at e2; cases e2; exact h⟩
 ·refine q _ ?_
  refine ⟨(fun z => nomatch z), fun ⟨a', t', b', e1, e2, h1, h2, _⟩ => absurd ?_ c⟩
  subst e1
  exact fr_of e2 h1 h2
theorem thing2_cases {H : Hp} {x : V} (h : Thing2 H x) : (∃ a u v, x = .ref a ∧ H a = some (.tup [u, v]) ∧ Thing H u ∧ Thing H v) ∨ (∃ a xs, x = .ref a ∧ H a = some (.tup xs) ∧ xs.length ≠ 2) ∨ (∃ t, kindV H x = some t ∧ isA t "tuple" = false ∧ ∀ a xs, x = .ref a → H a ≠ some (.tup xs)) := by
 obtain ⟨⟨t, e⟩, h2⟩ := h
 have e0 := e
 unfold kindV at e
 split at e
 ·cases e; exact .inr (.inr ⟨_, e0, by decide, fun _ _ z => nomatch z⟩)
 ·cases e; exact .inr (.inr ⟨_, e0, by decide, fun _ _ z => nomatch z⟩)
 ·cases e; exact .inr (.inr ⟨_, e0, by decide, fun _ _ z => nomatch z⟩)
 ·cases e; exact .inr (.inr ⟨_, e0, by decide, fun _ _ z => nomatch z⟩)
 ·rename_i a
  split at e
  ·rename_i q; cases e; exact .inr (.inr ⟨_, e0, by decide, fun _ _ z => by cases z; rw [q]; intro z; cases z⟩)
  ·rename_i xs q
   match xs, q with
   | [u, v], q => exact .inl ⟨a, u, v, rfl, q, h2 a _ rfl q u (by simp), h2 a _ rfl q v (by simp)⟩
   | [], q => exact .inr (.inl ⟨a, _, rfl, q, by simp⟩)
   | [_], q => exact .inr (.inl ⟨a, _, rfl, q, by simp⟩)
   | _ :: _ :: _ :: _, q => exact .inr (.inl ⟨a, _, rfl, q, by simp⟩)
  ·rename_i q; cases e; exact .inr (.inr ⟨_, e0, by decide, fun _ _ z => by cases z; rw [q]; intro z; cases z⟩)
  ·cases e
 ·cases e
theorem ok_is_road (F : Fun K "is_road" "is_road" s_is_road f fd) (n_isinstance : mg "isinstance" = none) (n_tuple : mg "tuple" = none) (n_len : mg "len" = none) (F_is_whole : Fn P w K mg base CX0 1 "is_whole" ["thing"] sp_whole)
  (F_is_price : Fn P w K mg base CX0 3 "is_price" ["thing"] sp_isprice) : FnOk P w K mg base CX0 4 f fd ["thing", "many"] sp_isroad := by
 refine okQ F sc_is_road (fun vs H Q E h => ?_) (fun cdv A outer s H vs Q E hr h => ?_)
 ·obtain ⟨x, n, rfl, _⟩ := h; rfl
 obtain ⟨x, n, rfl, hx, q⟩ := h
 refine ⟨_, (b_cons (s_if (t_w (w_or (t_not (t_val (q_inst rfl n_isinstance (a_c (q_v 0) (a_c (q_ty rfl n_tuple rfl) a_nil))))) (w_or1 (t_ne (q_len rfl n_len (a_c (q_v 0) a_nil)) q_int)))) (b_one (s_ret q_bl)) b_nil)
   (b_cons (s_set 2 sc_is_road.nd (q_ixT (q_v 0) q_int))
   (b_one (s_ret (q_and (q_fn F_is_whole hr (by decide) rfl (a_c (q_v 2) a_nil)) (q_and (q_leLt q_int (q_v 2) (q_v 1)) (q_one (q_fn F_is_price hr (by decide) rfl (a_c (q_ixT (q_v 0) q_int) a_nil))))))))), ?_⟩
 rw [show start ["thing", "many", "to"] [x, .int n] = [some (x), some (.int n), none] from rfl]
 have no : ¬ RdP H x n → Q (.bl false) H := fun h => q false ⟨(fun z => nomatch z), fun z => absurd z h⟩
 rcases thing2_cases hx with ⟨a, u, v, rfl, ha, hu, hv⟩ | ⟨a, xs, rfl, ha, hl⟩ | ⟨t, ht, hn, hf⟩
 ·walk_at "rd"
  simp only [kind_tup ha, ha, sp_whole, sp_isprice, tChain]
  walk_at "rd"
  rw [if_neg (by decide)]
  refine ⟨hu.1, ?_⟩
  rcases w_or_int u with w1 | ⟨i, rfl⟩
  ·rw [if_neg (by rw [w1]; decide)]
   exact no fun ⟨a', t, y, e1, e2, _⟩ => by cases e1; rw [ha] at e2; cases e2; cases w1
  rw [if_pos (show isW (V.int i) = true from rfl)]
  walk_at "rd"
  have inv : ∀ t y, H a = some (.tup [.int t, y]) → t = i ∧ y = v := fun t y e2 => by rw [ha] at e2; cases e2; exact ⟨rfl, rfl⟩
  refine ite2 (fun c1 => ?_) (fun c1 => ?_)
  ·refine ite2 (fun c2 => ?_) (fun c2 => ?_)
   ·refine ⟨hv, fun r hr => q r (hr.trans ⟨fun hp => ⟨a, i, v, rfl, ha, c1, c2, hp⟩, fun ⟨a', t, y, e1, e2, _, _, hp⟩ => ?_⟩)⟩
    cases e1
    rw [← (inv _ _ e2).2]
    exact hp
   ·exact no fun ⟨a', t, y, e1, e2, _, h3, _⟩ => by cases e1; rw [(inv _ _ e2).1] at h3; exact c2 h3
  ·exact no fun ⟨a', t, y, e1, e2, h3, _, _⟩ => by cases e1; rw [(inv _ _ e2).1] at h3; exact c1 h3
 ·walk_at "rd"
  simp only [kind_tup ha, ha]
  walk_at "rd"
  rw [if_pos (by omega)]
  exact no fun ⟨a', t, y, e1, e2, _⟩ => by cases e1; rw [ha] at e2; cases e2; exact hl rfl
 ·walk_at "rd"
  simp only [ht]
  walk_at "rd"
  rw [if_pos hn]
  exact no fun ⟨a', t, y, e1, e2, _⟩ => hf _ _ e1 e2
def sp_look : Sp := fun vs H Q _ => ∃ (a : Addr) (xs : List V), vs = [.ref a] ∧ H a = some (.lst xs) ∧ xs.length ≤ 40 ∧ (∀ x ∈ xs, Thing2 H x ∧ RdP H x (xs.length + 1)) ∧ Q .non H
def sp_wayf : Sp := fun vs H Q _ => ∃ (a : Addr) (xs : List V) (rs : List (Nat × Rat)) (k : Nat) (w : List Nat), vs = [.ref a, .int k] ∧ H a = some (.lst xs) ∧ RoadsV H xs rs ∧ WayR rs k w ∧ w.length ≤ rs.length ∧ rs.length ≤ 40 ∧ k ≤ rs.length ∧ (∀ r ∈ rs, r.1 ≤ rs.length) ∧
 ∀ p H', H p = none → Same H H' → H' p = some (.lst (natV w)) → Q (.ref p) H'
end
theorem RatV.keep {H H' : Hp} {x : V} {q : Rat} (h : RatV H x q) (s : ∀ b ys, H b = some (.tup ys) → H' b = some (.tup ys)) : RatV H' x q := let ⟨p, e, h1⟩ := h; ⟨p, e, s _ _ h1⟩
theorem RoadV.keep {H H' : Hp} {x : V} {r : Nat × Rat} (h : RoadV H x r) (s : ∀ b ys, H b = some (.tup ys) → H' b = some (.tup ys)) : RoadV H' x r := let ⟨p, y, e, h1, h2⟩ := h; ⟨p, y, e, s _ _ h1, h2.keep s⟩
theorem RoadsV.keep {H H' : Hp} {xs : List V} {rs : List (Nat × Rat)} (h : RoadsV H xs rs) (s : ∀ b ys, H b = some (.tup ys) → H' b = some (.tup ys)) : RoadsV H' xs rs := ⟨h.1, fun i x r h1 h2 => (h.2 i x r h1 h2).keep s⟩
theorem RoadsV.same {H H' : Hp} {xs : List V} {rs : List (Nat × Rat)} (h : RoadsV H xs rs) (s : Same H H') : RoadsV H' xs rs := h.keep fun b ys => s b _
def WaysV (H : Hp) (ws : List V) (rs : List (Nat × Rat)) : Prop := ws.length = rs.length + 1 ∧ ∀ (k : Nat) x, ws[k]? = some x → ∃ p w, x = .ref p ∧ H p = some (.lst (natV w)) ∧ WayR rs k w ∧ w.length ≤ rs.length
def TreeV (C : Addr) (H : Hp) (x : V) (rs : List (Nat × Rat)) : Prop := ∃ a dx la wa ls ws, x = .ref a ∧ H a = some (.ins C dx [("lanes", .ref la), ("ways", .ref wa)]) ∧ H la = some (.lst ls) ∧ RoadsV H ls rs ∧ H wa = some (.lst ws) ∧ WaysV H ws rs
theorem TreeV.same {C : Addr} {H H' : Hp} {x : V} {rs : List (Nat × Rat)} (h : TreeV C H x rs) (s : Same H H') : TreeV C H' x rs := by
 obtain ⟨a, dx, la, wa, ls, ws, e, h1, h2, h3, h4, h5, h6⟩ := h
 exact ⟨a, dx, la, wa, ls, ws, e, s _ _ h1, s _ _ h2, h3.same s, s _ _ h4, h5, fun k x hx => let ⟨p, w, e, g1, g2⟩ := h6 k x hx; ⟨p, w, e, s _ _ g1, g2⟩⟩
theorem rd_of_road {H : Hp} {x : V} {r : Nat × Rat} {n : Int} (h : RoadV H x r) (h1 : (r.1 : Int) < n) (h2 : 0 ≤ r.2.num) : Thing2 H x ∧ RdP H x n := by
 obtain ⟨p, y, rfl, hp, q, rfl, hq⟩ := h
 have hg : Int.gcd r.2.num (r.2.den : Int) = 1 := by
  show Nat.gcd r.2.num.natAbs (Int.natAbs (r.2.den : Int)) = 1
  rw [Int.natAbs_natCast]
  exact r.2.reduced
 have hd : 1 ≤ (r.2.den : Int) := by have := r.2.den_pos; omega
 refine ⟨⟨⟨"tuple", kind_tup hp⟩, fun a xs e1 e2 y hy => ?_⟩, p, _, _, rfl, hp, by omega, h1, q, _, _, rfl, hq, hd, hg, h2⟩
 cases e1
 rw [hp] at e2
 cases e2
 simp only [List.mem_cons, List.not_mem_nil, or_false] at hy
 rcases hy with rfl | rfl
 ·exact th_int _
 ·exact th_pair hq (th_int _).1 (th_int _).1
section
variable {P : Program} {w : World} {K : PySem.W.Frag} {mg : Str → Option Value} {base : Heap} {f : Addr} {fd : FuncData} {CT CNP : Addr}
def sp_init (C : Addr) : Sp := fun vs H Q _ => ∃ (x dx a : Addr) (xs : List V) (rs : List (Nat × Rat)), vs = [.ref x, .ref a] ∧ H x = some (.ins C dx []) ∧ H a = some (.lst xs) ∧ RoadsV H xs rs ∧ TreeOk rs ∧ rs.length ≤ 40 ∧ (∀ r ∈ rs, 0 ≤ r.2.num) ∧
 ∀ H', (∀ b o, b ≠ x → H b = some o → H' b = some o) → TreeV C H' (.ref x) rs → (∀ l zs, H l = some (.lst zs) → ∀ H'', Same H' H'' → ∀ ys, TreeV C (upd H'' l (.lst ys)) (.ref x) rs) → Q .non H'
theorem ok_init (F : Fun K "__init__" "Tree.__init__" s_Tree___init__ f fd) (n_list : mg "list" = none) (n_len : mg "len" = none) (n_range : mg "range" = none) (cls_Tree : Cls K CT) (nf_lanes : NoAttr K CT "lanes") (nf_ways : NoAttr K CT "ways")
  (F_look_roads : Fn P w K mg base CX0 5 "look_roads" ["thing"] sp_look) (F_way_from : Fn P w K mg base CX0 1 "way_from" ["roads", "k"] sp_wayf) : FnOk P w K mg base CX0 6 f fd ["self", "roads"] (sp_init CT) := by
 refine okQ F sc_Tree___init__ (fun vs H Q E h => ?_) (fun cdv A outer s H vs Q E hr h => ?_)
 ·obtain ⟨x, dx, a, xs, rs, rfl, _⟩ := h; rfl
 obtain ⟨x, dx, a, xs, rs, rfl, hx, ha, hR, hT, hl, hn, q⟩ := h
 refine ⟨_, (b_cons (s_expr (q_fn F_look_roads hr (by decide) rfl (a_c (q_v 1) a_nil)))
   (b_cons (s_fld (q_v 0) (q_list rfl n_list (a_c (q_v 1) a_nil)))
   (b_one (s_fld (q_v 0) (q_comp (blkC ["k"] [1] ["roads"]) (i_rng1 rfl n_range (a_c (q_add (q_len rfl n_len (a_c (q_v 1) a_nil)) q_int) a_nil)) (by exact fun s H fp => (g_name 0 (show List.Nodup (["k", "roads"] : List Str) from by decide +kernel))) (by exact fun s H fp => (q_fn F_way_from hr (by decide) rfl (a_c (q_v 1) (a_c (q_v 0) a_nil))))))))), ?_⟩
 rw [show start ["self", "roads"] [.ref x, .ref a] = [some (.ref x), some (.ref a)] from rfl]
 walk_at "rd"
 simp only [sp_look, rList]
 walk_at "rd"
 refine ⟨xs, ha, by rw [hR.1]; exact hl, fun y hy => ?_, xs, .inl (.of ha), fun l H1 hl1 s1 e1 => ?_⟩
 ·obtain ⟨i, hi⟩ := List.getElem?_of_mem hy
  have hi' : i < rs.length := by rw [← hR.1]; exact (List.getElem?_eq_some_iff.mp hi).1
  obtain ⟨_, _, _, hT2⟩ := hT
  have h2 := hT2 i _ (List.getElem?_eq_getElem hi')
  exact rd_of_road (hR.2 i y _ hi (List.getElem?_eq_getElem hi')) (by rw [hR.1]; omega) (hn _ (List.getElem_mem hi'))
 refine ⟨CT, dx, [], s1 _ _ hx, cls_Tree, nf_lanes, by decide, ?_⟩
 have hax : a ≠ x := ne_of ha hx (by intro z; cases z)
 rw [show putF (Str.ofString "lanes") (.ref l) [] = [(Str.ofString "lanes", V.ref l)] from rfl]
 have k1 : ∀ b o, b ≠ x → H b = some o → upd H1 x (.ins CT dx [(Str.ofString "lanes", V.ref l)]) b = some o := fun b o hb e => by rw [upd_ne hb]; exact s1 _ _ e
 have ha2 : upd H1 x (.ins CT dx [(Str.ofString "lanes", V.ref l)]) a = some (.lst xs) := k1 _ _ hax ha
 have hl2 : upd H1 x (.ins CT dx [(Str.ofString "lanes", V.ref l)]) l = some (.lst xs) := by rw [upd_ne (ne_of e1 (s1 _ _ hx) (by intro z; cases z))]; exact e1
 have hx2 : upd H1 x (.ins CT dx [(Str.ofString "lanes", V.ref l)]) x = some (.ins CT dx [(Str.ofString "lanes", V.ref l)]) := upd_same
 generalize upd H1 x (.ins CT dx [(Str.ofString "lanes", V.ref l)]) = H2 at k1 ha2 hl2 hx2 ⊢
 simp only [tComp, iRng1, cxK]
 walk_at "rd"
 have hxl := hR.1
 have hto : ∀ r ∈ rs, r.1 ≤ rs.length := fun r hr => by
  obtain ⟨_, _, _, g⟩ := id hT
  obtain ⟨i, hi⟩ := List.getElem?_of_mem hr
  exact (g i r hi).1
 refine ⟨xs, .inl ha2, by omega, by omega, ?_⟩
 rw [show capOf [some (V.ref x), some (V.ref a)] [1] = [some (V.ref a)] from rfl]
 have tk : ∀ H3, Same H2 H3 → RoadsV H3 xs rs := fun H3 sm => hR.keep fun b ys e => sm _ _ (k1 b _ (ne_of e hx (by intro z; cases z)) e)
 refine blk_rng (fun acc i ys H' => Same H2 H' ∧ H' acc = some (.lst ys) ∧ ys.length = i ∧ i ≤ 50 ∧ ∀ (k : Nat) y, ys[k]? = some y → ∃ p w, y = .ref p ∧ p ≠ acc ∧ H2 p = none ∧ H' p = some (.lst (natV w)) ∧ WayR rs k w ∧ w.length ≤ rs.length)
  (fun acc H3 hn sm e => ⟨sm, e, rfl, by omega, fun k y hy => by simp at hy⟩) (fun acc i ys H3 ⟨_, e, hl, hi, _⟩ => ⟨e, by omega⟩) (fun acc i ys H3 os hn hi hP ol => ?_) (fun acc ys H3 hn' hP => ?_)
 ·obtain ⟨sm, e, hyl, hi2, hE⟩ := hP
  obtain ⟨o, rfl⟩ : ∃ o, os = [o] := by match os, ol with | [o], _ => exact ⟨o, rfl⟩
  obtain ⟨w, hw, hwl⟩ := way_some hT (k := i) (by omega)
  walk_at "rd"
  refine ⟨[some (.int (i : Int))], rfl, rfl, ?_⟩
  refine ⟨a, xs, rs, i, w, rfl, sm _ _ ha2, tk _ sm, hw, hwl, by omega, by omega, hto, fun p' H4 hp' s4 e4 => ⟨s4 _ _ e, same_upd hn (sm.trans s4), upd_same, by simp [hyl], by omega, fun k y hy => ?_⟩⟩
  by_cases hk : k < ys.length
  ·rw [List.getElem?_append_left hk] at hy
   obtain ⟨p, w, e5, hpa, hpn, e6, e7⟩ := hE k y hy
   exact ⟨p, e5, hpa, hpn, w, by rw [upd_ne hpa]; exact s4 _ _ e6, e7⟩
  ·have hk2 : k = i := by
    have := (List.getElem?_eq_some_iff.mp hy).1
    simp at this; omega
   subst hk2
   rw [List.getElem?_append_right (by omega), hyl] at hy
   have hy' : V.ref p' = y := by simpa using hy
   subst hy'
   have hpa : p' ≠ acc := fun z => by rw [z, e] at hp'; cases hp'
   exact ⟨p', rfl, hpa, sm.free hp', w, by rw [upd_ne hpa]; exact e4, hw, hwl⟩
 ·obtain ⟨sm, e, hyl, hi2, hE⟩ := hP
  have nx : ∀ b ys, H3 b = some (.lst ys) → b ≠ x := fun b ys e => ne_of e (sm _ _ hx2) (by intro z; cases z)
  have gen : ∀ H5 : Hp, H5 x = some (.ins CT dx [("lanes", .ref l), ("ways", .ref acc)]) → H5 l = some (.lst xs) → H5 acc = some (.lst ys) → (∀ p w, H2 p = none → H3 p = some (.lst (natV w)) → H5 p = some (.lst (natV w))) → (∀ b zs, H3 b = some (.tup zs) → H5 b = some (.tup zs)) → TreeV CT H5 (.ref x) rs := by
   intro H5 g1 g2 g3 g4 g5
   refine ⟨x, dx, l, acc, xs, ys, rfl, g1, g2, (tk _ sm).keep g5, g3, by omega, fun k y hy => ?_⟩
   obtain ⟨p, w, e5, _, hpn, e6, e7⟩ := hE k y hy
   exact ⟨p, w, e5, g4 _ _ hpn e6, e7⟩
  refine ⟨CT, dx, _, sm _ _ hx2, cls_Tree, nf_ways, by show (1 : Nat) < 1000; decide, q _ (fun b o hb e => by rw [upd_ne hb]; exact sm _ _ (k1 b o hb e)) ?_ (fun l0 zs h0 H'' s'' us => ?_)⟩
  ·exact gen _ upd_same (by rw [upd_ne (nx _ _ (sm _ _ hl2))]; exact sm _ _ hl2) (by rw [upd_ne (nx _ _ e)]; exact e) (fun p w _ h => by rw [upd_ne (nx _ _ h)]; exact h) (fun b zs h => by rw [upd_ne (ne_of h (sm _ _ hx2) (by intro z; cases z))]; exact h)
  ·have n1 : x ≠ l0 := ne_of hx h0 (by intro z; cases z)
   have h2 : H2 l0 = some (.lst zs) := k1 _ _ (fun z => n1 z.symm) h0
   have h3 : H'' l0 = some (.lst zs) := s'' _ _ (by rw [upd_ne (fun z => n1 z.symm)]; exact sm _ _ h2)
   have keepL : ∀ b ws, b ≠ l0 → H3 b = some (.lst ws) → upd H'' l0 (.lst us) b = some (.lst ws) := fun b ws hb h => by
    rw [upd_ne hb]; exact s'' _ _ (by rw [upd_ne (nx _ _ h)]; exact h)
   have n2 : l ≠ l0 := fun z => by rw [z, h0] at hl1; cases hl1
   have n3 : acc ≠ l0 := fun z => by rw [z, h2] at hn'; cases hn'
   exact gen _ (by rw [upd_ne n1]; exact s'' _ _ upd_same) (keepL _ _ n2 (sm _ _ hl2)) (keepL _ _ n3 e) (fun p w hp h => keepL _ _ (fun z => by rw [z, h2] at hp; cases hp) h)
    (fun b zs' h => by
     have hb : b ≠ l0 := ne_of h (sm _ _ h2) (by intro z; cases z)
     rw [upd_ne hb]; exact s'' _ _ (by rw [upd_ne (ne_of h (sm _ _ hx2) (by intro z; cases z))]; exact h))
end
section
variable {P : Program} {w : World} {K : PySem.W.Frag} {mg : Str → Option Value} {base : Heap} {f : Addr} {fd : FuncData} {CT CNP : Addr}
def sp_many (C : Addr) : Sp := fun vs H Q _ => ∃ x rs, vs = [x] ∧ TreeV C H x rs ∧ Q (.int ((rs.length : Int) + 1)) H
theorem ok_many (F : Fun K "many" "Tree.many" s_Tree_many f fd) (n_len : mg "len" = none) (cls_Tree : Cls K CT) (nf_ways : NoAttr K CT "ways") : FnOk P w K mg base CX0 1 f fd ["self"] (sp_many CT) := by
 refine okQ F sc_Tree_many (fun vs H Q E h => ?_) (fun cdv A outer s H vs Q E hr h => ?_)
 ·obtain ⟨x, rs, rfl, _⟩ := h; rfl
 obtain ⟨x, rs, rfl, ⟨a, dx, la, wa, ls, ws, rfl, h1, h2, h3, h4, h5, h6⟩, q⟩ := h
 refine ⟨_, (b_one (s_ret (q_len rfl n_len (a_c (q_fld (q_v 0)) a_nil)))), ?_⟩
 rw [show start ["self"] [.ref a] = [some (.ref a)] from rfl]
 walk_at "rd"
 refine ⟨CT, dx, _, h1, cls_Tree, nf_ways, .ref wa, rfl, wa, rfl, ws, .inl h4, ?_⟩
 rw [show ((ws.length : Nat) : Int) = (rs.length : Int) + 1 by omega]
 exact q
def inT (rs : List (Nat × Rat)) (k : Int) : Prop := 0 ≤ k ∧ k ≤ rs.length
def sp_cross (C CNP : Addr) : Sp := fun vs H Q E => ∃ x rs k, vs = [x, .int k] ∧ TreeV C H x rs ∧ (inT rs k → Q .non H) ∧ (¬ inT rs k → E (.ref CNP) none H)
theorem ok_cross (F : FunD K "look_crossing" "Tree.look_crossing" s_Tree_look_crossing .none f fd) (m_NoPlace : mg "NoPlace" = some (.ref CNP)) (ec_NoPlace : ErrC K CNP) (F_is_whole : Fn P w K mg base CX0 1 "is_whole" ["thing"] sp_whole)
  (M_many : Mth P w K mg base CX0 1 CT "many" ["self"] (sp_many CT)) : FnOk P w K mg base (CX1 P w) 2 f fd ["self", "k"] (sp_cross CT CNP) := by
 refine okX F sc_Tree_look_crossing (fun vs H Q E h => ?_) (fun cdv A outer s H vs Q E hr h => ?_)
 ·obtain ⟨x, rs, k, rfl, _⟩ := h; rfl
 obtain ⟨x, rs, k, rfl, hT, q1, q2⟩ := h
 refine ⟨_, (b_one (s_if (t_w (w_or (t_not (t_val (q_fn F_is_whole hr (by decide) rfl (a_c (q_v 1) a_nil)))) (w_or (t_lt (q_v 1) q_int) (w_or1 (t_ge (q_v 1) (q_meth0 M_many hr (by decide) (q_v 0))))))) (b_one (s_raise goes_of m_NoPlace ec_NoPlace rfl (a_c q_str a_nil))) b_nil)), ?_⟩
 rw [show start ["self", "k"] [x, .int k] = [some (x), some (.int k)] from rfl]
 walk_at "rd"
 simp only [sp_whole, sp_many]
 walk_at "rd"
 refine ⟨th0_int k, ?_⟩
 rw [if_neg (by simp [isW])]
 refine ite2 (fun c => q2 fun h => by unfold inT at h; omega) (fun c => ?_)
 obtain ⟨a, dx, la, wa, ls, ws, rfl, h1, _⟩ := id hT
 exact ⟨a, rfl, dx, _, h1, rfl, rs, hT, ite2 (fun c2 => q2 fun h => by unfold inT at h; omega) (fun c2 => q1 ⟨by omega, by omega⟩)⟩
end
section
variable {P : Program} {w : World} {K : PySem.W.Frag} {mg : Str → Option Value} {base : Heap} {f : Addr} {fd : FuncData} {CT CNP : Addr}
def sp_roadsM (C : Addr) : Sp := fun vs H Q _ => ∃ x rs, vs = [x] ∧ TreeV C H x rs ∧ ∀ p H' ls, H p = none → Same H H' → H' p = some (.lst ls) → RoadsV H' ls rs → Q (.ref p) H'
theorem ok_roadsM (F : Fun K "roads" "Tree.roads" s_Tree_roads f fd) (n_list : mg "list" = none) (cls_Tree : Cls K CT) (nf_lanes : NoAttr K CT "lanes") : FnOk P w K mg base CX0 1 f fd ["self"] (sp_roadsM CT) := by
 refine okQ F sc_Tree_roads (fun vs H Q E h => ?_) (fun cdv A outer s H vs Q E hr h => ?_)
 ·obtain ⟨x, rs, rfl, _⟩ := h; rfl
 obtain ⟨x, rs, rfl, ⟨a, dx, la, wa, ls, ws, rfl, h1, h2, h3, h4, h5, h6⟩, q⟩ := h
 refine ⟨_, (b_one (s_ret (q_list rfl n_list (a_c (q_fld (q_v 0)) a_nil)))), ?_⟩
 rw [show start ["self"] [.ref a] = [some (.ref a)] from rfl]
 walk_at "rd"
 simp only [rList]
 walk_at "rd"
 exact ⟨CT, dx, _, h1, cls_Tree, nf_lanes, .ref la, rfl, la, rfl, ls, .inl (.of h2), fun l H2 hl s e => q l H2 ls hl s e (h3.same s)⟩
end
section
variable {P : Program} {w : World} {K : PySem.W.Frag} {mg : Str → Option Value} {base : Heap} {f : Addr} {fd : FuncData} {CT CNP : Addr}
def inR (rs : List (Nat × Rat)) (k : Int) : Prop := 1 ≤ k ∧ k ≤ rs.length
def sp_lookR (C CNP : Addr) : Sp := fun vs H Q E => ∃ x rs k, vs = [x, .int k] ∧ TreeV C H x rs ∧ (inR rs k → Q .non H) ∧ (¬ inR rs k → E (.ref CNP) none H)
theorem ok_lookR (F : FunD K "look_road" "Tree.look_road" s_Tree_look_road .none f fd) (m_NoPlace : mg "NoPlace" = some (.ref CNP)) (ec_NoPlace : ErrC K CNP)
  (M_look_crossing : Mth P w K mg base (CX1 P w) 2 CT "look_crossing" ["self", "k"] (sp_cross CT CNP)) : FnOk P w K mg base (CX1 P w) 3 f fd ["self", "k"] (sp_lookR CT CNP) := by
 refine okX F sc_Tree_look_road (fun vs H Q E h => ?_) (fun cdv A outer s H vs Q E hr h => ?_)
 ·obtain ⟨x, rs, k, rfl, _⟩ := h; rfl
 obtain ⟨x, rs, k, rfl, hT, q1, q2⟩ := h
 refine ⟨_, (b_cons (s_expr (q_methX goes_of M_look_crossing hr (by decide) (q_v 0) (a_c (q_v 1) a_nil)))
   (b_one (s_if (t_eq (q_v 1) q_int) (b_one (s_raise goes_of m_NoPlace ec_NoPlace rfl (a_c q_str a_nil))) b_nil))), ?_⟩
 rw [show start ["self", "k"] [x, .int k] = [some (x), some (.int k)] from rfl]
 walk_at "rd"
 simp only [sp_cross]
 walk_at "rd"
 obtain ⟨a, dx, la, wa, ls, ws, rfl, h1, _⟩ := id hT
 refine ⟨a, rfl, dx, _, h1, rfl, rs, hT, fun hin => ?_, fun hin => q2 fun h => hin ⟨by unfold inR at h; omega, by unfold inR at h; omega⟩⟩
 unfold inT at hin
 exact ite2 (fun c => q2 fun h => by unfold inR at h; omega) (fun c => q1 ⟨by omega, by omega⟩)
end
section
variable {P : Program} {w : World} {K : PySem.W.Frag} {mg : Str → Option Value} {base : Heap} {f : Addr} {fd : FuncData} {CT CNP : Addr}
def sp_priceM (C CNP : Addr) : Sp := fun vs H Q E => ∃ x rs k, vs = [x, .int k] ∧ TreeV C H x rs ∧ (∀ (k' : Nat) r y, k = (k' : Int) + 1 → rs[k']? = some r → RatV H y r.2 → Q y H) ∧ (¬ inR rs k → E (.ref CNP) none H)
theorem ok_priceM (F : FunD K "price" "Tree.price" s_Tree_price .none f fd) (cls_Tree : Cls K CT) (nf_lanes : NoAttr K CT "lanes")
  (M_look_road : Mth P w K mg base (CX1 P w) 3 CT "look_road" ["self", "k"] (sp_lookR CT CNP)) : FnOk P w K mg base (CX1 P w) 4 f fd ["self", "k"] (sp_priceM CT CNP) := by
 refine okX F sc_Tree_price (fun vs H Q E h => ?_) (fun cdv A outer s H vs Q E hr h => ?_)
 ·obtain ⟨x, rs, k, rfl, _⟩ := h; rfl
 obtain ⟨x, rs, k, rfl, hT, q1, q2⟩ := h
 refine ⟨_, (b_cons (s_expr (q_methX goes_of M_look_road hr (by decide) (q_v 0) (a_c (q_v 1) a_nil)))
   (b_one (s_ret (q_ixT (q_ixL (q_fld (q_v 0)) (q_sub (q_v 1) q_int)) q_int)))), ?_⟩
 rw [show start ["self", "k"] [x, .int k] = [some (x), some (.int k)] from rfl]
 walk_at "rd"
 simp only [sp_lookR]
 walk_at "rd"
 obtain ⟨a, dx, la, wa, ls, ws, rfl, h1, h2, h3, _⟩ := id hT
 refine ⟨a, rfl, dx, _, h1, rfl, rs, hT, fun hin => ?_, q2⟩
 obtain ⟨k', hk'⟩ : ∃ k' : Nat, k = (k' : Int) + 1 := ⟨(k - 1).toNat, by unfold inR at hin; omega⟩
 subst hk'
 have hl := h3.1
 have hlr : k' < rs.length := by unfold inR at hin; omega
 have hls : k' < ls.length := by omega
 obtain ⟨p, y, e, e2, e3⟩ := h3.2 k' _ _ (List.getElem?_eq_getElem hls) (List.getElem?_eq_getElem hlr)
 refine ⟨a, rfl, CT, dx, _, h1, cls_Tree, nf_lanes, .ref la, rfl, la, rfl, ls, h2, _, ?_, p, e, _, e2, _, rfl, q1 k' _ y rfl (List.getElem?_eq_getElem hlr) e3⟩
 rw [show (k' : Int) + 1 - 1 = (k' : Int) by omega]
 exact atI_nat (List.getElem?_eq_getElem hls)
end
theorem eqd_road {H : Hp} {x y : V} {r : Nat × Rat} (hx : RoadV H x r) (hy : RoadV H y r) : EqD H x y true 2 := by
 obtain ⟨p, u, rfl, hp, hu⟩ := hx
 obtain ⟨c, v, rfl, hc, hv⟩ := hy
 obtain ⟨_, _, _, _, d⟩ := eqd_rat hu hv
 have h := EqD.tup (e := fun _ => true) (n := 1) hp hc fun j x y h1 h2 => by
  match j, h1, h2 with
  | 0, h1, h2 =>
   cases h1; cases h2
   have z := EqD.flat (H := H) (x := .int (r.1 : Int)) (y := .int (r.1 : Int)) rfl rfl
   rw [eqV_refl rfl] at z
   exact z.up
  | 1, h1, h2 => cases h1; cases h2; exact d
 exact h
theorem eqd_roads {H : Hp} {a b : Addr} {xs ys : List V} {rs : List (Nat × Rat)} (ha : H a = some (.lst xs)) (hb : H b = some (.lst ys)) (hx : RoadsV H xs rs) (hy : RoadsV H ys rs) : EqD H (.ref a) (.ref b) true 3 := by
 have h := EqD.lst (e := fun _ => true) (n := 2) ha hb (by rw [hx.1, hy.1]) fun j x y h1 h2 => by
  have hj : j < rs.length := by rw [← hx.1]; exact (List.getElem?_eq_some_iff.mp h1).1
  exact eqd_road (hx.2 j x _ h1 (List.getElem?_eq_getElem hj)) (hy.2 j y _ h2 (List.getElem?_eq_getElem hj))
 rw [all_range fun _ _ => rfl] at h
 exact h
def LT (H : Hp) (x : V) : Prop := Th0 H x ∧ ∀ a xs, x = .ref a → H a = some (.lst xs) → xs.length ≤ 1000 ∧ ∀ y ∈ xs, Thing2 H y
def GoodL (H : Hp) (x : V) : Prop := ∃ a xs, x = .ref a ∧ H a = some (.lst xs) ∧ xs.length ≤ 40 ∧ ∀ y ∈ xs, RdP H y ((xs.length : Int) + 1)
theorem list_cases {H : Hp} {x : V} (h : Th0 H x) : (∃ a xs, x = .ref a ∧ H a = some (.lst xs)) ∨ (∃ t, kindV H x = some t ∧ isA t "list" = false ∧ ∀ a xs, x = .ref a → H a ≠ some (.lst xs)) := by
 obtain ⟨t, e⟩ := h
 have e0 := e
 unfold kindV at e
 split at e
 ·cases e; exact .inr ⟨_, e0, by decide, fun _ _ z => nomatch z⟩
 ·cases e; exact .inr ⟨_, e0, by decide, fun _ _ z => nomatch z⟩
 ·cases e; exact .inr ⟨_, e0, by decide, fun _ _ z => nomatch z⟩
 ·cases e; exact .inr ⟨_, e0, by decide, fun _ _ z => nomatch z⟩
 ·rename_i a
  split at e
  ·rename_i xs q; exact .inl ⟨a, xs, rfl, q⟩
  ·rename_i q; cases e; exact .inr ⟨_, e0, by decide, fun _ _ z => by cases z; rw [q]; intro z; cases z⟩
  ·rename_i q; cases e; exact .inr ⟨_, e0, by decide, fun _ _ z => by cases z; rw [q]; intro z; cases z⟩
  ·cases e
 ·cases e
section
variable {P : Program} {w : World} {K : PySem.W.Frag} {mg : Str → Option Value} {base : Heap} {f : Addr} {fd : FuncData} {CT CNP CNT : Addr}
def sp_lookX (CNT : Addr) : Sp := fun vs H Q E => ∃ x, vs = [x] ∧ LT H x ∧ (GoodL H x → Q .non H) ∧ (¬ GoodL H x → E (.ref CNT) none H)
def PlkX (H0 : Hp) (a : Addr) (xs : List V) (i : Nat) (σ : St) (H : Hp) : Prop := ∃ o, σ = [some (.ref a), some (.int ((xs.length : Int) + 1)), o] ∧ H = H0 ∧ ∀ (j : Nat) y, j < i → xs[j]? = some y → RdP H0 y ((xs.length : Int) + 1)
theorem ok_lookX {tk : Tok} (F : FunD K "look_roads" "look_roads" s_look_roads .none f fd) (n_isinstance : mg "isinstance" = none) (n_list : mg "list" = none) (n_len : mg "len" = none) (g_MOST_ROADS : mg "MOST_ROADS" = some (.int 40 tk)) (m_NoTree : mg "NoTree" = some (.ref CNT)) (ec_NoTree : ErrC K CNT)
  (F_is_road : Fn P w K mg base CX0 4 "is_road" ["thing", "many"] sp_isroad) : FnOk P w K mg base (CX1 P w) 5 f fd ["thing"] (sp_lookX CNT) := by
 refine okX F sc_look_roads (fun vs H Q E h => ?_) (fun cdv A outer s H vs Q E hr h => ?_)
 ·obtain ⟨x, rfl, _⟩ := h; rfl
 obtain ⟨x, rfl, ⟨hx0, hx1⟩, q1, q2⟩ := h
 refine ⟨_, (b_cons (s_if (t_not (t_val (q_inst rfl n_isinstance (a_c (q_v 0) (a_c (q_ty rfl n_list rfl) a_nil))))) (b_one (s_raise goes_of m_NoTree ec_NoTree rfl (a_c q_str a_nil))) b_nil)
   (b_cons (s_if (t_gt (q_len rfl n_len (a_c (q_v 0) a_nil)) (q_gint rfl g_MOST_ROADS)) (b_one (s_raise goes_of m_NoTree ec_NoTree rfl (a_c (q_fstr (q_gint rfl g_MOST_ROADS)) a_nil))) b_nil)
   (b_cons (s_set 1 sc_look_roads.nd (q_add (q_len rfl n_len (a_c (q_v 0) a_nil)) q_int))
   (b_one (s_for PassesOwn.leaving (i_list (q_v 0)) (g_name 2 sc_look_roads.nd) (b_one (s_if (t_not (t_val (q_fn F_is_road hr (by decide) rfl (a_c (q_v 2) (a_c (q_v 1) a_nil))))) (b_one (s_raise goes_of m_NoTree ec_NoTree rfl (a_c q_str a_nil))) b_nil))))))), ?_⟩
 rw [show start ["thing", "many", "road"] [x] = [some (x), none, none] from rfl]
 rcases list_cases hx0 with ⟨a, xs, rfl, ha⟩ | ⟨t, ht, hn, hf⟩
 ·have inv : ∀ b ys, V.ref a = .ref b → H b = some (.lst ys) → ys = xs := fun b ys e1 e2 => by cases e1; rw [ha] at e2; cases e2; rfl
  obtain ⟨hxl, hx2⟩ := hx1 a xs rfl ha
  walk_at "rd"
  simp only [tFor_list, kind_lst ha, ha]
  walk_at "rd"
  refine ite2 (fun c => ?_) (fun c => ?_)
  ·refine fun _ => q2 fun ⟨b, ys, e1, e2, hl, _⟩ => ?_
   rw [inv _ _ e1 e2] at hl
   omega
  refine listK_of (PlkX H a xs) ⟨_, rfl, rfl, fun j y hj => absurd hj (Nat.not_lt_zero _)⟩ (fun i σ H' _ ⟨o, _, e, _⟩ => by rw [e]; exact .of ha) (fun i y σ H' hi hP => ?_) (fun σ H' hP => ?_)
  ·obtain ⟨o, rfl, rfl, hj⟩ := hP
   walk_at "rd"
   simp only [sp_isroad]
   walk_at "rd"
   have hm := List.mem_of_getElem? hi
   refine ⟨hx2 y hm, fun r hr => ?_⟩
   cases r with
   | false =>
    rw [if_pos rfl]
    refine q2 fun ⟨b, ys, e1, e2, _, h3⟩ => ?_
    rw [inv _ _ e1 e2] at h3
    exact Bool.false_ne_true (hr.mpr (h3 y hm))
   | true =>
    rw [if_neg (by decide)]
    refine ⟨_, rfl, rfl, fun j z hj1 hj2 => ?_⟩
    by_cases hji : j < i
    ·exact hj j z hji hj2
    ·have : j = i := by omega
     subst this
     rw [hi] at hj2
     cases hj2
     exact hr.mp rfl
  ·obtain ⟨o, rfl, rfl, hj⟩ := hP
   refine q1 ⟨a, xs, rfl, ha, by omega, fun y hy => ?_⟩
   obtain ⟨j, hj2⟩ := List.getElem?_of_mem hy
   exact hj j y (List.getElem?_eq_some_iff.mp hj2).1 hj2
 ·walk_at "rd"
  simp only [ht]
  walk_at "rd"
  rw [if_pos hn]
  exact q2 fun ⟨b, ys, e1, e2, _⟩ => hf _ _ e1 e2
def RoadsW (H : Hp) (xs : List V) (rs : List (Nat × Rat)) : Prop := xs.length = rs.length ∧ ∀ (i : Nat) x r, xs[i]? = some x → rs[i]? = some r → ∃ p y, x = .ref p ∧ H p = some (.tup [.int (r.1 : Int), y])
theorem RoadsV.weak {H : Hp} {xs : List V} {rs : List (Nat × Rat)} (h : RoadsV H xs rs) : RoadsW H xs rs := ⟨h.1, fun i x r h1 h2 => let ⟨p, y, e, h3, _⟩ := h.2 i x r h1 h2; ⟨p, y, e, h3⟩⟩
theorem RoadsW.keep {H H' : Hp} {xs : List V} {rs : List (Nat × Rat)} (h : RoadsW H xs rs) (s : ∀ b ys, H b = some (.tup ys) → H' b = some (.tup ys)) : RoadsW H' xs rs := ⟨h.1, fun i x r h1 h2 => let ⟨p, y, e, h3⟩ := h.2 i x r h1 h2; ⟨p, y, e, s _ _ h3⟩⟩
def HasW (rs : List (Nat × Rat)) (k : Nat) : Prop := ∃ w, WayR rs k w ∧ w.length ≤ rs.length
def sp_wayX (CNT : Addr) : Sp := fun vs H Q E => ∃ (a : Addr) (xs : List V) (rs : List (Nat × Rat)) (k : Nat), vs = [.ref a, .int k] ∧ H a = some (.lst xs) ∧ RoadsW H xs rs ∧ (∀ r ∈ rs, r.1 ≤ rs.length) ∧ k ≤ rs.length ∧ rs.length ≤ 40 ∧
 (∀ p H' w, H p = none → Same H H' → H' p = some (.lst (natV w)) → WayR rs k w → w.length ≤ rs.length → Q (.ref p) H') ∧ (¬ HasW rs k → ∀ H', Same H H' → E (.ref CNT) none H')
def PwX (H0 : Hp) (a p : Addr) (k0 : Nat) (rs : List (Nat × Rat)) (σ : St) (H : Hp) : Prop := ∃ (k : Nat) (pre : List Nat), σ = [some (.ref a), some (.int k0), some (.ref p), some (.int k)] ∧ Same H0 H ∧ H p = some (.lst (natV pre)) ∧ k ≤ rs.length ∧ pre.length ≤ rs.length ∧
 (∀ w, WayR rs k w → WayR rs k0 (pre ++ w)) ∧ ∀ w0, WayR rs k0 w0 → ∃ w, w0 = pre ++ w ∧ WayR rs k w
def preLen (H : Hp) (p : Addr) : Nat := match H p with
 | some (.lst xs) => xs.length
 | _ => 0
theorem ok_wayX (F : FunD K "way_from" "way_from" s_way_from .none f fd) (n_len : mg "len" = none) (m_NoTree : mg "NoTree" = some (.ref CNT)) (ec_NoTree : ErrC K CNT) : FnOk P w K mg base (CX1 P w) 1 f fd ["roads", "k"] (sp_wayX CNT) := by
 refine okX F sc_way_from (fun vs H Q E h => ?_) (fun cdv A outer s H vs Q E hr h => ?_)
 ·obtain ⟨a, xs, rs, k, rfl, _⟩ := h; rfl
 obtain ⟨a, xs, rs, k0, rfl, ha, hR, hto, hk0, hrl, q1, q2⟩ := h
 refine ⟨_, (b_cons (s_set 2 sc_way_from.nd (q_lst a_nil))
   (b_cons (s_set 3 sc_way_from.nd (q_v 1))
   (b_cons (s_while PassesOwn.leaving (t_ne (q_v 3) q_int) (b_cons (s_if (t_eq (q_len rfl n_len (a_c (q_v 2) a_nil)) (q_len rfl n_len (a_c (q_v 0) a_nil))) (b_one (s_raise goes_of m_NoTree ec_NoTree rfl (a_c (q_fstr (q_v 1)) a_nil))) b_nil)
   (b_cons (s_expr (q_app (q_v 2) (a_c (q_v 3) a_nil)))
   (b_one (s_set 3 sc_way_from.nd (q_ixT (q_ixL (q_v 0) (q_sub (q_v 3) q_int)) q_int))))))
   (b_one (s_ret (q_v 2)))))), ?_⟩
 rw [show start ["roads", "k", "way", "place"] [.ref a, .int k0] = [some (.ref a), some (.int k0), none, none] from rfl]
 walk_at "rd"
 intro p H1 hp s1 e1
 refine while_w (PwX H a p k0 rs) (fun _ H => rs.length - preLen H p) ⟨k0, [], rfl, s1, e1, hk0, Nat.zero_le _, fun w h => h, fun w0 h => ⟨w0, rfl, h⟩⟩ ?_
 rintro σ H2 ⟨k, pre, rfl, s2, e2, hk, hpl, h1, h2⟩
 walk_at "rd"
 have hap : a ≠ p := fun z => by rw [z, hp] at ha; cases ha
 have pl : preLen H2 p = pre.length := by unfold preLen; rw [e2]; simp [natV]
 refine ite2 (fun hc => ?_) (fun hc => ?_)
 ·simp only [e2, s2 _ _ ha]
  walk_at "rd"
  have hxl := hR.1
  obtain ⟨k', rfl⟩ : ∃ k', k = k' + 1 := ⟨k - 1, by omega⟩
  have hkl : k' < rs.length := by omega
  have hkx : k' < xs.length := by omega
  have hr := List.getElem?_eq_getElem hkl
  obtain ⟨pr, y, ex, hpr⟩ := hR.2 k' _ _ (List.getElem?_eq_getElem hkx) hr
  have hrp : pr ≠ p := fun z => by rw [z, hp] at hpr; cases hpr
  have nl : (natV pre).length = pre.length := by simp [natV]
  refine ⟨fun σ' H' => preLen H' p = pre.length + 1 ∧ pre.length < rs.length ∧ PwX H a p k0 rs σ' H', fun σ' H' ⟨e, hlt, hP⟩ => ⟨_, by omega, rfl, hP⟩, ite2 (fun c => ?_) (fun c => ?_)⟩
  ·refine ⟨by omega, fun _ => q2 (fun ⟨w0, hw0, hl0⟩ => ?_) H2 s2⟩
   obtain ⟨w, e, hw⟩ := h2 w0 hw0
   cases hw with
   | cons h hw' =>
    have := congrArg List.length e
    simp at this
    omega
  ·refine ⟨by omega, xs, by rw [upd_ne hap]; exact s2 _ _ ha, xs[k'], ?_, pr, ex, _, by rw [upd_ne hrp]; exact s2 _ _ hpr, _, rfl, ?_, by omega, rs[k'].1, pre ++ [k' + 1], rfl, same_upd hp s2, by rw [upd_same]; simp [natV], hto _ (List.getElem_mem hkl), by simp; omega, fun w hw => ?_, fun w0 hw0 => ?_⟩
   ·rw [show (((k' + 1 : Nat)) : Int) - 1 = (k' : Int) by omega]
    exact atI_nat (List.getElem?_eq_getElem hkx)
   ·unfold preLen
    rw [upd_same]
    simp [natV]
   ·have := h1 _ (.cons hr hw)
    simpa using this
   ·obtain ⟨w, e, hw⟩ := h2 w0 hw0
    cases hw with
    | cons h hw' =>
     rw [hr] at h
     cases h
     exact ⟨_, by rw [e]; simp, hw'⟩
 ·have hk0 : k = 0 := by omega
  subst hk0
  have hw := h1 [] .nil
  rw [List.append_nil] at hw
  exact q1 p H2 pre hp s2 e2 hw hpl
def BadL (H : Hp) (x : V) : Prop := ¬ GoodL H x ∨ ∃ a xs rs k, x = .ref a ∧ H a = some (.lst xs) ∧ RoadsW H xs rs ∧ (∀ r ∈ rs, r.1 ≤ rs.length) ∧ rs.length ≤ 40 ∧ k ≤ rs.length ∧ ¬ HasW rs k
def sp_initX (C CNT : Addr) : Sp := fun vs H Q E => ∃ (x dx : Addr) (y : V), vs = [.ref x, y] ∧ H x = some (.ins C dx []) ∧ LT H y ∧ BadL H y ∧ ∀ H', (∀ b o, b ≠ x → H b = some o → H' b = some o) → E (.ref CNT) none H'
theorem ok_initX (F : FunD K "__init__" "Tree.__init__" s_Tree___init__ .none f fd) (n_list : mg "list" = none) (n_len : mg "len" = none) (n_range : mg "range" = none) (cls_Tree : Cls K CT) (nf_lanes : NoAttr K CT "lanes") (nf_ways : NoAttr K CT "ways")
  (F_look_roads : Fn P w K mg base (CX1 P w) 5 "look_roads" ["thing"] (sp_lookX CNT)) (F_way_from : Fn P w K mg base (CX1 P w) 1 "way_from" ["roads", "k"] (sp_wayX CNT)) : FnOk P w K mg base (CX1 P w) 6 f fd ["self", "roads"] (sp_initX CT CNT) := by
 refine okX F sc_Tree___init__ (fun vs H Q E h => ?_) (fun cdv A outer s H vs Q E hr h => ?_)
 ·obtain ⟨x, dx, y, rfl, _⟩ := h; rfl
 obtain ⟨x, dx, y, rfl, hx, hL, hB, q⟩ := h
 refine ⟨_, (b_cons (s_expr (q_fnX goes_of F_look_roads hr (by decide) rfl (a_c (q_v 1) a_nil)))
   (b_cons (s_fld (q_v 0) (q_list rfl n_list (a_c (q_v 1) a_nil)))
   (b_one (s_fld (q_v 0) (q_compX goes_of (blkC ["k"] [1] ["roads"]) (i_rng1 rfl n_range (a_c (q_add (q_len rfl n_len (a_c (q_v 1) a_nil)) q_int) a_nil)) (by exact fun s H fp => (g_name 0 (show List.Nodup (["k", "roads"] : List Str) from by decide +kernel))) (by exact fun s H fp => (q_fnP blk_pass F_way_from hr (by decide) rfl (a_c (q_v 1) (a_c (q_v 0) a_nil))))))))), ?_⟩
 rw [show start ["self", "roads"] [.ref x, y] = [some (.ref x), some (y)] from rfl]
 walk_at "rd"
 simp only [sp_lookX]
 walk_at "rd"
 refine ⟨hL, fun hG => ?_, fun _ => q H fun b o _ e => e⟩
 rcases hB with hB | ⟨a, xs, rs, k, rfl, ha, hR, hto, hrl, hk, hW⟩
 ·exact absurd hG hB
 simp only [rList]
 walk_at "rd"
 refine ⟨xs, .inl (.of ha), fun l H1 hl1 s1 e1 => ?_⟩
 refine ⟨CT, dx, [], s1 _ _ hx, cls_Tree, nf_lanes, by decide, ?_⟩
 have hax : a ≠ x := ne_of ha hx (by intro z; cases z)
 have k1 : ∀ b o, b ≠ x → H b = some o → upd H1 x (.ins CT dx (putF (Str.ofString "lanes") (.ref l) [])) b = some o := fun b o hb e => by rw [upd_ne hb]; exact s1 _ _ e
 have ha2 : upd H1 x (.ins CT dx (putF (Str.ofString "lanes") (.ref l) [])) a = some (.lst xs) := k1 _ _ hax ha
 generalize upd H1 x (.ins CT dx (putF (Str.ofString "lanes") (.ref l) [])) = H2 at k1 ha2 ⊢
 simp only [tComp, iRng1, cxK]
 walk_at "rd"
 have hxl := hR.1
 refine ⟨xs, .inl ha2, by omega, by omega, ?_⟩
 rw [show capOf [some (V.ref x), some (V.ref a)] [1] = [some (V.ref a)] from rfl]
 have tk : ∀ H3, Same H2 H3 → RoadsW H3 xs rs := fun H3 sm => hR.keep fun b ys e => sm _ _ (k1 b _ (ne_of e hx (by intro z; cases z)) e)
 refine blk_rng (fun acc i ys H' => Same H2 H' ∧ H' acc = some (.lst ys) ∧ ys.length = i ∧ i ≤ 50 ∧ ∀ j, j < i → HasW rs j)
  (fun acc H3 hn sm e => ⟨sm, e, rfl, by omega, fun j hj => absurd hj (Nat.not_lt_zero _)⟩) (fun acc i ys H3 ⟨_, e, hl, hi, _⟩ => ⟨e, by omega⟩) (fun acc i ys H3 os hn hi hP ol => ?_) (fun acc ys H3 hn hP => ?_)
 ·obtain ⟨sm, e, hyl, hi2, hE⟩ := hP
  obtain ⟨o, rfl⟩ : ∃ o, os = [o] := by match os, ol with | [o], _ => exact ⟨o, rfl⟩
  walk_at "rd"
  refine ⟨[some (.int (i : Int))], rfl, rfl, ?_⟩
  refine ⟨a, xs, rs, i, rfl, sm _ _ ha2, tk _ sm, hto, by omega, hrl, fun p' H4 w hp' s4 e4 hw hwl => ⟨s4 _ _ e, same_upd hn (sm.trans s4), upd_same, by simp [hyl], by omega, fun j hj => ?_⟩, fun _ H4 s4 => q H4 fun b o hb e => (sm.trans s4) _ _ (k1 b o hb e)⟩
  by_cases hji : j < i
  ·exact hE j hji
  ·have : j = i := by omega
   subst this
   exact ⟨w, hw, hwl⟩
 ·obtain ⟨sm, e, hyl, hi2, hE⟩ := hP
  exact absurd (hE k (by omega)) hW
end
section
variable {P : Program} {w : World} {K : PySem.W.Frag} {mg : Str → Option Value} {base : Heap} {f : Addr} {fd : FuncData} {CT CNP CNT CSE : Addr}
def sp_leads (C CNP : Addr) : Sp := fun vs H Q E => ∃ x rs k, vs = [x, .int k] ∧ TreeV C H x rs ∧ (∀ (k' : Nat) r, k = (k' : Int) + 1 → rs[k']? = some r → Q (.int (r.1 : Int)) H) ∧ (¬ inR rs k → E (.ref CNP) none H)
theorem ok_leads (F : FunD K "leads_to" "Tree.leads_to" s_Tree_leads_to .none f fd) (cls_Tree : Cls K CT) (nf_lanes : NoAttr K CT "lanes")
  (M_look_road : Mth P w K mg base (CX1 P w) 3 CT "look_road" ["self", "k"] (sp_lookR CT CNP)) : FnOk P w K mg base (CX1 P w) 4 f fd ["self", "k"] (sp_leads CT CNP) := by
 refine okX F sc_Tree_leads_to (fun vs H Q E h => ?_) (fun cdv A outer s H vs Q E hr h => ?_)
 ·obtain ⟨x, rs, k, rfl, _⟩ := h; rfl
 obtain ⟨x, rs, k, rfl, hT, q1, q2⟩ := h
 refine ⟨_, (b_cons (s_expr (q_methX goes_of M_look_road hr (by decide) (q_v 0) (a_c (q_v 1) a_nil)))
   (b_one (s_ret (q_ixT (q_ixL (q_fld (q_v 0)) (q_sub (q_v 1) q_int)) q_int)))), ?_⟩
 rw [show start ["self", "k"] [x, .int k] = [some (x), some (.int k)] from rfl]
 walk_at "rd"
 simp only [sp_lookR]
 walk_at "rd"
 obtain ⟨a, dx, la, wa, ls, ws, rfl, h1, h2, h3, _⟩ := id hT
 refine ⟨a, rfl, dx, _, h1, rfl, rs, hT, fun hin => ?_, q2⟩
 obtain ⟨k', hk'⟩ : ∃ k' : Nat, k = (k' : Int) + 1 := ⟨(k - 1).toNat, by unfold inR at hin; omega⟩
 subst hk'
 have hl := h3.1
 have hlr : k' < rs.length := by unfold inR at hin; omega
 have hls : k' < ls.length := by omega
 obtain ⟨p, y, e, e2, _⟩ := h3.2 k' _ _ (List.getElem?_eq_getElem hls) (List.getElem?_eq_getElem hlr)
 refine ⟨a, rfl, CT, dx, _, h1, cls_Tree, nf_lanes, .ref la, rfl, la, rfl, ls, h2, _, ?_, p, e, _, e2, _, rfl, q1 k' _ rfl (List.getElem?_eq_getElem hlr)⟩
 rw [show (k' : Int) + 1 - 1 = (k' : Int) by omega]
 exact atI_nat (List.getElem?_eq_getElem hls)
end
theorem LT.of {H : Hp} {l : Addr} {zs : List V} (e : H l = some (.lst zs)) (hl : zs.length ≤ 1000) (h : ∀ y ∈ zs, Thing2 H y) : LT H (.ref l) := ⟨(th_lst e).1, fun a ys e1 e2 => by
 cases e1
 rw [e] at e2
 cases e2
 exact ⟨hl, h⟩⟩
theorem look0 {CNT : Addr} {vs : List V} {H : Hp} {Q : VK} {E : XK} (h : sp_look vs H Q E) : sp_lookX CNT vs H Q E0 := by
 obtain ⟨a, xs, rfl, ha, hl, hx, q⟩ := h
 have g : GoodL H (.ref a) := ⟨a, xs, rfl, ha, hl, fun y hy => (hx y hy).2⟩
 exact ⟨_, rfl, LT.of ha (by omega) fun y hy => (hx y hy).1, fun _ => q, fun z => absurd g z⟩
theorem wayf0 {CNT : Addr} {vs : List V} {H : Hp} {Q : VK} {E : XK} (h : sp_wayf vs H Q E) : sp_wayX CNT vs H Q E0 := by
 obtain ⟨a, xs, rs, k, w, rfl, ha, hR, hw, hwl, hrl, hk, hto, q⟩ := h
 exact ⟨a, xs, rs, k, rfl, ha, hR.weak, hto, hk, hrl, fun p H' w' h1 h2 h3 h4 _ => q p H' h1 h2 (by rw [← hw.uniq h4]; exact h3), fun z => absurd ⟨w, hw, hwl⟩ z⟩
def ListV {α : Type} (R : Hp → V → α → Prop) (H : Hp) (xs : List V) (as : List α) : Prop := xs.length = as.length ∧ ∀ (i : Nat) x a, xs[i]? = some x → as[i]? = some a → R H x a
def Keeps {α : Type} (R : Hp → V → α → Prop) : Prop := ∀ H H' v a, R H v a → (∀ b ys, H b = some (.tup ys) → H' b = some (.tup ys)) → R H' v a
theorem ListV.keep {α : Type} {R : Hp → V → α → Prop} (kR : Keeps R) {H H' : Hp} {xs : List V} {as : List α} (h : ListV R H xs as) (s : ∀ b ys, H b = some (.tup ys) → H' b = some (.tup ys)) : ListV R H' xs as := ⟨h.1, fun i x a h1 h2 => kR _ _ _ _ (h.2 i x a h1 h2) s⟩
theorem ListV.snoc {α : Type} {R : Hp → V → α → Prop} {H : Hp} {xs : List V} {as : List α} {x : V} {a : α} (h : ListV R H xs as) (hx : R H x a) : ListV R H (xs ++ [x]) (as ++ [a]) := ⟨by simp [h.1], fun i y r h1 h2 => by
 by_cases c : i < xs.length
 ·rw [List.getElem?_append_left c] at h1
  rw [List.getElem?_append_left (by rw [← h.1]; exact c)] at h2
  exact h.2 i y r h1 h2
 ·have hi : i = xs.length := by have := (List.getElem?_eq_some_iff.mp h1).1; simp at this; omega
  subst hi
  rw [List.getElem?_append_right (Nat.le_refl _)] at h1
  rw [h.1, List.getElem?_append_right (Nat.le_refl _)] at h2
  simp at h1 h2
  subst h1
  subst h2
  exact hx⟩
def Fits (c : Int) : Prop := Builtin.Int.intBits c ≤ 1048576
theorem fits_mul {c v m : Int} (h : Fits c) (hv : v.natAbs < 2 ^ 60) (hm : m.natAbs < 2 ^ 1000) : IntMulOk (c + v) m := by
 have k1 : Builtin.Int.intBits v ≤ 60 := bits_lt hv
 have k2 : Builtin.Int.intBits m ≤ 1000 := bits_lt hm
 refine PyProof.Rows.mulOk_of_bits (PyProof.Rows.bits_add (m := 1048576) (n := 60) h k1) k2 (by decide)
def sp_numbersE : Sp := fun vs H Q _ => ∃ c n : Int, vs = [.int c, .int n] ∧ 0 ≤ n ∧ n < 1000 ∧ ∀ p H' (xs : List Int), H p = none → Same H H' → H' p = some (.lst (xs.map V.int)) → (xs.length : Int) = n → (∀ x ∈ xs, 0 ≤ x ∧ x < 99989) → Q (.ref p) H'
def PnE (H0 : Hp) (p : Addr) (c n : Int) (i : Nat) (σ : St) (H : Hp) : Prop := ∃ (r : Int) (ok oo : Option V) (xs : List Int), σ = [some (.int c), some (.int n), some (.ref p), some (.int r), ok, oo] ∧ Same H0 H ∧ H p = some (.lst (xs.map V.int)) ∧ xs.length = i ∧ ∀ x ∈ xs, 0 ≤ x ∧ x < 99989
section
variable {P : Program} {w : World} {K : PySem.W.Frag} {mg : Str → Option Value} {base : Heap} {f : Addr} {fd : FuncData}
theorem ok_numbersE (F : Fun K "_law_numbers" "_law_numbers" s_law_numbers f fd) (n_range : mg "range" = none) : FnOk P w K mg base CX0 2 f fd ["_law_cell", "_law_many"] sp_numbersE := by
 refine okQ F sc_law_numbers (fun vs H Q E h => ?_) (fun cdv A outer s H vs Q E hr h => ?_)
 ·obtain ⟨c, n, rfl, _⟩ := h; rfl
 obtain ⟨c, n, rfl, h1, h2, q⟩ := h
 refine ⟨_, (b_cons (s_set 2 sc_law_numbers.nd (q_lst a_nil))
   (b_cons (s_set 3 sc_law_numbers.nd (q_v 0))
   (b_cons (s_for PassesOwn.never (i_rng1 rfl n_range (a_c (q_v 1) a_nil)) (g_name 4 sc_law_numbers.nd) (b_one (s_if (t_ge (q_v 0) (q_pow q_int q_int)) (b_cons (s_expr (q_app (q_v 2) (a_c (q_mod (q_v 3) q_int) a_nil)))
   (b_one (s_set 3 sc_law_numbers.nd (q_fdiv (q_v 3) q_int)))) (b_cons (s_set 5 sc_law_numbers.nd (q_mod (q_add (q_add (q_mul (q_v 0) (q_add q_int (q_mul q_int (q_v 4)))) (q_mul q_int (q_v 4))) q_int) q_int))
   (b_one (s_expr (q_app (q_v 2) (a_c (q_mod (q_mul (q_v 5) (q_add (q_add (q_v 5) q_int) (q_v 4))) q_int) a_nil))))))))
   (b_one (s_ret (q_v 2)))))), ?_⟩
 rw [show start ["_law_cell", "_law_many", "_law_found", "_law_rest", "_law_k", "_law_one"] [.int c, .int n] = [some (.int c), some (.int n), none, none, none, none] from rfl]
 walk_at "rd"
 intro p H1 hp s1 e1
 simp only [tFor_rng1]
 walk_at "rd"
 refine ⟨by omega, by omega, ?_⟩
 refine rngK_of (PnE H p c n) ⟨_, _, _, [], rfl, s1, e1, rfl, fun x hx => by cases hx⟩ (fun i σ H2 hi hP => ?_) (fun σ H2 hP => ?_)
 ·obtain ⟨r, ok, oo, xs, rfl, s2, e2, hl, hx⟩ := hP
  walk_at "rd"
  have step : ∀ (r' v : Int) (oo' : Option V), 0 ≤ v → v < 99989 → PnE H p c n (i + 1) [some (V.int c), some (V.int n), some (V.ref p), some (V.int r'), some (V.int (i : Int)), oo'] (upd H2 p (.lst (xs.map V.int ++ [.int v]))) := fun r' v oo' a b =>
   ⟨r', _, _, xs ++ [v], rfl, same_upd hp s2, by rw [upd_same, List.map_append]; rfl, by simp [hl], fun x hm => by
    rcases List.mem_append.mp hm with z | z
    ·exact hx x z
    ·have z : x = v := by simpa using z
     rw [z]; exact ⟨a, b⟩⟩
  have hlen : (xs.map V.int).length < 1000000 := by rw [List.length_map]; omega
  refine ite2 (fun _ => ?_) (fun _ => ?_)
  ·exact ⟨⟨_, e2⟩, _, e2, hlen, step _ _ _ (Int.emod_nonneg _ (by decide)) (Int.lt_trans (Int.emod_lt_of_pos _ (by decide)) (by decide))⟩
  ·have u0 : ∀ u : Int, 0 ≤ u % 99991 ∧ u % 99991 < 99991 := fun u => ⟨Int.emod_nonneg _ (by decide), Int.emod_lt_of_pos _ (by decide)⟩
   have hu := u0 (c * (48271 + 2 * (i : Int)) + 7919 * (i : Int) + 5)
   generalize (c * (48271 + 2 * (i : Int)) + 7919 * (i : Int) + 5) % 99991 = o at hu ⊢
   exact ⟨.inr ⟨by omega, by omega⟩, ⟨_, e2⟩, .inl ⟨by omega, by omega⟩, _, e2, hlen, step _ _ _ (Int.emod_nonneg _ (by decide)) (Int.emod_lt_of_pos _ (by decide))⟩
 ·obtain ⟨r, ok, oo, xs, rfl, s2, e2, hl, hx⟩ := hP
  walk_at "rd"
  exact q p H2 xs hp s2 e2 (by omega) hx
def sp_priceE : Sp := fun vs H Q _ => ∃ (v c : Int) (b : Bool), vs = [.int v, .bl b, .int c] ∧ 0 ≤ v ∧ v < 99989 ∧ Fits c ∧ ∀ r H' q, Same H H' → SzQ 98 q → 0 ≤ q.num → RatV H' r q → Q r H'
theorem ok_priceE (F : Fun K "_law_price_by" "_law_price_by" s_law_price_by f fd) (F_law_low : Fn P w K mg base CX0 2 "_law_low" ["_law_top", "_law_bottom"] sp_lowQ) : FnOk P w K mg base CX0 3 f fd ["_law_v", "_law_wide", "_law_cell"] sp_priceE := by
 refine okQ F sc_law_price_by (fun vs H Q E h => ?_) (fun cdv A outer s H vs Q E hr h => ?_)
 ·obtain ⟨v, c, b, rfl, _⟩ := h; rfl
 obtain ⟨v, c, b, rfl, hv0, hv1, hc, q⟩ := h
 refine ⟨_, (b_cons (s_if (t_val (q_v 1)) (b_cons (s_set 3 sc_law_price_by.nd (q_mod (q_mul (q_mul (q_add (q_mod (q_v 2) (q_pow q_int q_int)) (q_v 0)) q_int) (q_pow (q_add (q_v 0) q_int) q_int)) (q_sub (q_pow q_int q_int) q_int)))
   (b_one (s_ret (q_fn F_law_low hr (by decide) rfl (a_c (q_v 3) (a_c (q_add q_int (q_mod (q_mul (q_mulL (q_add (q_v 2) (q_v 0)) (q_pow q_int q_int)) (q_add (q_v 0) q_int)) (q_sub (q_pow q_int q_int) q_int))) a_nil)))))) b_nil)
   (b_one (s_ret (q_fn F_law_low hr (by decide) rfl (a_c (q_mod (q_v 0) q_int) (a_c (q_add q_int (q_mod (q_fdiv (q_v 0) q_int) q_int)) a_nil)))))), ?_⟩
 rw [show start ["_law_v", "_law_wide", "_law_cell", "_law_top"] [.int v, .bl b, .int c] = [some (.int v), some (.bl b), some (.int c), none] from rfl]
 walk_at "rd"
 simp only [sp_lowQ]
 walk_at "rd"
 have fin : ∀ t d : Int, 0 ≤ t → t.natAbs < 2 ^ 98 → 0 < d → d.natAbs < 2 ^ 98 → Big d ∧ 0 < d ∧ ∀ (r : V) (H' : Hp), Same H H' → RatV H' r (Rat.divInt t d) → Q r H' := fun t d h1 h2 h3 h4 =>
  ⟨Big.of h4 (by decide), h3, fun r H' s v => q r H' _ s (SzQ.of (by omega) h2 h4) (num_nonneg h1 h3) v⟩
 have key : ∀ t d : Int, 0 ≤ t → t < 99999999999999999999999999999 → 0 ≤ d → d < 99999999999999999999999999999 → Big (1 + d) ∧ 0 < 1 + d ∧ ∀ (r : V) (H' : Hp), Same H H' → RatV H' r (Rat.divInt t (1 + d)) → Q r H' := fun t d h1 h2 h3 h4 => fin t (1 + d) h1 (by omega) (by omega) (by omega)
 refine ite2 (fun _ => ?_) (fun _ => ?_)
 ·have hp : (v + 3) ^ 3 = (((v.toNat + 3) ^ 3 : Nat) : Int) := by
   rw [Int.natCast_pow]
   congr 1
   omega
  have hq := Nat.le_trans (Nat.pow_le_pow_left (show v.toNat + 3 ≤ 99991 by omega) 3) (show 99991 ^ 3 ≤ 999999999999999 by decide)
  have hu : 0 ≤ (v + 3) ^ 3 ∧ (v + 3) ^ 3 ≤ 999999999999999 := by
   rw [hp]
   generalize (v.toNat + 3) ^ 3 = u at hq
   omega
  refine ⟨by omega, .inr ⟨?_, ?_⟩, fits_mul hc (by omega) (by decide), .inr ⟨by omega, by omega⟩, key _ _ (Int.emod_nonneg _ (by decide)) (Int.emod_lt_of_pos _ (by decide)) (Int.emod_nonneg _ (by decide)) (Int.emod_lt_of_pos _ (by decide))⟩
  ·exact Int.lt_of_lt_of_le (by decide) hu.1
  ·exact Int.lt_of_le_of_lt hu.2 (by decide)
 ·exact fin _ _ (by omega) (by omega) (by omega) (by omega)
end
def tsE (n t : Nat) : List Int := (List.range n).map fun j => (((j + t) % n : Nat) : Int) + 1
theorem tsE_at {n t j : Nat} (h : j < n) : (tsE n t)[j]? = some ((((j + t) % n : Nat) : Int) + 1) := by
 unfold tsE
 rw [List.getElem?_map, List.getElem?_range h]
 rfl
theorem mod_two {n t j : Nat} (ht : t < n) (hj : j < n) : (j + t) % n = if j + t < n then j + t else j + t - n := by
 split
 ·rename_i h; exact Nat.mod_eq_of_lt h
 ·rename_i h
  rw [Nat.mod_eq_sub_mod (by omega), Nat.mod_eq_of_lt (by omega)]
theorem mod_inj {n t a b : Nat} (ht : t < n) (ha : a < n) (hb : b < n) (e : (a + t) % n = (b + t) % n) : a = b := by
 rw [mod_two ht ha, mod_two ht hb] at e
 split at e <;> split at e <;> omega
theorem tsE_perm {n t : Nat} (ht : t < n ∨ n = 0) : (tsE n t).Perm (intL 1 n) := by
 rcases ht with ht | rfl
 ·refine (List.perm_ext_iff_of_nodup ?_ ints_nodup).mpr fun x => ?_
  ·unfold tsE
   refine List.Pairwise.map _ (R := fun a b => a < n ∧ b < n ∧ a ≠ b) (fun a b h => ?_) ?_
   ·obtain ⟨ha, hb, hne⟩ := h
    intro e
    exact hne (mod_inj ht ha hb (Int.ofNat_inj.mp ((Int.add_left_inj 1).mp e)))
   ·exact List.pairwise_lt_range.imp_of_mem fun ha hb h => ⟨List.mem_range.mp ha, List.mem_range.mp hb, by omega⟩
  ·constructor
   ·intro h
    obtain ⟨j, hj, rfl⟩ := List.mem_map.mp h
    have h1 := Nat.mod_lt (j + t) (show n > 0 by omega)
    have := mem_ints (lo := 1) (n := n) h1
    rw [Int.add_comm] at this
    exact this
   ·intro h
    have := ints_mem h
    obtain ⟨k, rfl⟩ : ∃ k : Nat, x = (k : Int) + 1 := ⟨(x - 1).toNat, by omega⟩
    refine List.mem_map.mpr ⟨if t ≤ k then k - t else k + n - t, List.mem_range.mpr (by split <;> omega), ?_⟩
    have hj : (if t ≤ k then k - t else k + n - t) < n := by split <;> omega
    rw [mod_two ht hj]
    split <;> split <;> omega
 ·exact .refl _
theorem mod_nat (x : Int) (i : Nat) : ∃ k : Nat, x % (1 + (i : Int)) = (k : Int) ∧ k ≤ i := by
 have h : (0 : Int) < 1 + (i : Int) := by omega
 have a0 := Int.emod_nonneg x (Int.ne_of_gt h)
 have a1 := Int.emod_lt_of_pos x h
 exact ⟨(x % (1 + (i : Int))).toNat, (Int.toNat_of_nonneg a0).symm, by omega⟩
theorem far_to {n t k i : Nat} (k0 : 0 < k) (k1 : k ≤ i) (hi : i < n) : ∃ to : Nat, 1 + ((k : Int) - 1 + (t : Int)) % (n : Int) = (to : Int) ∧ (to = 0 ∨ ∃ j', j' < i ∧ (tsE n t)[j']? = some (to : Int)) := by
 rw [show (k : Int) - 1 + (t : Int) = ((k - 1 + t : Nat) : Int) by omega, ← Int.natCast_emod]
 refine ⟨(k - 1 + t) % n + 1, by omega, .inr ⟨k - 1, by omega, ?_⟩⟩
 rw [tsE_at (by omega)]
 congr 1
section
variable {P : Program} {w : World} {K : PySem.W.Frag} {mg : Str → Option Value} {base : Heap} {f : Addr} {fd : FuncData}
def sp_roadsE : Sp := fun vs H Q _ => ∃ c m : Int, vs = [.int c, .int m] ∧ Fits c ∧ 1 ≤ m ∧ m ≤ 20 ∧ ∀ p H' xs rs, H p = none → Same H H' → H' p = some (.lst xs) → RoadsV H' xs rs → TreeOk rs → rs.length ≤ 20 → (∀ r ∈ rs, SzQ 98 r.2 ∧ 0 ≤ r.2.num) → Q (.ref p) H'
def PqE (H0 : Hp) (pn acc : Addr) (c m : Int) (n t : Nat) (b : Bool) (xs : List Int) (i : Nat) (σ : St) (H : Hp) : Prop := ∃ (o1 o2 : Option V) (ys : List V), σ = [some (.int c), some (.int m), some (.ref pn), some (.int (n : Int)), some (.bl b), some (.int (t : Int)), some (.ref acc), o1, o2] ∧
 Same H0 H ∧ H pn = some (.lst (xs.map V.int)) ∧ H acc = some (.lst ys) ∧ ys.length = n ∧ ∀ j, j < i → Laid H (tsE n t) ys j
theorem laid_next {H H6 H8 : Hp} {pn acc p : Addr} {c m : Int} {n t i to : Nat} {b : Bool} {xs : List Int} {ys : List V} {r : V} {qr : Rat} (h0 : H acc = none) (sm6 : Same H H6) (S : Same H6 H8) (en : H6 pn = some (.lst (xs.map V.int))) (ea : H6 acc = some (.lst ys)) (hna : pn ≠ acc) (hyl : ys.length = n) (hdone : ∀ j, j < i → Laid H6 (tsE n t) ys j) (hn0 : t < n) (hi : i < n)
  (e8 : H8 p = some (.tup [.int (to : Int), r])) (vr : RatV H8 r qr) (zq : SzQ 98 qr) (hqn : 0 ≤ qr.num) (hto : to = 0 ∨ ∃ j', j' < i ∧ (tsE n t)[j']? = some (to : Int)) :
  PqE H pn acc c m n t b xs (i + 1) [some (V.int c), some (V.int m), some (V.ref pn), some (V.int (n : Int)), some (V.bl b), some (V.int (t : Int)), some (V.ref acc), some (V.int (1 + (i : Int))), some (V.int (to : Int))] (upd H8 acc (HO.lst (ys.set ((i + t) % n) (V.ref p)))) := by
 have ea8 := S _ _ ea
 have hix : (i + t) % n < ys.length := by rw [hyl]; exact Nat.mod_lt _ (by omega)
 refine ⟨_, _, ys.set ((i + t) % n) (.ref p), rfl, same_upd h0 (sm6.trans S), by rw [upd_ne hna]; exact S _ _ en, upd_same, by simpa using hyl, fun j hj => ?_⟩
 by_cases hji : j = i
 ·subst hji
  exact ⟨(j + t) % n, .ref p, (to, qr), tsE_at hi, List.getElem?_set_self hix, RoadV.upd ⟨p, r, rfl, e8, vr⟩ ea8, zq, hqn, hto⟩
 ·obtain ⟨k', x, r', g1, g2, g3, g4, g5, g6⟩ := hdone j (by omega)
  have hjn : j < n := by omega
  have hkk : (i + t) % n ≠ k' := fun z => by
   rw [tsE_at hjn, Option.some.injEq] at g1
   have g7 : (j + t) % n = (i + t) % n := by rw [z]; exact Int.ofNat_inj.mp ((Int.add_left_inj 1).mp g1)
   exact hji (mod_inj hn0 hjn hi g7)
  exact ⟨k', x, r', g1, by rw [List.getElem?_set_ne hkk]; exact g2, (g3.same S).upd ea8, g4, g5, g6⟩
theorem ok_roadsE (F : Fun K "_law_roads_by" "_law_roads_by" s_law_roads_by f fd) (n_range : mg "range" = none) (n_min : mg "min" = none) (n_max : mg "max" = none) (F_law_numbers : Fn P w K mg base CX0 2 "_law_numbers" ["_law_cell", "_law_many"] sp_numbersE)
  (F_law_price_by : Fn P w K mg base CX0 3 "_law_price_by" ["_law_v", "_law_wide", "_law_cell"] sp_priceE) : FnOk P w K mg base CX0 4 f fd ["_law_cell", "_law_most"] sp_roadsE := by
 refine okQ F sc_law_roads_by (fun vs H Q E h => ?_) (fun cdv A outer s H vs Q E hr h => ?_)
 ·obtain ⟨c, m, rfl, _⟩ := h; rfl
 obtain ⟨c, m, rfl, hc, hm0, hm1, q⟩ := h
 obtain ⟨t1, ht1, hr1⟩ : ∃ t, QB (cxOf CX0 P w K mg base ["_law_cell", "_law_most", "_law_xs", "_law_many", "_law_wide", "_law_turn", "_law_roads", "_law_k", "_law_to"] "_law_roads_by" (defScope s_law_roads_by) f cdv A outer s H E).nox ((defBody s_law_roads_by).drop 4) t ∧ ∀ (n : Nat) (b : Bool) (pn : Addr) (xs : List Int) (H1 : Hp), (n : Int) < m → H pn = none → Same H H1 → H1 pn = some (.lst (xs.map V.int)) → (xs.length : Int) = 2 * m + 6 → (∀ x ∈ xs, 0 ≤ x ∧ x < 99989) →
   t { nx := fun _ H' => Q .non H', rt := Q } [some (.int c), some (.int m), some (.ref pn), some (.int (n : Int)), some (.bl b), none, none, none, none] H1 := by
  refine ⟨_, (b_cons (s_set 5 sc_law_roads_by.nd (q_mod (q_ixL (q_v 2) q_int) (q_max rfl n_max (a_c q_int (a_c (q_v 3) a_nil)))))
   (b_cons (s_setComp 6 (blk0 ["_law_k"]) (i_rng1 rfl n_range (a_c (q_v 3) a_nil)) (by exact fun s H fp => (g_name 0 (show List.Nodup (["_law_k"] : List Str) from by decide +kernel))) (by exact fun s H fp => q_non) (g_name 6 sc_law_roads_by.nd))
   (b_cons (s_for PassesOwn.never (i_rng2 rfl n_range (a_c q_int (a_c (q_add (q_v 3) q_int) a_nil))) (g_name 7 sc_law_roads_by.nd) (b_cons (s_set 8 sc_law_roads_by.nd (q_mod (q_ixL (q_v 2) (q_add (q_mul q_int (q_v 7)) q_int)) (q_v 7)))
   (b_cons (s_if (t_w (w_and (t_eq (q_mod (q_ixL (q_v 2) q_int) q_int) q_int) (w_and1 (t_gt (q_mod (q_ixL (q_v 2) (q_add (q_mul q_int (q_v 7)) q_int)) q_int) q_int)))) (b_one (s_set 8 sc_law_roads_by.nd (q_sub (q_v 7) q_int))) b_nil)
   (b_cons (s_if (t_gt (q_v 8) q_int) (b_one (s_set 8 sc_law_roads_by.nd (q_add q_int (q_mod (q_add (q_sub (q_v 8) q_int) (q_v 5)) (q_v 3))))) b_nil)
   (b_one (s_asg (q_tup (a_c (q_v 8) (a_c (q_fn F_law_price_by hr (by decide) rfl (a_c (q_ixL (q_v 2) (q_add (q_mul q_int (q_v 7)) q_int)) (a_c (q_v 4) (a_c (q_v 0) a_nil)))) a_nil))) (g_sub (q_v 6) (q_mod (q_add (q_sub (q_v 7) q_int) (q_v 5)) (q_v 3)))))))))
   (b_one (s_ret (q_v 6)))))), fun n b pn xs H1 hn hpn s1 e1 hxl hxb => ?_⟩
  walk_at "rd"
  simp only [tComp, iRng1, cxK]
  walk_at "rd"
  have at_ : ∀ {j : Nat} (h : j < xs.length), atI (xs.map V.int) (j : Int) = some (.int xs[j]) := fun {j} h => atI_nat (by rw [List.getElem?_map, List.getElem?_eq_getElem h]; rfl)
  have hl2 : 2 < xs.length := by omega
  have hl3 : 3 < xs.length := by omega
  obtain ⟨t, et, htn⟩ : ∃ t : Nat, xs[2] % (if 1 < (n : Int) then (n : Int) else 1) = (t : Int) ∧ (t < n ∨ n = 0) := by
   have hM : 0 < (if 1 < (n : Int) then (n : Int) else 1) ∧ ((if 1 < (n : Int) then (n : Int) else 1) ≤ (n : Int) ∨ n = 0) := by split <;> omega
   generalize (if 1 < (n : Int) then (n : Int) else 1) = M at hM ⊢
   have a0 := Int.emod_nonneg xs[2] (b := M) (by omega)
   have a1 := Int.emod_lt_of_pos xs[2] hM.1
   exact ⟨(xs[2] % M).toNat, by omega, by omega⟩
  refine ⟨_, e1, _, at_ hl2, xs[2], rfl, by split <;> omega, by omega, by omega, ?_⟩
  rw [et, show capOf [some (V.int c), some (V.int m), some (V.ref pn), some (V.int (n : Int)), some (V.bl b), some (V.int (t : Int)), none, none, none] [] = [] from rfl, Int.toNat_natCast]
  clear et hl2
  refine blk_rng (fun acc i ys H' => Same H1 H' ∧ H' acc = some (.lst ys) ∧ ys.length = i ∧ i ≤ 20) (fun acc H2 hn sm e => ⟨sm, e, rfl, by omega⟩)
   (fun acc i ys H2 h => ⟨h.2.1, by omega⟩) (fun acc i ys H2 os hn hi h ol => ?_) (fun acc ys H2 hn h => ?_)
  ·obtain ⟨sm, e, hy, _⟩ := h
   obtain ⟨o, rfl⟩ : ∃ o, os = [o] := List.length_eq_one_iff.mp ol
   walk_at "rd"
   exact ⟨[_], rfl, rfl, e, same_upd hn sm, upd_same, by simp [hy], by omega⟩
  ·obtain ⟨sm, ea, hy, _⟩ := h
   have hna : pn ≠ acc := ne_of_none e1 hn
   have h0 : H acc = none := s1.free hn
   rw [tFor_rng2]
   walk_at "rd"
   refine ⟨by omega, by omega, ?_⟩
   rw [show ((n : Int) + 1 - 1).toNat = n by omega]
   refine rngK_of (PqE H pn acc c m n t b xs) ⟨_, _, ys, rfl, s1.trans sm, sm _ _ e1, ea, hy, fun j hj => absurd hj (Nat.not_lt_zero j)⟩ (fun i σ H6 hi hP => ?_) (fun σ H6 hP => ?_)
   ·obtain ⟨o1, o2, ys, rfl, sm6, en, ea, hyl, hdone⟩ := hP
    have hn0 : t < n := by omega
    have hl4 : 2 * (i + 1) + 4 < xs.length := by omega
    have hl5 : 2 * (i + 1) + 5 < xs.length := by omega
    have hx3 := at_ hl3
    have hx4 := at_ hl4
    have hv := hxb xs[2 * (i + 1) + 5] (List.getElem_mem hl5)
    obtain ⟨k0, ek0, hk0⟩ := mod_nat xs[2 * (i + 1) + 4] i
    have e4 : (2 : Int) * (1 + (i : Int)) + 4 = ((2 * (i + 1) + 4 : Nat) : Int) := by omega
    have e5 : (2 : Int) * (1 + (i : Int)) + 5 = ((2 * (i + 1) + 5 : Nat) : Int) := by omega
    have i1 : (0 : Int) < 1 + (i : Int) := by omega
    have hnz : (0 : Int) < (n : Int) := by omega
    have ii1 : (1 : Int) + (i : Int) - 1 = (i : Int) := by omega
    have iit : (1 : Int) + (i : Int) - 1 + (t : Int) = ((i + t : Nat) : Int) := by omega
    clear htn hxl hn hm0 hm1 hy
    refine seq_go fun B hB => ?_
    walk_at "rd"
    rw [e4]
    refine ⟨_, en, _, hx4, _, rfl, i1, ?_⟩
    rw [ek0]
    subst hB
    try dsimp only
    refine seq_go fun B hB => ?_
    have k2 : ∀ k : Nat, k ≤ i → B [some (V.int c), some (V.int m), some (V.ref pn), some (V.int (n : Int)), some (V.bl b), some (V.int (t : Int)), some (V.ref acc), some (V.int (1 + (i : Int))), some (V.int (k : Int))] H6 := by
     intro k hk
     subst hB
     try dsimp only
     refine seq_go fun B hB => ?_
     have k3 : ∀ (to : Nat) (TO : Int), TO = (to : Int) → (to = 0 ∨ ∃ j', j' < i ∧ (tsE n t)[j']? = some (to : Int)) → B [some (V.int c), some (V.int m), some (V.ref pn), some (V.int (n : Int)), some (V.bl b), some (V.int (t : Int)), some (V.ref acc), some (V.int (1 + (i : Int))), some (V.int TO)] H6 := by
      rintro to _ rfl hto
      subst hB
      try dsimp only
      walk_at "rd"
      simp only [sp_priceE]
      walk_at "rd"
      rw [e5]
      refine ⟨_, en, _, at_ hl5, _, rfl, hv.1, hv.2, hc, fun r H7 qr s7 zq hqn vr p H8 hp s8 e8 => ⟨hnz, ys, (s7.trans s8) _ _ ea, (i + t) % n, ?_, ?_⟩⟩
      ·rw [iit, ← Int.natCast_emod]
       exact ixN_at (by rw [hyl]; exact Nat.mod_lt _ (Nat.lt_of_le_of_lt (Nat.zero_le _) hn0))
      ·exact laid_next h0 sm6 (s7.trans s8) en ea hna hyl hdone hn0 hi e8 (vr.same s8) zq hqn hto
     walk_at "rd"
     refine ite2 (fun c1 => ⟨hnz, ?_⟩) (fun c1 => ?_)
     ·obtain ⟨to, e, h⟩ := far_to (n := n) (t := t) (k := k) (i := i) (Int.ofNat_lt.mp c1) hk hi
      exact k3 to _ e h
     ·exact k3 0 _ (by omega) (.inl rfl)
    walk_at "rd"
    rw [e4]
    refine ⟨_, en, _, hx3, _, rfl, ite2 (fun _ => ⟨_, en, _, hx4, _, rfl, ite2 (fun _ => ?_) (fun _ => k2 k0 hk0)⟩) (fun _ => k2 k0 hk0)⟩
    rw [ii1]
    exact k2 i (Nat.le_refl _)
   ·obtain ⟨o1, o2, ys, rfl, sm6, en, ea, hyl, hdone⟩ := hP
    walk_at "rd"
    obtain ⟨rs, hR, hT, hlen, hz⟩ := roads_of (n := n) (tsE_perm htn) hyl hdone
    exact q acc H6 ys rs h0 sm6 ea hR hT (by omega) hz
 refine ⟨_, (b_cons (s_set 2 sc_law_roads_by.nd (q_fn F_law_numbers hr (by decide) rfl (a_c (q_v 0) (a_c (q_add (q_mul q_int (q_v 1)) q_int) a_nil))))
   (b_cons (s_set 3 sc_law_roads_by.nd (q_mod (q_ixL (q_v 2) q_int) (q_v 1)))
   (b_cons (s_set 4 sc_law_roads_by.nd (q_eq (q_mod (q_ixL (q_v 2) q_int) q_int) q_int))
   (b_cons (s_if (t_val (q_v 4)) (b_one (s_set 3 sc_law_roads_by.nd (q_min rfl n_min (a_c (q_v 3) (a_c q_int a_nil))))) b_nil)
   ht1)))), ?_⟩
 rw [show start ["_law_cell", "_law_most", "_law_xs", "_law_many", "_law_wide", "_law_turn", "_law_roads", "_law_k", "_law_to"] [.int c, .int m] = [some (.int c), some (.int m), none, none, none, none, none, none, none] from rfl]
 walk_at "rd"
 simp only [sp_numbersE]
 walk_at "rd"
 refine ⟨by omega, by omega, fun pn H1 xs hpn s1 e1 hxl hxb => ?_⟩
 have at_ : ∀ {j : Nat} (h : j < xs.length), atI (xs.map V.int) (j : Int) = some (.int xs[j]) := fun {j} h => atI_nat (by rw [List.getElem?_map, List.getElem?_eq_getElem h]; rfl)
 have hl0 : 0 < xs.length := by omega
 have hl1 : 1 < xs.length := by omega
 have m0 := Int.emod_nonneg xs[0] (b := m) (by omega)
 have m1 := Int.emod_lt_of_pos xs[0] (b := m) (by omega)
 obtain ⟨r, er⟩ : ∃ r : Nat, xs[0] % m = (r : Int) := ⟨(xs[0] % m).toNat, by omega⟩
 refine ⟨_, e1, _, at_ hl0, xs[0], rfl, by omega, _, e1, _, at_ hl1, xs[1], rfl, ?_⟩
 rw [er] at m0 m1 ⊢
 refine ite2 (fun cw => ?_) (fun cw => ?_)
 ·rw [show (if 4 < (r : Int) then (4 : Int) else (r : Int)) = ((min 4 r : Nat) : Int) by split <;> omega]
  exact hr1 _ _ pn xs H1 (by omega) hpn s1 e1 hxl hxb
 ·exact hr1 _ _ pn xs H1 m1 hpn s1 e1 hxl hxb
end
theorem den_lt {n : Nat} {q : Rat} (h : SzQ n q) : (q.den : Int).natAbs < 2 ^ n := by simpa using h.2
section
variable {P : Program} {w : World} {K : PySem.W.Frag} {mg : Str → Option Value} {base : Heap} {f : Addr} {fd : FuncData}
def Pd (a b : Int) (H : Hp) (σ : St) (H' : Hp) : Prop := ∃ l m : Int, σ = [some (.int l), some (.int m)] ∧ H' = H ∧ Int.gcd l m = Int.gcd a b
theorem ok_divisor (F : Fun K "_law_divisor" "_law_divisor" s_law_divisor f fd) (n_abs : mg "abs" = none) :
  FnOk P w K mg base CX0 1 f fd ["_law_one", "_law_other"] sp_gcd := by
 refine okQ F sc_law_divisor (fun vs H Q E h => ?_) (fun cdv A outer s H vs Q E hr h => ?_)
 ·obtain ⟨a, b, rfl, _⟩ := h; rfl
 obtain ⟨a, b, rfl, q⟩ := h
 refine ⟨_, (b_cons (s_while PassesOwn.never (t_ne (q_v 1) q_int) (b_one (s_par 0 1 sc_law_divisor.nd (a_c (q_v 1) (a_c (q_modN (q_v 0) (q_v 1)) a_nil)))))
   (b_one (s_ret (q_abs rfl n_abs (a_c (q_v 0) a_nil))))), ?_⟩
 rw [show start ["_law_one", "_law_other"] [.int a, .int b] = [some (.int a), some (.int b)] from rfl]
 walk_at "rd"
 refine while_w (Pd a b H) (fun σ _ => (slotI σ 1).natAbs) ⟨_, _, rfl, rfl, rfl⟩ ?_
 rintro σ H' ⟨l, m, rfl, rfl, hg⟩
 walk_at "rd"
 refine ite2 (fun c => ?_) (fun c => ?_)
 ·refine ⟨_, fun σ' H' z => z, c, _, fmod_lt_abs c, rfl, m, l.fmod m, rfl, rfl, ?_⟩
  rw [gcd_turnN]; exact hg
 ·have e : m = 0 := by omega
  subst e
  have e2 : (Int.gcd a b : Int) = (if l < 0 then -l else l) := by rw [← hg, abs_ite]; simp
  rw [e2] at q
  exact q
theorem ok_law_whole (F : Fun K "_law_whole" "_law_whole" s_law_whole f fd) (n_isinstance : mg "isinstance" = none) (n_int : mg "int" = none) (n_bool : mg "bool" = none) :
  FnOk P w K mg base CX0 1 f fd ["_law_found"] sp_whole := by
 refine okQ F sc_law_whole (fun vs H Q E h => ?_) (fun cdv A outer s H vs Q E hr h => ?_)
 ·obtain ⟨x, rfl, _⟩ := h; rfl
 obtain ⟨x, rfl, ⟨t, ht⟩, q⟩ := h
 refine ⟨_, (b_one (s_ret (q_and (q_inst rfl n_isinstance (a_c (q_v 0) (a_c (q_ty rfl n_int rfl) a_nil))) (q_one (q_not (q_inst rfl n_isinstance (a_c (q_v 0) (a_c (q_ty rfl n_bool rfl) a_nil)))))))), ?_⟩
 rw [show start ["_law_found"] [x] = [some (x)] from rfl]
 rw [← isW_kind ht] at q
 refine ⟨_, rfl, x, "int", t, rfl, ht, by decide, _, rfl, ?_⟩
 refine ite2 (fun c => ?_) (fun c => ?_)
 ·refine ⟨_, rfl, x, "bool", t, rfl, ht, by decide, _, rfl, ?_⟩
  rw [c] at q
  exact q
 ·rw [Bool.eq_false_iff.mpr c] at q
  exact q
theorem ok_lowQ (F : Fun K "_law_low" "_law_low" s_law_low f fd) (F_law_divisor : Fn P w K mg base CX0 1 "_law_divisor" ["_law_one", "_law_other"] sp_gcd) : FnOk P w K mg base CX0 2 f fd ["_law_top", "_law_bottom"] sp_lowQ := by
 refine okQ F sc_law_low (fun vs H Q E h => ?_) (fun cdv A outer s H vs Q E hr h => ?_)
 ·obtain ⟨a, b, rfl, _⟩ := h; rfl
 obtain ⟨a, b, rfl, hz, hb, q⟩ := h
 refine ⟨_, (b_cons (s_set 2 sc_law_low.nd (q_fn F_law_divisor hr (by decide) rfl (a_c (q_v 0) (a_c (q_v 1) a_nil))))
   (b_one (s_ret (q_tup (a_c (q_fdivL (q_v 0) (q_v 2)) (a_c (q_fdivL (q_v 1) (q_v 2)) a_nil)))))), ?_⟩
 rw [show start ["_law_top", "_law_bottom", "_law_part"] [.int a, .int b] = [some (.int a), some (.int b), none] from rfl]
 walk_at "rd"
 simp only [sp_gcd]
 walk_at "rd"
 have h1 := Int.gcd_pos_of_ne_zero_right a (Int.ne_of_gt hb)
 have h3 : (Int.gcd a b : Int).natAbs.log2 < 9000 := log2_lt_of (pow_mono (Nat.lt_of_le_of_lt (gcd_le_abs (Int.ne_of_gt hb)) hz) (by omega)) (by omega)
 refine ⟨by omega, h3, by omega, h3, fun p H' _ hs e => q _ H' hs ⟨p, rfl, ?_⟩⟩
 rw [(low_ratio hb).1, (low_ratio (t := a) hb).2] at e
 exact e
end
def sp_arith (g : Rat → Rat → Rat) : Sp := fun vs H Q _ => ∃ (x y : V) (p q : Rat), vs = [x, y] ∧ RatV H x p ∧ RatV H y q ∧ SzQ 2000 p ∧ SzQ 2000 q ∧ ∀ r H', Same H H' → RatV H' r (g p q) → Q r H'
section
variable {P : Program} {w : World} {K : PySem.W.Frag} {mg : Str → Option Value} {base : Heap} {f : Addr} {fd : FuncData}
theorem ok_rest (F : Fun K "rest_of" "rest_of" s_rest_of f fd) (F_ratio : Fn P w K mg base CX0 2 "ratio" ["top", "bottom"] sp_ratio0) : FnOk P w K mg base CX0 3 f fd ["one", "other"] (sp_arith (· - ·)) := by
 refine okQ F sc_rest_of (fun vs H Q E h => ?_) (fun cdv A outer s H vs Q E hr h => ?_)
 ·obtain ⟨x, y, p, t, rfl, _⟩ := h; rfl
 obtain ⟨x, y, p, t, rfl, ⟨a, rfl, ha⟩, ⟨b, rfl, hb⟩, z1, z2, q⟩ := h
 refine ⟨_, (b_one (s_ret (q_fn F_ratio hr (by decide) rfl (a_c (q_sub (q_mulL (q_ixT (q_v 0) q_int) (q_ixT (q_v 1) q_int)) (q_mulL (q_ixT (q_v 1) q_int) (q_ixT (q_v 0) q_int))) (a_c (q_mulL (q_ixT (q_v 0) q_int) (q_ixT (q_v 1) q_int)) a_nil))))), ?_⟩
 rw [show start ["one", "other"] [.ref a, .ref b] = [some (.ref a), some (.ref b)] from rfl]
 walk_at "rd"
 simp only [ha, hb, sp_ratio0]
 walk_at "rd"
 refine ⟨mulOk z1.1 (den_lt z2) (by decide), mulOk z2.1 (den_lt z1) (by decide), mulOk (den_lt z1) (den_lt z2) (by decide), Big.of (mul_lt_pow (den_lt z1) (den_lt z2)) (by decide), den_mul_ne p t, fun r H' hs v => q r H' hs ?_⟩
 show RatV H' r (p - t)
 rw [sub_divInt]
 exact v
end
def sp_less : Sp := fun vs H Q _ => ∃ (x y : V) (p q : Rat), vs = [x, y] ∧ RatV H x p ∧ RatV H y q ∧ SzQ 2000 p ∧ SzQ 2000 q ∧ Q (.bl (decide (p < q))) H
section
variable {P : Program} {w : World} {K : PySem.W.Frag} {mg : Str → Option Value} {base : Heap} {f : Addr} {fd : FuncData}
theorem ok_less (F : Fun K "is_less" "is_less" s_is_less f fd) : FnOk P w K mg base CX0 1 f fd ["one", "other"] sp_less := by
 refine okQ F sc_is_less (fun vs H Q E h => ?_) (fun cdv A outer s H vs Q E hr h => ?_)
 ·obtain ⟨x, y, p, t, rfl, _⟩ := h; rfl
 obtain ⟨x, y, p, t, rfl, ⟨a, rfl, ha⟩, ⟨b, rfl, hb⟩, z1, z2, q⟩ := h
 refine ⟨_, (b_one (s_ret (q_lt (q_mulL (q_ixT (q_v 0) q_int) (q_ixT (q_v 1) q_int)) (q_mulL (q_ixT (q_v 1) q_int) (q_ixT (q_v 0) q_int))))), ?_⟩
 rw [show start ["one", "other"] [.ref a, .ref b] = [some (.ref a), some (.ref b)] from rfl]
 walk_at "rd"
 simp only [ha, hb]
 walk_at "rd"
 refine ⟨mulOk z1.1 (den_lt z2) (by decide), mulOk z2.1 (den_lt z1) (by decide), ?_⟩
 rw [← decide_eq_decide.mpr (lt_cross p t)]
 exact q
end
def BlR (_ : Hp) (v : V) (b : Bool) : Prop := v = .bl b
theorem bl_keeps : Keeps BlR := fun _ _ _ _ h _ => h
theorem map_list {α : Type} {g : α → V} {R : Hp → V → α → Prop} (hR : ∀ H v a, R H v a → v = g a) {H : Hp} {ys : List V} {as : List α} (h : ListV R H ys as) : ys = as.map g := by
 refine List.ext_getElem? fun i => ?_
 rw [List.getElem?_map]
 by_cases c : i < ys.length
 ·have c2 : i < as.length := by rw [← h.1]; exact c
  rw [List.getElem?_eq_getElem c, List.getElem?_eq_getElem c2]
  exact congrArg some (hR _ _ _ (h.2 i _ _ (List.getElem?_eq_getElem c) (List.getElem?_eq_getElem c2)))
 ·rw [List.getElem?_eq_none (by omega), List.getElem?_eq_none (by rw [← h.1]; omega)]
  rfl
theorem blk_genX {α : Type} {z : Str} {nt : Nat} {cp : St} {g : TG} {te : TE} {H1 : Hp} {Q : VK} (R : Hp → V → α → Prop) (kR : Keeps R) {as : List α} (hlen : z.cps.toList.length = as.length) (hl : z.cps.toList.length < 1000)
  (ht : ∀ (i : Nat) d b, z.cps.toList[i]? = some d → as[i]? = some b → ∀ H' (k : VK) os, Same H1 H' → os.length = nt → (∀ v H2, Same H' H2 → R H2 v b → k v H2) → g (.str (one d)) (os ++ cp) H' fun τ H3 => ∃ os', os'.length = nt ∧ τ = os' ++ cp ∧ te τ H3 k)
  (q : ∀ p H' ys, H1 p = none → Same H1 H' → H' p = some (.lst ys) → ListV R H' ys as → Q (.ref p) H') : tBlk nt cp (Itx z) g te H1 Q := by
 unfold tBlk
 refine blk_text (fun acc i ys H' => Same H1 H' ∧ H' acc = some (.lst ys) ∧ ListV R H' ys (as.take i) ∧ i ≤ as.length)
  (fun acc H2 hn sm e => ⟨sm, e, ⟨by simp, fun i v r h1 h2 => by simp at h1⟩, Nat.zero_le _⟩) (fun acc i ys H2 hn ⟨sm, e, e2, hi⟩ => ⟨e, ?_⟩) (fun acc i y ys H2 os hn hi hP ol => ?_) (fun acc ys H2 hn hP => ?_)
 ·rw [e2.1, List.length_take]; omega
 ·obtain ⟨sm, e, e2, _⟩ := hP
  have hil : i < as.length := by rw [← hlen]; exact (List.getElem?_eq_some_iff.mp hi).1
  have hb := List.getElem?_eq_getElem hil
  refine ht i y _ hi hb H2 (fun v H5 => H5 acc = some (.lst ys) ∧ (Same H1 (upd H5 acc (.lst (ys ++ [v]))) ∧ upd H5 acc (.lst (ys ++ [v])) acc = some (.lst (ys ++ [v])) ∧ ListV R (upd H5 acc (.lst (ys ++ [v]))) (ys ++ [v]) (as.take (i + 1)) ∧ i + 1 ≤ as.length)) os sm ol fun v H3 s3 hv => ⟨s3 _ _ e, same_upd hn (sm.trans s3), upd_same, ?_, hil⟩
  have kp : ∀ b ys', H3 b = some (.tup ys') → upd H3 acc (.lst (ys ++ [v])) b = some (.tup ys') := fun b ys' eb => by rw [upd_ne (ne_of eb (s3 _ _ e) (by intro z; cases z))]; exact eb
  rw [List.take_add_one, hb]
  exact ((e2.keep kR fun b ys' eb => s3 _ _ eb).keep kR kp).snoc (kR _ _ _ _ hv kp)
 ·obtain ⟨sm, e, e2, _⟩ := hP
  rw [hlen, List.take_length] at e2
  exact q acc H2 ys hn sm e e2
def del (a : Addr) (H : Hp) : Hp := fun b => if b = a then none else H b
theorem del_some {a b : Addr} {H : Hp} {o : HO} : del a H b = some o ↔ b ≠ a ∧ H b = some o := by
 unfold del
 by_cases c : b = a
 ·rw [if_pos c]; exact ⟨fun z => (nomatch z), fun z => absurd c z.1⟩
 ·rw [if_neg c]; exact ⟨fun z => ⟨c, z⟩, fun z => z.2⟩
def dels (L : List Addr) (H : Hp) : Hp := fun b => if b ∈ L then none else H b
theorem dels_some {L : List Addr} {b : Addr} {H : Hp} {o : HO} : dels L H b = some o ↔ b ∉ L ∧ H b = some o := by
 unfold dels
 by_cases c : b ∈ L
 ·rw [if_pos c]; exact ⟨fun z => (nomatch z), fun z => absurd c z.1⟩
 ·rw [if_neg c]; exact ⟨fun z => ⟨c, z⟩, fun z => z.2⟩
def off (ex : List Addr) (a p : Addr) (H : Hp) : Hp := dels (a :: p :: ex) H
theorem off_some {ex : List Addr} {a p b : Addr} {H : Hp} {o : HO} : off ex a p H b = some o ↔ b ≠ a ∧ b ≠ p ∧ b ∉ ex ∧ H b = some o := by
 unfold off
 rw [dels_some]
 simp only [List.mem_cons, not_or, and_assoc]
theorem off_sub {ex : List Addr} {a p : Addr} {H : Hp} : Same (off ex a p H) H := fun _ _ e => (off_some.mp e).2.2.2
theorem off_same {ex : List Addr} {a p : Addr} {H H' : Hp} (s : Same H H') : Same (off ex a p H) (off ex a p H') := fun _ _ e => let ⟨g1, g2, g3, g4⟩ := off_some.mp e; off_some.mpr ⟨g1, g2, g3, s _ _ g4⟩
def Lists (ex : List Addr) (H : Hp) : Prop := ∀ l ∈ ex, ∃ zs, H l = some (.lst zs)
theorem Lists.same {ex : List Addr} {H H' : Hp} (h : Lists ex H) (s : Same H H') : Lists ex H' := fun l hl => let ⟨zs, e⟩ := h l hl; ⟨zs, s _ _ e⟩
theorem off_new {ex : List Addr} {a p b : Addr} {H H' : Hp} {u v o : HO} (h : H b = none) (ha : H a = some u) (hp : H p = some v) (hx : Lists ex H) (e : H' b = some o) : off ex a p H' b = some o := off_some.mpr ⟨fun z => (by rw [z, ha] at h; cases h), fun z => (by rw [z, hp] at h; cases h), fun z => (by obtain ⟨zs, q⟩ := hx b z; rw [q] at h; cases h), e⟩
def KeepX (a p : Addr) (H H' : Hp) : Prop := ∀ b o, b ≠ a → b ≠ p → H b = some o → H' b = some o
theorem KeepX.of {a p : Addr} {H H' : Hp} (s : Same H H') : KeepX a p H H' := fun b o _ _ e => s _ _ e
theorem KeepX.trans {a p : Addr} {H H' H'' : Hp} (k : KeepX a p H H') (k2 : KeepX a p H' H'') : KeepX a p H H'' := fun b o h1 h2 e => k2 b o h1 h2 (k b o h1 h2 e)
theorem KeepX.upd {a p b : Addr} {H H' : Hp} {o : HO} (k : KeepX a p H H') (hb : b = a ∨ b = p) : KeepX a p H (upd H' b o) := fun c u h1 h2 e => by
 rw [upd_ne (by rcases hb with rfl | rfl; exact h1; exact h2)]
 exact k c u h1 h2 e
theorem KeepX.off {ex : List Addr} {a p : Addr} {H H' : Hp} (k : KeepX a p H H') : Same (off ex a p H) (off ex a p H') := fun _ _ e => let ⟨g1, g2, g3, g4⟩ := off_some.mp e; off_some.mpr ⟨g1, g2, g3, k _ _ g1 g2 g4⟩
theorem KeepX.lists {ex : List Addr} {a p : Addr} {H H' : Hp} (k : KeepX a p H H') (h : Lists ex H) (ha : a ∉ ex) (hp : p ∉ ex) : Lists ex H' := fun l hl => let ⟨zs, e⟩ := h l hl; ⟨zs, k _ _ (fun z => ha (z ▸ hl)) (fun z => hp (z ▸ hl)) e⟩
theorem tree_del {C C' : Addr} {H : Hp} {x : V} {rs : List (Nat × Rat)} {a dx : Addr} {fs : List (Str × V)} (h : TreeV C H x rs) (ha : H a = some (.ins C' dx fs)) (hx : x ≠ .ref a) : TreeV C (del a H) x rs := by
 obtain ⟨b, dy, la, wa, ls, ws, rfl, h1, h2, h3, h4, h5, h6⟩ := h
 have nl : ∀ c zs, H c = some (.lst zs) → del a H c = some (.lst zs) := fun c zs e => del_some.mpr ⟨fun z => (by rw [z, ha] at e; cases e), e⟩
 have nt : ∀ c zs, H c = some (.tup zs) → del a H c = some (.tup zs) := fun c zs e => del_some.mpr ⟨fun z => (by rw [z, ha] at e; cases e), e⟩
 exact ⟨b, dy, la, wa, ls, ws, rfl, del_some.mpr ⟨fun z => hx (by rw [z]), h1⟩, nl _ _ h2, h3.keep nt, nl _ _ h4, h5, fun k y hy => let ⟨p, w, e, g1, g2⟩ := h6 k y hy; ⟨p, w, e, nl _ _ g1, g2⟩⟩
theorem tree_ne {C C' : Addr} {H : Hp} {x : V} {rs : List (Nat × Rat)} {a dx : Addr} {fs : List (Str × V)} (h : TreeV C H x rs) (ha : H a = some (.ins C' dx fs)) (hf : fs.length ≠ 2) : x ≠ .ref a := by
 obtain ⟨b, dy, la, wa, ls, ws, rfl, h1, _⟩ := h
 intro z
 cases z
 rw [ha] at h1
 injection h1 with h1
 injection h1 with _ _ h1
 rw [h1] at hf
 exact hf rfl
theorem tree_off {C : Addr} {H : Hp} {x : V} {rs : List (Nat × Rat)} {l : Addr} (h : ∀ ys, TreeV C (upd H l (.lst ys)) x rs) : TreeV C (del l H) x rs := by
 obtain ⟨b, dy, la, wa, ls, ws, rfl, h1, h2, h3, h4, h5, h6⟩ := h [.non]
 have key : ∀ c o, c ≠ l → upd H l (.lst [.non]) c = some o → del l H c = some o := fun c o hc e => del_some.mpr ⟨hc, by rw [upd_ne hc] at e; exact e⟩
 have nt : ∀ c zs, upd H l (.lst [.non]) c = some (.tup zs) → del l H c = some (.tup zs) := fun c zs e => key c _ (fun z => (by rw [z, upd_same] at e; cases e)) e
 have n1 : b ≠ l := fun z => by rw [z, upd_same] at h1; cases h1
 have n2 : la ≠ l := fun z => by
  rw [z, upd_same] at h2
  cases h2
  obtain ⟨hl, hr⟩ := h3
  match rs, hl with
  | [r], _ =>
   obtain ⟨p, y, e, _⟩ := hr 0 _ r rfl rfl
   cases e
 have n3 : wa ≠ l := fun z => by
  rw [z, upd_same] at h4
  cases h4
  obtain ⟨p, w, e, _⟩ := h6 0 _ rfl
  cases e
 refine ⟨b, dy, la, wa, ls, ws, rfl, key _ _ n1 h1, key _ _ n2 h2, h3.keep nt, key _ _ n3 h4, h5, fun k y hy => ?_⟩
 obtain ⟨p, w, e, g1, g2⟩ := h6 k y hy
 refine ⟨p, w, e, key _ _ (fun z => ?_) g1, g2⟩
 rw [z, upd_same] at g1
 match w, g1 with
 | [], g1 => cases g1
 | [_], g1 => cases g1
 | _ :: _ :: _, g1 => cases g1
theorem tree_dels {C : Addr} {H : Hp} {x : V} {rs : List (Nat × Rat)} {L : List Addr} (h : TreeV C H x rs) (hx : Lists L H) (hd : ∀ l ∈ L, TreeV C (del l H) x rs) : TreeV C (dels L H) x rs := by
 obtain ⟨b, dy, la, wa, ls, ws, rfl, h1, h2, h3, h4, h5, h6⟩ := h
 have nt : ∀ c zs, H c = some (.tup zs) → dels L H c = some (.tup zs) := fun c zs e => dels_some.mpr ⟨fun z => (by obtain ⟨ys, q⟩ := hx c z; rw [q] at e; cases e), e⟩
 have ni : b ∉ L := fun z => by obtain ⟨ys, q⟩ := hx b z; rw [q] at h1; cases h1
 have key : ∀ l ∈ L, la ≠ l ∧ wa ≠ l ∧ ∀ (k : Nat) y, ws[k]? = some y → y ≠ .ref l := by
  intro l hl
  obtain ⟨b', dy', la', wa', ls', ws', eb, g1, g2, _, g4, _, g6⟩ := hd l hl
  cases eb
  have g1' := (del_some.mp g1).2
  rw [h1] at g1'
  injection g1' with g1'
  injection g1' with _ _ g1'
  simp only [List.cons.injEq, Prod.mk.injEq, V.ref.injEq, true_and, and_true] at g1'
  obtain ⟨rfl, rfl⟩ := g1'
  obtain ⟨q2, g2'⟩ := del_some.mp g2
  obtain ⟨q4, g4'⟩ := del_some.mp g4
  rw [h4] at g4'
  cases g4'
  refine ⟨q2, q4, fun k y hy z => ?_⟩
  obtain ⟨p, w, e, g, _⟩ := g6 k y hy
  rw [e] at z
  cases z
  exact (del_some.mp g).1 rfl
 refine ⟨b, dy, la, wa, ls, ws, rfl, dels_some.mpr ⟨ni, h1⟩, dels_some.mpr ⟨fun z => (key la z).1 rfl, h2⟩, h3.keep nt, dels_some.mpr ⟨fun z => (key wa z).2.1 rfl, h4⟩, h5, fun k y hy => ?_⟩
 obtain ⟨p, w, e, g1, g2⟩ := h6 k y hy
 exact ⟨p, w, e, dels_some.mpr ⟨fun z => (key p z).2.2 k y hy e, g1⟩, g2⟩
abbrev Kvs := List (Key × V)
abbrev Now := List (Nat × Rat) × Kvs
def PastR (CT : Addr) (H : Hp) (v : V) (s : Now) : Prop := ∃ p tr ds, v = .ref p ∧ H p = some (.tup [tr, .ref ds]) ∧ TreeV CT H tr s.1 ∧ H ds = some (.dK s.2)
theorem PastR.same {CT : Addr} {H H' : Hp} {v : V} {n : Now} (h : PastR CT H v n) (s : Same H H') : PastR CT H' v n := let ⟨p, tr, ds, e, h1, h2, h3⟩ := h; ⟨p, tr, ds, e, s _ _ h1, h2.same s, s _ _ h3⟩
theorem ListV.mono {α : Type} {R : Hp → V → α → Prop} {H H' : Hp} {xs : List V} {as : List α} (h : ListV R H xs as) (m : ∀ v a, R H v a → R H' v a) : ListV R H' xs as := ⟨h.1, fun i x a h1 h2 => m _ _ (h.2 i x a h1 h2)⟩
def ShireV (ex : List Addr) (CS CT : Addr) (H : Hp) (a ps : Addr) (rs : List (Nat × Rat)) (kvs : Kvs) (past : List Now) : Prop := ∃ (dx : Addr) (tr : V) (ds : Addr) (pv : List V), H a = some (.ins CS dx [("land", tr), ("places", .ref ds), ("past", .ref ps)]) ∧ H ps = some (.lst pv) ∧ TreeV CT (off ex a ps H) tr rs ∧ off ex a ps H ds = some (.dK kvs) ∧ ListV (PastR CT) (off ex a ps H) pv past ∧ Lists ex H ∧ ps ∉ ex
theorem ShireV.same {ex : List Addr} {CS CT : Addr} {H H' : Hp} {a ps : Addr} {rs : List (Nat × Rat)} {kvs : Kvs} {past : List Now} (h : ShireV ex CS CT H a ps rs kvs past) (s : Same H H') : ShireV ex CS CT H' a ps rs kvs past := by
 obtain ⟨dx, tr, ds, pv, h1, h2, h3, h4, h5, h6, h7⟩ := h
 have so : Same (off ex a ps H) (off ex a ps H') := off_same s
 exact ⟨dx, tr, ds, pv, s _ _ h1, s _ _ h2, h3.same so, so _ _ h4, h5.mono fun v n q => q.same so, h6.same s, h7⟩
section
variable {P : Program} {w : World} {K : PySem.W.Frag} {mg : Str → Option Value} {base : Heap} {f : Addr} {fd : FuncData} {CT CNP CS : Addr}
def sp_initS (CS CT : Addr) : Sp := fun vs H Q _ => ∃ (a dx : Addr) (tr : V) (rs : List (Nat × Rat)), vs = [.ref a, tr] ∧ H a = some (.ins CS dx []) ∧ TreeV CT H tr rs ∧ (∀ H' ps, (∀ b o, b ≠ a → H b = some o → H' b = some o) → H ps = none → ShireV [] CS CT H' a ps rs [] [] → Q .non H')
theorem ok_initS (F : Fun K "__init__" "Shire.__init__" s_Shire___init__ f fd) (cls_Shire : Cls K CS) (nf_land : NoAttr K CS "land") (nf_places : NoAttr K CS "places") (nf_past : NoAttr K CS "past") : FnOk P w K mg base CX0 1 f fd ["self", "tree"] (sp_initS CS CT) := by
 refine okQ F sc_Shire___init__ (fun vs H Q E h => ?_) (fun cdv A outer s H vs Q E hr h => ?_)
 ·obtain ⟨a, dx, tr, rs, rfl, _⟩ := h; rfl
 obtain ⟨a, dx, tr, rs, rfl, ha, hT, q⟩ := h
 refine ⟨_, (b_cons (s_fld (q_v 0) (q_v 1))
   (b_cons (s_fld (q_v 0) q_dnew)
   (b_one (s_fld (q_v 0) (q_lst a_nil))))), ?_⟩
 rw [show start ["self", "tree"] [.ref a, tr] = [some (.ref a), some (tr)] from rfl]
 walk_at "rd"
 refine ⟨CS, dx, [], ha, cls_Shire, nf_land, by decide, fun ds H1 hds s1 e1 => ⟨CS, dx, _, s1 _ _ upd_same, cls_Shire, nf_places, (by show (1 : Nat) < 1000; decide), fun ps H2 hps s2 e2 => ⟨CS, dx, _, s2 _ _ upd_same, cls_Shire, nf_past, (by show (2 : Nat) < 1000; decide), ?_⟩⟩⟩
 have f1 : putF (Str.ofString "past") (V.ref ps) (putF (Str.ofString "places") (V.ref ds) (putF (Str.ofString "land") tr [])) = [(Str.ofString "land", tr), (Str.ofString "places", V.ref ds), (Str.ofString "past", V.ref ps)] := rfl
 rw [f1]
 have k1 : ∀ b o, b ≠ a → H b = some o → H1 b = some o := fun b o hb e => s1 _ _ (by rw [upd_ne hb]; exact e)
 have k2 : ∀ b o, b ≠ a → H1 b = some o → H2 b = some o := fun b o hb e => s2 _ _ (by rw [upd_ne hb]; exact e)
 have na : ds ≠ a := fun z => by rw [z, upd_same] at hds; cases hds
 have nb : ps ≠ a := fun z => by rw [z, upd_same] at hps; cases hps
 have hd0 : H1 ps = none := by rw [upd_ne nb] at hps; exact hps
 have hp0 : H ps = none := by
  cases z : H ps with
  | none => rfl
  | some o => rw [k1 _ _ nb z] at hd0; cases hd0
 have nd : ds ≠ ps := fun z => by rw [z, hd0] at e1; cases e1
 have kk : ∀ b o, b ≠ a → H b = some o → upd H2 a (.ins CS dx [(Str.ofString "land", tr), (Str.ofString "places", V.ref ds), (Str.ofString "past", V.ref ps)]) b = some o := fun b o hb e => by rw [upd_ne hb]; exact k2 _ _ hb (k1 _ _ hb e)
 refine q _ ps kk hp0 ⟨dx, tr, ds, [], upd_same, by rw [upd_ne nb]; exact e2, ?_, off_some.mpr ⟨na, nd, by simp, by rw [upd_ne na]; exact k2 _ _ na e1⟩, ⟨rfl, fun i x n h1 h2 => by simp at h1⟩, (fun l hl => by simp at hl), by simp⟩
 refine (tree_del hT ha (tree_ne hT ha (by decide))).same fun b o e => ?_
 obtain ⟨g1, g2⟩ := del_some.mp e
 exact off_some.mpr ⟨g1, fun z => (by rw [z, hp0] at g2; cases g2), by simp, kk _ _ g1 g2⟩
def sp_do (CS CT : Addr) : Sp := fun vs H Q _ => ∃ (ex : List Addr) (a ps : Addr) (rs : List (Nat × Rat)) (kvs : Kvs) (past : List Now) (tr' : V) (ds' : Addr) (rs' : List (Nat × Rat)) (kvs' : Kvs), vs = [.ref a, tr', .ref ds'] ∧ ShireV ex CS CT H a ps rs kvs past ∧ past.length < 1000 ∧ TreeV CT (off ex a ps H) tr' rs' ∧ off ex a ps H ds' = some (.dK kvs') ∧
 ∀ H', KeepX a ps H H' → ShireV ex CS CT H' a ps rs' kvs' (past ++ [(rs, kvs)]) → Q .non H'
theorem ok_do (F : Fun K "do" "Shire.do" s_Shire_do f fd) (cls_Shire : Cls K CS) (nf_land : NoAttr K CS "land") (nf_places : NoAttr K CS "places") (nf_past : NoAttr K CS "past") : FnOk P w K mg base CX0 1 f fd ["self", "land", "places"] (sp_do CS CT) := by
 refine okQ F sc_Shire_do (fun vs H Q E h => ?_) (fun cdv A outer s H vs Q E hr h => ?_)
 ·obtain ⟨ex, a, ps, rs, kvs, past, tr', ds', rs', kvs', rfl, _⟩ := h; rfl
 obtain ⟨ex, a, ps, rs, kvs, past, tr', ds', rs', kvs', rfl, hS, hpl, hT', hd', q⟩ := h
 obtain ⟨dx, tr, ds, pv, h1, h2, h3, h4, h5, hx, hpx⟩ := hS
 refine ⟨_, (b_cons (s_expr (q_app (q_fld (q_v 0)) (a_c (q_tup (a_c (q_fld (q_v 0)) (a_c (q_fld (q_v 0)) a_nil))) a_nil)))
   (b_cons (s_fld (q_v 0) (q_v 1))
   (b_one (s_fld (q_v 0) (q_v 2))))), ?_⟩
 rw [show start ["self", "land", "places"] [.ref a, tr', .ref ds'] = [some (.ref a), some (tr'), some (.ref ds')] from rfl]
 walk_at "rd"
 have na : ps ≠ a := fun z => by rw [z, h1] at h2; cases h2
 refine ⟨CS, dx, _, h1, cls_Shire, nf_past, .ref ps, rfl, ps, rfl, ⟨_, h2⟩, CS, dx, _, h1, cls_Shire, nf_land, tr, rfl, CS, dx, _, h1, cls_Shire, nf_places, .ref ds, rfl, fun t H1 ht s1 e1 => ?_⟩
 have h1' := s1 _ _ h1
 have h2' := s1 _ _ h2
 refine ⟨pv, h2', by rw [h5.1]; omega, CS, dx, _, by rw [upd_ne (Ne.symm na)]; exact h1', cls_Shire, nf_land, (by show (3 : Nat) < 1000; decide), CS, dx, _, upd_same, cls_Shire, nf_places, (by show (3 : Nat) < 1000; decide), ?_⟩
 have k1 : KeepX a ps H H1 := .of s1
 have k2 := k1.upd (o := .lst (pv ++ [.ref t])) (.inr rfl)
 have k3 := k2.upd (o := .ins CS dx (putF (Str.ofString "land") tr' [(Str.ofString "land", tr), (Str.ofString "places", V.ref ds), (Str.ofString "past", V.ref ps)])) (.inl rfl)
 have k4 := k3.upd (o := .ins CS dx (putF (Str.ofString "places") (V.ref ds') (putF (Str.ofString "land") tr' [(Str.ofString "land", tr), (Str.ofString "places", V.ref ds), (Str.ofString "past", V.ref ps)]))) (.inl rfl)
 have s4 := k4.off (ex := ex)
 have nax : a ∉ ex := fun z => by obtain ⟨zs, q⟩ := hx a z; rw [h1] at q; cases q
 have f1 : putF (Str.ofString "places") (V.ref ds') (putF (Str.ofString "land") tr' [(Str.ofString "land", tr), (Str.ofString "places", V.ref ds), (Str.ofString "past", V.ref ps)]) = [(Str.ofString "land", tr'), (Str.ofString "places", V.ref ds'), (Str.ofString "past", V.ref ps)] := rfl
 have nt : t ≠ a := fun z => by rw [z, h1] at ht; cases ht
 have np : t ≠ ps := fun z => by rw [z, h2] at ht; cases ht
 have ntx : t ∉ ex := fun z => by obtain ⟨zs, q⟩ := hx t z; rw [ht] at q; cases q
 refine q _ k4 ⟨dx, tr', ds', pv ++ [.ref t], ?_, ?_, hT'.same s4, s4 _ _ hd', (h5.mono fun v n g => g.same s4).snoc ⟨t, tr, ds, rfl, ?_, h3.same s4, s4 _ _ h4⟩, k4.lists hx nax hpx, hpx⟩
 ·rw [upd_same, f1]
 ·rw [upd_ne na, upd_ne na, upd_same]
 ·refine off_some.mpr ⟨nt, np, ntx, ?_⟩
  rw [upd_ne nt, upd_ne nt, upd_ne np]
  exact e1
def NameOk (z : Str) : Prop := 1 ≤ z.length ∧ z.length ≤ 8 ∧ ∀ d ∈ z.cps.toList, 97 ≤ d ∧ d ≤ 122
theorem abc_all {z : Str} (hz : ∀ d ∈ z.cps.toList, 97 ≤ d ∧ d ≤ 122) : (z.cps.toList.map fun d => decide (d ∈ (Str.ofString "abcdefghijklmnopqrstuvwxyz").cps.toList)).all id = true := by
 rw [List.all_eq_true]
 intro b hb
 obtain ⟨d, hd, rfl⟩ := List.mem_map.mp hb
 have hr := hz d hd
 have key : ∀ d : Nat, d < 123 → 97 ≤ d → d ∈ (Str.ofString "abcdefghijklmnopqrstuvwxyz").cps.toList := by decide +kernel
 exact decide_eq_true (key d (by omega) hr.1)
def sp_withRoad (C : Addr) : Sp := fun vs H Q _ => ∃ (x : V) (rs : List (Nat × Rat)) (j : Nat) (y : V) (r : Nat × Rat), vs = [x, .int ((j : Int) + 1), y] ∧ TreeV C H x rs ∧ RoadV H y r ∧ j < rs.length ∧ TreeOk (rs.set j r) ∧ rs.length ≤ 40 ∧ (∀ t ∈ rs.set j r, 0 ≤ t.2.num) ∧
 ∀ u H', Same H H' → TreeV C H' u (rs.set j r) → (∀ l zs, H l = some (.lst zs) → TreeV C (del l H') u (rs.set j r)) → Q u H'
theorem RoadsV.set {H : Hp} {xs : List V} {rs : List (Nat × Rat)} (h : RoadsV H xs rs) {j : Nat} {y : V} {r : Nat × Rat} (hy : RoadV H y r) : RoadsV H (xs.set j y) (rs.set j r) := ⟨by simp [h.1], fun i x t h1 h2 => by
 by_cases c : j = i
 ·subst c
  have hj : j < xs.length := by simpa using (List.getElem?_eq_some_iff.mp h1).1
  have hj2 : j < rs.length := by rw [← h.1]; exact hj
  rw [List.getElem?_set_self hj] at h1
  rw [List.getElem?_set_self hj2] at h2
  cases h1; cases h2
  exact hy
 ·rw [List.getElem?_set_ne c] at h1 h2
  exact h.2 i x t h1 h2⟩
theorem RoadsV.snoc {H : Hp} {xs : List V} {rs : List (Nat × Rat)} (h : RoadsV H xs rs) {y : V} {r : Nat × Rat} (hy : RoadV H y r) : RoadsV H (xs ++ [y]) (rs ++ [r]) := ListV.snoc (R := RoadV) h hy
theorem mk_tree {H : Hp} {p : Addr} {xs : List V} {rs : List (Nat × Rat)} {Q : VK} (hp : H p = some (.lst xs)) (hR : RoadsV H xs rs) (hO : TreeOk rs) (hl : rs.length ≤ 40) (hn : ∀ t ∈ rs, 0 ≤ t.2.num)
  (q : ∀ u H', Same H H' → TreeV CT H' u rs → (∀ l zs, H l = some (.lst zs) → TreeV CT (del l H') u rs) → Q u H') (x dx : Addr) (hx : H x = none) (hdx : H dx = none) (hne : dx ≠ x) :
  sp_init CT [V.ref x, V.ref p] (upd (upd H dx (.own x)) x (.ins CT dx [])) (fun v H2 => v = V.non ∧ Q (V.ref x) H2) E0 := by
 have old : ∀ b o, H b = some o → upd (upd H dx (.own x)) x (.ins CT dx []) b = some o := fun b o e => by rw [upd_ne (ne_of_none e hx), upd_ne (ne_of_none e hdx)]; exact e
 refine ⟨x, dx, p, xs, rs, rfl, upd_same, old _ _ hp, hR.keep fun b ys e => old b _ e, hO, hl, hn, fun H7 k7 hT7 hall => ⟨rfl, q _ _ (fun b o e => k7 b o (ne_of_none e hx) (old b o e)) hT7 fun l zs e => ?_⟩⟩
 exact tree_off fun ys => hall l zs (old _ _ e) H7 (fun _ _ z => z) ys
theorem ok_withRoad (F : Fun K "with_road" "with_road" s_with_road f fd) (M_roads : Mth P w K mg base CX0 1 CT "roads" ["self"] (sp_roadsM CT)) (K_Tree : Mkr P w K mg base CX0 6 CT "Tree" ["self", "roads"] (sp_init CT)) : FnOk P w K mg base CX0 8 f fd ["tree", "k", "road"] (sp_withRoad CT) := by
 refine okQ F sc_with_road (fun vs H Q E h => ?_) (fun cdv A outer s H vs Q E hr h => ?_)
 ·obtain ⟨x, rs, j, y, r, rfl, _⟩ := h; rfl
 obtain ⟨x, rs, j, y, r, rfl, hT, hy, hj, hO, hl, hn, q⟩ := h
 obtain ⟨a, dx, la, wa, ls, ws, rfl, h1, _⟩ := id hT
 refine ⟨_, (b_cons (s_set 3 sc_with_road.nd (q_meth0 M_roads hr (by decide) (q_v 0)))
   (b_cons (s_asg (q_v 2) (g_sub (q_v 3) (q_sub (q_v 1) q_int)))
   (b_one (s_ret (q_make K_Tree hr (by decide) rfl (a_c (q_v 3) a_nil)))))), ?_⟩
 rw [show start ["tree", "k", "road", "roads"] [.ref a, .int ((j : Int) + 1), y] = [some (.ref a), some (.int ((j : Int) + 1)), some (y), none] from rfl]
 walk_at "rd"
 refine ⟨dx, _, h1, rfl, .ref a, rs, rfl, hT, fun p H1 ls1 hp s1 e1 hR => ⟨p, rfl, ls1, e1, j, ?_, ?_⟩⟩
 ·rw [show (j : Int) + 1 - 1 = (j : Int) by omega]
  exact ixN_at (by rw [hR.1]; exact hj)
 ·have so : Same H (upd H1 p (.lst (ls1.set j y))) := same_upd hp s1
  have nt : ∀ b ys, H1 b = some (.tup ys) → upd H1 p (.lst (ls1.set j y)) b = some (.tup ys) := fun b ys e => by rw [upd_ne (ne_of e e1 (by intro z; cases z))]; exact e
  have hR2 : RoadsV (upd H1 p (.lst (ls1.set j y))) (ls1.set j y) (rs.set j r) := (hR.keep nt).set ((hy.same s1).keep nt)
  exact fun x3 d3 => mk_tree upd_same hR2 hO (by simpa using hl) hn (fun u H' s' hT' hall => q u H' (so.trans s') hT' fun l zs e => hall l zs (so _ _ e)) x3 d3
def sp_withMore (C : Addr) : Sp := fun vs H Q _ => ∃ (x : V) (rs : List (Nat × Rat)) (y : V) (r : Nat × Rat), vs = [x, y] ∧ TreeV C H x rs ∧ RoadV H y r ∧ TreeOk (rs ++ [r]) ∧ rs.length < 40 ∧ (∀ t ∈ rs ++ [r], 0 ≤ t.2.num) ∧
 ∀ u H', Same H H' → TreeV C H' u (rs ++ [r]) → (∀ l zs, H l = some (.lst zs) → TreeV C (del l H') u (rs ++ [r])) → Q u H'
theorem ok_withMore (F : Fun K "with_one_more" "with_one_more" s_with_one_more f fd) (M_roads : Mth P w K mg base CX0 1 CT "roads" ["self"] (sp_roadsM CT)) (K_Tree : Mkr P w K mg base CX0 6 CT "Tree" ["self", "roads"] (sp_init CT)) : FnOk P w K mg base CX0 8 f fd ["tree", "road"] (sp_withMore CT) := by
 refine okQ F sc_with_one_more (fun vs H Q E h => ?_) (fun cdv A outer s H vs Q E hr h => ?_)
 ·obtain ⟨x, rs, y, r, rfl, _⟩ := h; rfl
 obtain ⟨x, rs, y, r, rfl, hT, hy, hO, hl, hn, q⟩ := h
 obtain ⟨a, dx, la, wa, ls, ws, rfl, h1, _⟩ := id hT
 refine ⟨_, (b_one (s_ret (q_make K_Tree hr (by decide) rfl (a_c (q_cat (q_meth0 M_roads hr (by decide) (q_v 0)) (q_lst (a_c (q_v 1) a_nil))) a_nil)))), ?_⟩
 rw [show start ["tree", "road"] [.ref a, y] = [some (.ref a), some (y)] from rfl]
 walk_at "rd"
 refine ⟨dx, _, h1, rfl, .ref a, rs, rfl, hT, fun p H1 ls1 hp s1 e1 hR p2 H2 hp2 s2 e2 => ⟨p, rfl, ls1, s2 _ _ e1, _, e2, big_le (by rw [hR.1]; show rs.length + 1 ≤ _; omega), fun p3 hp3 => ?_⟩⟩
 have s12 := s1.trans s2
 have so : Same H (upd H2 p3 (.lst (ls1 ++ [y]))) := same_upd (s12.free hp3) s12
 have hR2 : RoadsV (upd H2 p3 (.lst (ls1 ++ [y]))) (ls1 ++ [y]) (rs ++ [r]) := ((hR.same s2).same (same_new hp3 _)).snoc ((hy.same s12).same (same_new hp3 _))
 exact fun x3 d3 => mk_tree upd_same hR2 hO (by simp; omega) hn (fun u H' s' hT' hall => q u H' (so.trans s') hT' fun l zs e => hall l zs (so _ _ e)) x3 d3
def sp_treeS (CS CT : Addr) : Sp := fun vs H Q _ => ∃ ex a ps rs kvs past, vs = [.ref a] ∧ ShireV ex CS CT H a ps rs kvs past ∧ ∀ tr, TreeV CT (off ex a ps H) tr rs → Q tr H
theorem ok_treeS (F : Fun K "tree" "Shire.tree" s_Shire_tree f fd) (cls_Shire : Cls K CS) (nf_land : NoAttr K CS "land") : FnOk P w K mg base CX0 1 f fd ["self"] (sp_treeS CS CT) := by
 refine okQ F sc_Shire_tree (fun vs H Q E h => ?_) (fun cdv A outer s H vs Q E hr h => ?_)
 ·obtain ⟨ex, a, ps, rs, kvs, past, rfl, _⟩ := h; rfl
 obtain ⟨ex, a, ps, rs, kvs, past, rfl, ⟨dx, tr, ds, pv, h1, h2, h3, h4, h5, hx, hpx⟩, q⟩ := h
 refine ⟨_, (b_one (s_ret (q_fld (q_v 0)))), ?_⟩
 rw [show start ["self"] [.ref a] = [some (.ref a)] from rfl]
 walk_at "rd"
 exact ⟨CS, dx, _, h1, cls_Shire, nf_land, tr, rfl, q tr h3⟩
def sp_homesS (CS CT : Addr) : Sp := fun vs H Q _ => ∃ ex a ps rs kvs past, vs = [.ref a] ∧ ShireV ex CS CT H a ps rs kvs past ∧ ∀ d H', H d = none → Same H H' → H' d = some (.dK kvs) → Q (.ref d) H'
theorem ok_homesS (F : Fun K "homes" "Shire.homes" s_Shire_homes f fd) (n_dict : mg "dict" = none) (cls_Shire : Cls K CS) (nf_places : NoAttr K CS "places") : FnOk P w K mg base CX0 1 f fd ["self"] (sp_homesS CS CT) := by
 refine okQ F sc_Shire_homes (fun vs H Q E h => ?_) (fun cdv A outer s H vs Q E hr h => ?_)
 ·obtain ⟨ex, a, ps, rs, kvs, past, rfl, _⟩ := h; rfl
 obtain ⟨ex, a, ps, rs, kvs, past, rfl, ⟨dx, tr, ds, pv, h1, h2, h3, h4, h5, hx, hpx⟩, q⟩ := h
 refine ⟨_, (b_one (s_ret (q_dictU rfl n_dict (a_c (q_fld (q_v 0)) a_nil)))), ?_⟩
 rw [show start ["self"] [.ref a] = [some (.ref a)] from rfl]
 walk_at "rd"
 simp only [rDictU]
 walk_at "rd"
 exact ⟨CS, dx, _, h1, cls_Shire, nf_places, .ref ds, rfl, ds, rfl, kvs, .inl (off_sub _ _ h4), q⟩
def DoneQ (ex : List Addr) (CS CT a ps : Addr) (H : Hp) (rs : List (Nat × Rat)) (kvs : Kvs) (past : List Now) (Q : Hp → Prop) : Prop := ∀ H', KeepX a ps H H' → ShireV ex CS CT H' a ps rs kvs past → Q H'
def sp_place (CS CT : Addr) : Sp := fun vs H Q _ => ∃ ex a ps rs kvs past z k, vs = [.ref a, .str z, .int k] ∧ ShireV ex CS CT H a ps rs kvs past ∧ past.length < 1000 ∧ kvs.length < 900 ∧ DoneQ ex CS CT a ps H rs (putK kvs (Sum.inr z) (.int k)) (past ++ [(rs, kvs)]) (Q .non)
theorem ok_place (F : Fun K "place" "Shire.place" s_Shire_place f fd) (n_dict : mg "dict" = none) (cls_Shire : Cls K CS) (nf_land : NoAttr K CS "land") (nf_places : NoAttr K CS "places") (M_do : Mth P w K mg base CX0 1 CS "do" ["self", "land", "places"] (sp_do CS CT)) : FnOk P w K mg base CX0 2 f fd ["self", "name", "k"] (sp_place CS CT) := by
 refine okQ F sc_Shire_place (fun vs H Q E h => ?_) (fun cdv A outer s H vs Q E hr h => ?_)
 ·obtain ⟨ex, a, ps, rs, kvs, past, z, k, rfl, _⟩ := h; rfl
 obtain ⟨ex, a, ps, rs, kvs, past, z, k, rfl, hS, hpl, hkl, q⟩ := h
 obtain ⟨dx, tr, ds, pv, h1, h2, h3, h4, h5, hx, hpx⟩ := id hS
 refine ⟨_, (b_cons (s_set 3 sc_Shire_place.nd (q_dictU rfl n_dict (a_c (q_fld (q_v 0)) a_nil)))
   (b_cons (s_dput (hu_of hr) (q_v 3) (q_v 1) (q_v 2))
   (b_one (s_expr (q_meth M_do hr (by decide) (q_v 0) (a_c (q_fld (q_v 0)) (a_c (q_v 3) a_nil))))))), ?_⟩
 rw [show start ["self", "name", "k", "places"] [.ref a, .str z, .int k] = [some (.ref a), some (.str z), some (.int k), none] from rfl]
 walk_at "rd"
 simp only [rDictU]
 walk_at "rd"
 refine ⟨CS, dx, _, h1, cls_Shire, nf_places, .ref ds, rfl, ds, rfl, kvs, .inl (off_sub _ _ h4), fun p H2 hp s2 e2 => ?_⟩
 have S3 : Same H (upd H2 p (.dK (putK kvs (Sum.inr z) (.int k)))) := same_upd hp s2
 refine ⟨kvs, e2, Sum.inr z, rfl, by omega, dx, _, S3 _ _ h1, rfl, CS, dx, _, S3 _ _ h1, cls_Shire, nf_land, tr, rfl, ?_⟩
 exact ⟨ex, a, ps, rs, kvs, past, tr, p, rs, _, rfl, hS.same S3, hpl, h3.same (off_same S3), off_new hp h1 h2 hx upd_same, fun H' s' hS' => q H' ((KeepX.of S3).trans s') hS'⟩
end
def AscT (z : Str) : Prop := z.length ≤ 100 ∧ ∀ d ∈ z.cps.toList, d < 128
theorem abc_iff {z : Str} : (z.cps.toList.map fun d => decide (d ∈ (Str.ofString "abcdefghijklmnopqrstuvwxyz").cps.toList)).all id = true ↔ ∀ d ∈ z.cps.toList, 97 ≤ d ∧ d ≤ 122 := by
 refine ⟨fun h d hd => ?_, abc_all⟩
 have := List.all_eq_true.mp h _ (List.mem_map.mpr ⟨d, hd, rfl⟩)
 have key : ∀ d ∈ (Str.ofString "abcdefghijklmnopqrstuvwxyz").cps.toList, 97 ≤ d ∧ d ≤ 122 := by decide +kernel
 exact key d (by simpa using this)
section
variable {P : Program} {w : World} {K : PySem.W.Frag} {mg : Str → Option Value} {base : Heap} {f : Addr} {fd : FuncData} {CT CNP CS CNN CNR CTM : Addr}
def sp_isname : Sp := fun vs H Q _ => ∃ z : Str, vs = [.str z] ∧ AscT z ∧ ∀ H' b, Same H H' → (b = true ↔ NameOk z) → Q (.bl b) H'
theorem ok_isname {tk1 tk2 : Tok} (F : Fun K "is_name" "is_name" s_is_name f fd) (n_isinstance : mg "isinstance" = none) (n_str : mg "str" = none) (n_len : mg "len" = none) (n_all : mg "all" = none) (g_MOST_LETTERS : mg "MOST_LETTERS" = some (.int 8 tk1)) (g_LETTERS : mg "LETTERS" = some (.str "abcdefghijklmnopqrstuvwxyz" tk2)) :
  FnOk P w K mg base CX0 1 f fd ["thing"] sp_isname := by
 refine okQ F sc_is_name (fun vs H Q E h => ?_) (fun cdv A outer s H vs Q E hr h => ?_)
 ·obtain ⟨z, rfl, _⟩ := h; rfl
 obtain ⟨z, rfl, ⟨hl, hz⟩, q⟩ := h
 refine ⟨_, (b_cons (s_if (t_w (w_or (t_not (t_val (q_inst rfl n_isinstance (a_c (q_v 0) (a_c (q_ty rfl n_str rfl) a_nil))))) (w_or1 (t_not (t_leLe q_int (q_lenX rfl n_len (a_c (q_v 0) a_nil)) (q_gint rfl g_MOST_LETTERS)))))) (b_one (s_ret q_bl)) b_nil)
   (b_one (s_ret (q_allB rfl n_all (a_c (q_comp (blk0 ["sign"]) (i_txt (q_v 0)) (by exact fun s H fp => (g_name 0 (show List.Nodup (["sign"] : List Str) from by decide +kernel))) (by exact fun s H fp => (q_inX (q_v 0) (q_gstr rfl g_LETTERS)))) a_nil))))), ?_⟩
 rw [show start ["thing"] [.str z] = [some (.str z)] from rfl]
 refine seq_go fun B hB => ?_
 walk_at "rd"
 refine ⟨"str", rfl, ?_⟩
 rw [if_neg (by decide)]
 refine ⟨big_le (by omega), ?_⟩
 by_cases c1 : z.length = 0
 ·rw [if_neg (by omega)]
  exact q _ _ (fun _ _ e => e) ⟨fun y => (nomatch y), fun y => by have := y.1; omega⟩
 rw [if_pos (by omega)]
 by_cases c2 : 8 < z.length
 ·rw [if_pos (by omega)]
  exact q _ _ (fun _ _ e => e) ⟨fun y => (nomatch y), fun y => by have := y.2.1; omega⟩
 rw [if_neg (by omega)]
 subst hB
 try dsimp only
 simp only [tRet, tCB, tCons, tComp, iTxt]
 walk_at "rd"
 refine ⟨fun d hd => by have := hz d hd; omega, ?_⟩
 rw [show capOf [some (V.str z)] [] = [] from rfl]
 refine blk_genX BlR bl_keeps (as := z.cps.toList.map fun d => decide (d ∈ (Str.ofString "abcdefghijklmnopqrstuvwxyz").cps.toList)) (by rw [List.length_map]) (by rw [len_cl]; omega) (fun i d b hd hb H' k os s1 ol hk => ?_) (fun p H' ys hp1 s1 e1 hL => ?_)
 ·obtain ⟨o, rfl⟩ : ∃ o, os = [o] := List.length_eq_one_iff.mp ol
  walk_at "rd"
  rw [List.getElem?_map, hd] at hb
  cases hb
  exact ⟨[_], rfl, rfl, _, rfl, hk _ _ (fun _ _ e => e) rfl⟩
 ·rw [map_list (g := V.bl) (fun _ _ _ h => h) hL] at e1
  exact ⟨p, rfl, _, e1, q _ _ s1 ⟨fun y => ⟨by omega, by omega, abc_iff.mp y⟩, fun y => abc_iff.mpr y.2.2⟩⟩
def sp_lookPriceX (CNR : Addr) : Sp := fun vs H Q E => ∃ x, vs = [x] ∧ Thing H x ∧ (PrP H x → Q .non H) ∧ (¬ PrP H x → E (.ref CNR) none H)
theorem ok_lookPriceX (F : FunD K "look_price" "look_price" s_look_price .none f fd) (m_NoPrice : mg "NoPrice" = some (.ref CNR)) (ec_NoPrice : ErrC K CNR) (F_is_price : Fn P w K mg base CX0 3 "is_price" ["thing"] sp_isprice) : FnOk P w K mg base (CX1 P w) 4 f fd ["price"] (sp_lookPriceX CNR) := by
 refine okX F sc_look_price (fun vs H Q E h => ?_) (fun cdv A outer s H vs Q E hr h => ?_)
 ·obtain ⟨z, rfl, _⟩ := h; rfl
 obtain ⟨x, rfl, hx, q1, q2⟩ := h
 refine ⟨_, (b_one (s_if (t_not (t_val (q_fn F_is_price hr (by decide) rfl (a_c (q_v 0) a_nil)))) (b_one (s_raise goes_of m_NoPrice ec_NoPrice rfl (a_c q_str a_nil))) b_nil)), ?_⟩
 rw [show start ["price"] [x] = [some (x)] from rfl]
 walk_at "rd"
 refine ⟨x, rfl, hx, fun r hr => ⟨r, rfl, ?_⟩⟩
 cases r with
 | true => rw [if_neg (by decide)]; exact q1 (hr.mp rfl)
 | false => rw [if_pos rfl]; exact q2 fun z => Bool.false_ne_true (hr.mpr z)
def sp_lookRoomX (C CTM : Addr) : Sp := fun vs H Q E => ∃ x rs, vs = [x] ∧ TreeV C H x rs ∧ (rs.length < 40 → Q .non H) ∧ (¬ rs.length < 40 → E (.ref CTM) none H)
theorem ok_lookRoomX {tk : Tok} (F : FunD K "look_room" "look_room" s_look_room .none f fd) (g_MOST_ROADS : mg "MOST_ROADS" = some (.int 40 tk)) (m_TooMany : mg "TooMany" = some (.ref CTM)) (ec_TooMany : ErrC K CTM) (M_many : Mth P w K mg base CX0 1 CT "many" ["self"] (sp_many CT)) : FnOk P w K mg base (CX1 P w) 2 f fd ["tree"] (sp_lookRoomX CT CTM) := by
 refine okX F sc_look_room (fun vs H Q E h => ?_) (fun cdv A outer s H vs Q E hr h => ?_)
 ·obtain ⟨z, rs, rfl, _⟩ := h; rfl
 obtain ⟨x, rs, rfl, hT, q1, q2⟩ := h
 obtain ⟨a, dx, la, wa, ls, ws, rfl, h1, _⟩ := id hT
 refine ⟨_, (b_one (s_if (t_ge (q_sub (q_meth0 M_many hr (by decide) (q_v 0)) q_int) (q_gint rfl g_MOST_ROADS)) (b_one (s_raise goes_of m_TooMany ec_TooMany rfl (a_c (q_fstr (q_gint rfl g_MOST_ROADS)) a_nil))) b_nil)), ?_⟩
 rw [show start ["tree"] [.ref a] = [some (.ref a)] from rfl]
 walk_at "rd"
 refine ⟨dx, _, h1, rfl, .ref a, rs, rfl, hT, _, rfl, ?_⟩
 by_cases c : rs.length < 40
 ·rw [if_neg (by omega)]; exact q1 c
 ·rw [if_pos (by omega)]; exact fun _ => q2 c
def sp_lookVX (CS CT CNN : Addr) : Sp := fun vs H Q E => ∃ ex a ps rs kvs past z, vs = [.ref a, .str z] ∧ ShireV ex CS CT H a ps rs kvs past ∧ AscT z ∧ (NameOk z → (valV kvs (Sum.inr z)).isSome = true → ∀ H', Same H H' → Q .non H') ∧ (¬ (NameOk z ∧ (valV kvs (Sum.inr z)).isSome = true) → ∀ H', Same H H' → E (.ref CNN) none H')
theorem ok_lookVX (F : FunD K "look_village" "Shire.look_village" s_Shire_look_village .none f fd) (m_NoName : mg "NoName" = some (.ref CNN)) (ec_NoName : ErrC K CNN) (cls_Shire : Cls K CS) (nf_places : NoAttr K CS "places") (F_is_name : Fn P w K mg base CX0 1 "is_name" ["thing"] sp_isname) : FnOk P w K mg base (CX1 P w) 2 f fd ["self", "name"] (sp_lookVX CS CT CNN) := by
 refine okX F sc_Shire_look_village (fun vs H Q E h => ?_) (fun cdv A outer s H vs Q E hr h => ?_)
 ·obtain ⟨ex, a, ps, rs, kvs, past, z, rfl, _⟩ := h; rfl
 obtain ⟨ex, a, ps, rs, kvs, past, z, rfl, hS, hz, q1, q2⟩ := h
 obtain ⟨dx, tr, ds, pv, h1, h2, h3, h4, h5, hx, hpx⟩ := id hS
 refine ⟨_, (b_one (s_if (t_w (w_or (t_not (t_val (q_fn F_is_name hr (by decide) rfl (a_c (q_v 1) a_nil)))) (w_or1 (t_ninD (hu_of hr) (q_v 1) (q_fld (q_v 0)))))) (b_one (s_raise goes_of m_NoName ec_NoName rfl (a_c q_str a_nil))) b_nil)), ?_⟩
 rw [show start ["self", "name"] [.ref a, .str z] = [some (.ref a), some (.str z)] from rfl]
 walk_at "rd"
 refine ⟨z, rfl, hz, fun H1 b s1 hb => ⟨b, rfl, ?_⟩⟩
 cases b with
 | false => rw [if_pos rfl]; exact q2 (fun y => Bool.false_ne_true (hb.mpr y.1)) _ s1
 | true =>
  rw [if_neg (by decide)]
  refine ⟨CS, dx, _, s1 _ _ h1, cls_Shire, nf_places, .ref ds, rfl, ds, rfl, kvs, .inl (s1 _ _ (off_sub _ _ h4)), Sum.inr z, rfl, ?_⟩
  cases e : (valV kvs (Sum.inr z)).isSome with
  | true => rw [if_neg (by decide)]; exact q1 (hb.mp rfl) e _ s1
  | false => rw [if_pos rfl]; exact q2 (fun y => by rw [e] at y; exact Bool.false_ne_true y.2) _ s1
end
section
variable {P : Program} {w : World} {K : PySem.W.Frag} {mg : Str → Option Value} {base : Heap} {f : Addr} {fd : FuncData} {CT CNP CS CNN CNR CTM : Addr}
def hasK (kvs : Kvs) (z : Str) : Prop := (valV kvs (Sum.inr z)).isSome = true
def Err (E : XK) (C : Addr) (H : Hp) : Prop := ∀ H', Same H H' → E (.ref C) none H'
theorem Err.now {E : XK} {C : Addr} {H : Hp} (h : Err E C H) : E (.ref C) none H := h H fun _ _ e => e
def sp_comeX (CS CT CNN CNP CTM : Addr) : Sp := fun vs H Q E => ∃ ex a ps rs kvs past z k, vs = [.ref a, .str z, .int k] ∧ ShireV ex CS CT H a ps rs kvs past ∧ past.length < 1000 ∧ kvs.length < 900 ∧ AscT z ∧ (¬ (NameOk z ∧ ¬ hasK kvs z) → Err E CNN H) ∧
 (NameOk z → ¬ hasK kvs z → (¬ inT rs k → Err E CNP H) ∧ (inT rs k → (12 ≤ kvs.length → Err E CTM H) ∧ (kvs.length < 12 → DoneQ ex CS CT a ps H rs (putK kvs (Sum.inr z) (.int k)) (past ++ [(rs, kvs)]) (Q .non))))
theorem ok_comeX {tk : Tok} (F : FunD K "come" "Shire.come" s_Shire_come .none f fd) (n_len : mg "len" = none) (g_MOST_VILLAGES : mg "MOST_VILLAGES" = some (.int 12 tk)) (m_NoName : mg "NoName" = some (.ref CNN)) (ec_NoName : ErrC K CNN) (m_TooMany : mg "TooMany" = some (.ref CTM)) (ec_TooMany : ErrC K CTM) (cls_Shire : Cls K CS) (nf_land : NoAttr K CS "land") (nf_places : NoAttr K CS "places") (F_is_name : Fn P w K mg base CX0 1 "is_name" ["thing"] sp_isname)
  (M_look_crossing : Mth P w K mg base (CX1 P w) 2 CT "look_crossing" ["self", "k"] (sp_cross CT CNP)) (M_place : Mth P w K mg base CX0 2 CS "place" ["self", "name", "k"] (sp_place CS CT)) : FnOk P w K mg base (CX1 P w) 3 f fd ["self", "name", "k"] (sp_comeX CS CT CNN CNP CTM) := by
 refine okX F sc_Shire_come (fun vs H Q E h => ?_) (fun cdv A outer s H vs Q E hr h => ?_)
 ·obtain ⟨ex, a, ps, rs, kvs, past, z, k, rfl, _⟩ := h; rfl
 obtain ⟨ex, a, ps, rs, kvs, past, z, k, rfl, hS, hpl, hkl, hz, q1, q2⟩ := h
 obtain ⟨dx, tr, ds, pv, h1, h2, h3, h4, h5, hx, hpx⟩ := id hS
 refine ⟨_, (b_cons (s_if (t_w (w_or (t_not (t_val (q_fn F_is_name hr (by decide) rfl (a_c (q_v 1) a_nil)))) (w_or1 (t_inD (hu_of hr) (q_v 1) (q_fld (q_v 0)))))) (b_one (s_raise goes_of m_NoName ec_NoName rfl (a_c q_str a_nil))) b_nil)
   (b_cons (s_expr (q_methX goes_of M_look_crossing hr (by decide) (q_fld (q_v 0)) (a_c (q_v 2) a_nil)))
   (b_cons (s_if (t_ge (q_lenD rfl n_len (a_c (q_fld (q_v 0)) a_nil)) (q_gint rfl g_MOST_VILLAGES)) (b_one (s_raise goes_of m_TooMany ec_TooMany rfl (a_c (q_fstr (q_gint rfl g_MOST_VILLAGES)) a_nil))) b_nil)
   (b_one (s_expr (q_meth M_place hr (by decide) (q_v 0) (a_c (q_v 1) (a_c (q_v 2) a_nil)))))))), ?_⟩
 rw [show start ["self", "name", "k"] [.ref a, .str z, .int k] = [some (.ref a), some (.str z), some (.int k)] from rfl]
 refine seq_go fun B hB => ?_
 refine if_go fun A2 hA2 C2 hC2 => ?_
 have bad : ∀ H', Same H H' → ¬ (NameOk z ∧ ¬ hasK kvs z) → A2 [some (.ref a), some (.str z), some (.int k)] H' := by
  intro H' s' c
  subst hA2
  walk_at "rd"
  exact q1 c _ s'
 walk_at "rd"
 refine ⟨z, rfl, hz, fun H1 b s1 hb => ⟨b, rfl, ?_⟩⟩
 cases b with
 | false => rw [if_pos rfl]; exact bad _ s1 fun y => Bool.false_ne_true (hb.mpr y.1)
 | true =>
 rw [if_neg (by decide)]
 have hS1 := hS.same s1
 refine ⟨CS, dx, _, s1 _ _ h1, cls_Shire, nf_places, .ref ds, rfl, ds, rfl, kvs, .inl (s1 _ _ (off_sub _ _ h4)), Sum.inr z, rfl, ?_⟩
 by_cases hv : hasK kvs z
 ·rw [if_pos (show (valV kvs (Sum.inr z)).isSome = true from hv)]
  exact bad _ s1 fun y => y.2 hv
 rw [if_neg (show ¬ (valV kvs (Sum.inr z)).isSome = true from hv)]
 obtain ⟨q3, q4⟩ := q2 (hb.mp rfl) hv
 subst hC2
 subst hB
 try dsimp only
 walk_at "rd"
 have hT1 : TreeV CT H1 tr rs := (h3.same off_sub).same s1
 obtain ⟨x, dt, la, wa, ls, ws, rfl, t1, _⟩ := id hT1
 refine ⟨CS, dx, _, s1 _ _ h1, cls_Shire, nf_land, .ref x, rfl, x, rfl, dt, _, t1, rfl, .ref x, rs, k, rfl, hT1, fun hk => ?_, fun c => q3 c _ s1⟩
 obtain ⟨q5, q6⟩ := q4 hk
 refine ⟨CS, dx, _, s1 _ _ h1, cls_Shire, nf_places, .ref ds, rfl, ds, rfl, kvs, .inl (s1 _ _ (off_sub _ _ h4)), ?_⟩
 by_cases c : kvs.length < 12
 ·rw [if_neg (by omega)]
  exact ⟨dx, _, s1 _ _ h1, rfl, ex, a, ps, rs, kvs, past, z, k, rfl, hS1, hpl, by omega, fun H' s' hS' => q6 c H' ((KeepX.of s1).trans s') hS'⟩
 ·rw [if_pos (by omega)]
  exact fun _ => q5 (by omega) _ s1
def sp_goX (CS CT CNN : Addr) : Sp := fun vs H Q E => ∃ ex a ps rs kvs past z, vs = [.ref a, .str z] ∧ ShireV ex CS CT H a ps rs kvs past ∧ past.length < 1000 ∧ AscT z ∧ (¬ (NameOk z ∧ hasK kvs z) → Err E CNN H) ∧ (NameOk z → hasK kvs z → DoneQ ex CS CT a ps H rs (dropK kvs (Sum.inr z)) (past ++ [(rs, kvs)]) (Q .non))
theorem ok_goX (F : FunD K "go" "Shire.go" s_Shire_go .none f fd) (n_dict : mg "dict" = none) (cls_Shire : Cls K CS) (nf_land : NoAttr K CS "land") (nf_places : NoAttr K CS "places") (M_look_village : Mth P w K mg base (CX1 P w) 2 CS "look_village" ["self", "name"] (sp_lookVX CS CT CNN)) (M_do : Mth P w K mg base CX0 1 CS "do" ["self", "land", "places"] (sp_do CS CT)) : FnOk P w K mg base (CX1 P w) 3 f fd ["self", "name"] (sp_goX CS CT CNN) := by
 refine okX F sc_Shire_go (fun vs H Q E h => ?_) (fun cdv A outer s H vs Q E hr h => ?_)
 ·obtain ⟨ex, a, ps, rs, kvs, past, z, rfl, _⟩ := h; rfl
 obtain ⟨ex, a, ps, rs, kvs, past, z, rfl, hS, hpl, hz, q1, q2⟩ := h
 obtain ⟨dx, tr, ds, pv, h1, h2, h3, h4, h5, hx, hpx⟩ := id hS
 refine ⟨_, (b_cons (s_expr (q_methX goes_of M_look_village hr (by decide) (q_v 0) (a_c (q_v 1) a_nil)))
   (b_cons (s_set 2 sc_Shire_go.nd (q_dictU rfl n_dict (a_c (q_fld (q_v 0)) a_nil)))
   (b_cons (s_expr (q_dpop (q_v 2) (q_v 1)))
   (b_one (s_expr (q_meth M_do hr (by decide) (q_v 0) (a_c (q_fld (q_v 0)) (a_c (q_v 2) a_nil)))))))), ?_⟩
 rw [show start ["self", "name", "places"] [.ref a, .str z] = [some (.ref a), some (.str z), none] from rfl]
 walk_at "rd"
 simp only [rDictU]
 walk_at "rd"
 refine ⟨dx, _, h1, rfl, ex, a, ps, rs, kvs, past, z, rfl, hS, hz, fun hz hv H1 s1 => ?_, q1⟩
 have q := q2 hz hv
 have hS1 := hS.same s1
 refine ⟨CS, dx, _, s1 _ _ h1, cls_Shire, nf_places, .ref ds, rfl, ds, rfl, kvs, .inl (s1 _ _ (off_sub _ _ h4)), fun p H2 hp s2 e2 => ?_⟩
 obtain ⟨v, ev⟩ := Option.isSome_iff_exists.mp hv
 have S3 : Same H1 (upd H2 p (.dK (dropK kvs (Sum.inr z)))) := same_upd hp s2
 have h1' := s1 _ _ h1
 refine ⟨.inl ⟨kvs, .inl e2⟩, kvs, e2, Sum.inr z, rfl, ⟨v, ev⟩, dx, _, S3 _ _ h1', rfl, CS, dx, _, S3 _ _ h1', cls_Shire, nf_land, tr, rfl, ?_⟩
 have so := (off_same (ex := ex) (a := a) (p := ps) s1).trans (off_same S3)
 exact ⟨ex, a, ps, rs, kvs, past, tr, p, rs, _, rfl, hS1.same S3, hpl, h3.same so, off_new hp h1' (s1 _ _ h2) (hx.same s1) upd_same, fun H' s' hS' => q H' ((KeepX.of (s1.trans S3)).trans s') hS'⟩
def sp_moveX (CS CT CNN CNP : Addr) : Sp := fun vs H Q E => ∃ ex a ps rs kvs past z k, vs = [.ref a, .str z, .int k] ∧ ShireV ex CS CT H a ps rs kvs past ∧ past.length < 1000 ∧ kvs.length < 900 ∧ AscT z ∧ (¬ (NameOk z ∧ hasK kvs z) → Err E CNN H) ∧ (NameOk z → hasK kvs z → (¬ inT rs k → Err E CNP H) ∧ (inT rs k → DoneQ ex CS CT a ps H rs (putK kvs (Sum.inr z) (.int k)) (past ++ [(rs, kvs)]) (Q .non)))
theorem ok_moveX (F : FunD K "move" "Shire.move" s_Shire_move .none f fd) (cls_Shire : Cls K CS) (nf_land : NoAttr K CS "land") (M_look_village : Mth P w K mg base (CX1 P w) 2 CS "look_village" ["self", "name"] (sp_lookVX CS CT CNN)) (M_look_crossing : Mth P w K mg base (CX1 P w) 2 CT "look_crossing" ["self", "k"] (sp_cross CT CNP)) (M_place : Mth P w K mg base CX0 2 CS "place" ["self", "name", "k"] (sp_place CS CT)) : FnOk P w K mg base (CX1 P w) 3 f fd ["self", "name", "k"] (sp_moveX CS CT CNN CNP) := by
 refine okX F sc_Shire_move (fun vs H Q E h => ?_) (fun cdv A outer s H vs Q E hr h => ?_)
 ·obtain ⟨ex, a, ps, rs, kvs, past, z, k, rfl, _⟩ := h; rfl
 obtain ⟨ex, a, ps, rs, kvs, past, z, k, rfl, hS, hpl, hkl, hz, q1, q2⟩ := h
 obtain ⟨dx, tr, ds, pv, h1, h2, h3, h4, h5, hx, hpx⟩ := id hS
 refine ⟨_, (b_cons (s_expr (q_methX goes_of M_look_village hr (by decide) (q_v 0) (a_c (q_v 1) a_nil)))
   (b_cons (s_expr (q_methX goes_of M_look_crossing hr (by decide) (q_fld (q_v 0)) (a_c (q_v 2) a_nil)))
   (b_one (s_expr (q_meth M_place hr (by decide) (q_v 0) (a_c (q_v 1) (a_c (q_v 2) a_nil))))))), ?_⟩
 rw [show start ["self", "name", "k"] [.ref a, .str z, .int k] = [some (.ref a), some (.str z), some (.int k)] from rfl]
 walk_at "rd"
 refine ⟨dx, _, h1, rfl, ex, a, ps, rs, kvs, past, z, rfl, hS, hz, fun hz hv H1 s1 => ?_, q1⟩
 have hT1 : TreeV CT H1 tr rs := (h3.same off_sub).same s1
 obtain ⟨x, dt, la, wa, ls, ws, rfl, t1, _⟩ := id hT1
 refine ⟨CS, dx, _, s1 _ _ h1, cls_Shire, nf_land, .ref x, rfl, x, rfl, dt, _, t1, rfl, .ref x, rs, k, rfl, hT1, fun hk => ?_, fun c => (q2 hz hv).1 c _ s1⟩
 have q := (q2 hz hv).2 hk
 exact ⟨dx, _, s1 _ _ h1, rfl, ex, a, ps, rs, kvs, past, z, k, rfl, hS.same s1, hpl, hkl, fun H' s' hS' => q H' ((KeepX.of s1).trans s') hS'⟩
end
section
variable {CT CS : Addr}
theorem off_tree {ex : List Addr} {H H' : Hp} {a ps dx : Addr} {u : V} {rs : List (Nat × Rat)} {fs : List (Str × V)} {pv : List V} (hu : TreeV CT H' u rs) (hd : ∀ l zs, H l = some (.lst zs) → TreeV CT (del l H') u rs) (h1 : H a = some (.ins CS dx fs)) (hf : fs.length ≠ 2) (h2 : H ps = some (.lst pv)) (hx : Lists ex H) (s : Same H H') : TreeV CT (off ex a ps H') u rs := by
 have hL : Lists (ps :: ex) H := fun l hl => by
  rcases List.mem_cons.mp hl with rfl | hl
  ·exact ⟨_, h2⟩
  ·exact hx l hl
 have na : a ∉ ps :: ex := fun z => by obtain ⟨zs, q⟩ := hL a z; rw [h1] at q; cases q
 have ht := tree_dels hu (hL.same s) fun l hl => let ⟨zs, e⟩ := hL l hl; hd l zs e
 have hda : dels (ps :: ex) H' a = some (.ins CS dx fs) := dels_some.mpr ⟨na, s _ _ h1⟩
 refine (tree_del ht hda (tree_ne hu (s _ _ h1) hf)).same fun b o e => ?_
 obtain ⟨g1, g2⟩ := del_some.mp e
 obtain ⟨g3, g4⟩ := dels_some.mp g2
 exact dels_some.mpr ⟨fun z => (List.mem_cons.mp z).elim g1 g3, g4⟩
def setP (rs : List (Nat × Rat)) (j : Nat) (q : Rat) : List (Nat × Rat) := match rs[j]? with
 | none => rs
 | some r => rs.set j (r.1, q)
theorem setP_at {rs : List (Nat × Rat)} {j : Nat} {q : Rat} {r : Nat × Rat} (h : rs[j]? = some r) : setP rs j q = rs.set j (r.1, q) := by unfold setP; rw [h]
end
def cutP (rs : List (Nat × Rat)) (j : Nat) (t : Rat) : List (Nat × Rat) := match rs[j]? with
 | none => rs
 | some r => (rs ++ [(r.1, t)]).set j (rs.length + 1, r.2 - t)
theorem cutP_at {rs : List (Nat × Rat)} {j : Nat} {q : Rat} {r : Nat × Rat} (h : rs[j]? = some r) : cutP rs j q = (rs ++ [(r.1, q)]).set j (rs.length + 1, r.2 - q) := by unfold cutP; rw [h]
theorem rat_prp {H : Hp} {y : V} (h : PrP H y) : ∃ t, RatV H y t ∧ 0 ≤ t.num := by
 obtain ⟨a, t, b, rfl, e, h1, h2, h3⟩ := h
 have hb : ((b.toNat : Nat) : Int) = b := Int.toNat_of_nonneg (by omega)
 refine ⟨⟨t, b.toNat, by omega, ?_⟩, ⟨a, rfl, ?_⟩, h3⟩
 ·have h2' : Nat.gcd t.natAbs b.natAbs = 1 := h2
  rw [show b.natAbs = b.toNat by omega] at h2'
  exact h2'
 ·show H a = some (.tup [.int t, .int ((b.toNat : Nat) : Int)])
  rw [hb]
  exact e
section
variable {P : Program} {w : World} {K : PySem.W.Frag} {mg : Str → Option Value} {base : Heap} {f : Addr} {fd : FuncData} {CT CNP CS CNN CNR CTM : Addr}
def sp_repriceX (CS CT CNP CNR : Addr) : Sp := fun vs H Q E => ∃ (ex : List Addr) (a ps : Addr) (rs : List (Nat × Rat)) (kvs : Kvs) (past : List Now) (k : Int) (y : V), vs = [.ref a, .int k, y] ∧ ShireV ex CS CT H a ps rs kvs past ∧ past.length < 1000 ∧ Thing H y ∧ rs.length ≤ 40 ∧ (¬ inR rs k → Err E CNP H) ∧
 (inR rs k → (¬ PrP H y → Err E CNR H) ∧ ∀ (j : Nat) (t : Rat), k = (j : Int) + 1 → RatV H y t → 0 ≤ t.num → TreeOk (setP rs j t) ∧ (∀ r ∈ setP rs j t, 0 ≤ r.2.num) ∧ DoneQ ex CS CT a ps H (setP rs j t) kvs (past ++ [(rs, kvs)]) (Q .non))
theorem ok_repriceX (F : FunD K "reprice" "Shire.reprice" s_Shire_reprice .none f fd) (cls_Shire : Cls K CS) (nf_land : NoAttr K CS "land") (nf_places : NoAttr K CS "places") (M_look_road : Mth P w K mg base (CX1 P w) 3 CT "look_road" ["self", "k"] (sp_lookR CT CNP)) (M_leads_to : Mth P w K mg base (CX1 P w) 4 CT "leads_to" ["self", "k"] (sp_leads CT CNP))
  (F_look_price : Fn P w K mg base (CX1 P w) 4 "look_price" ["price"] (sp_lookPriceX CNR)) (F_with_road : Fn P w K mg base CX0 8 "with_road" ["tree", "k", "road"] (sp_withRoad CT)) (M_do : Mth P w K mg base CX0 1 CS "do" ["self", "land", "places"] (sp_do CS CT)) : FnOk P w K mg base (CX1 P w) 9 f fd ["self", "k", "price"] (sp_repriceX CS CT CNP CNR) := by
 refine okX F sc_Shire_reprice (fun vs H Q E h => ?_) (fun cdv A outer s H vs Q E hr h => ?_)
 ·obtain ⟨ex, a, ps, rs, kvs, past, k, y, rfl, _⟩ := h; rfl
 obtain ⟨ex, a, ps, rs, kvs, past, k, y, rfl, hS, hpl, hth, hl, q1, q2⟩ := h
 obtain ⟨dx, tr, ds, pv, h1, h2, h3, h4, h5, hx, hpx⟩ := id hS
 have hT : TreeV CT H tr rs := h3.same off_sub
 obtain ⟨x, dt, la, wa, ls, ws, rfl, t1, _⟩ := id hT
 refine ⟨_, (b_cons (s_expr (q_methX goes_of M_look_road hr (by decide) (q_fld (q_v 0)) (a_c (q_v 1) a_nil)))
   (b_cons (s_expr (q_fnX goes_of F_look_price hr (by decide) rfl (a_c (q_v 2) a_nil)))
   (b_one (s_expr (q_meth M_do hr (by decide) (q_v 0) (a_c (q_fn F_with_road hr (by decide) rfl (a_c (q_fld (q_v 0)) (a_c (q_v 1) (a_c (q_tup (a_c (q_methX goes_of M_leads_to hr (by decide) (q_fld (q_v 0)) (a_c (q_v 1) a_nil)) (a_c (q_v 2) a_nil))) a_nil)))) (a_c (q_fld (q_v 0)) a_nil))))))), ?_⟩
 rw [show start ["self", "k", "price"] [.ref a, .int k, y] = [some (.ref a), some (.int k), some (y)] from rfl]
 walk_at "rd"
 refine ⟨CS, dx, _, h1, cls_Shire, nf_land, .ref x, rfl, x, rfl, dt, _, t1, rfl, .ref x, rs, _, rfl, hT, fun hin => ?_, fun c => (q1 c).now⟩
 obtain ⟨q3, q4⟩ := q2 hin
 refine ⟨y, rfl, hth, fun hp => ?_, fun c => (q3 c).now⟩
 obtain ⟨t, hy, hn⟩ := rat_prp hp
 obtain ⟨j, hk⟩ : ∃ j : Nat, k = (j : Int) + 1 := ⟨(k - 1).toNat, by unfold inR at hin; omega⟩
 obtain ⟨hO, hnn, q⟩ := q4 j t hk hy hn
 subst hk
 have hj : j < rs.length := by unfold inR at hin; omega
 have hr0 := List.getElem?_eq_getElem hj
 rw [setP_at hr0] at hO hnn q
 refine ⟨dx, _, h1, rfl, CS, dx, _, h1, cls_Shire, nf_land, .ref x, rfl, CS, dx, _, h1, cls_Shire, nf_land, .ref x, rfl, x, rfl, dt, _, t1, rfl, .ref x, rs, _, rfl, hT, fun k' r ek er p H2 hp s2 e2 => ?_, fun z => absurd hin z⟩
 obtain rfl : k' = j := by omega
 rw [hr0] at er
 cases er
 refine ⟨.ref x, rs, k', .ref p, (rs[k'].1, t), rfl, hT.same s2, ⟨p, y, rfl, e2, hy.same s2⟩, hj, hO, hl, hnn, fun u H3 s3 hu hd => ?_⟩
 have s23 := s2.trans s3
 refine ⟨CS, dx, _, s23 _ _ h1, cls_Shire, nf_places, .ref ds, rfl, ?_⟩
 exact ⟨ex, a, ps, rs, kvs, past, u, ds, _, kvs, rfl, hS.same s23, hpl, off_tree hu (fun l zs e => hd l zs (s2 _ _ e)) h1 (by show (3 : Nat) ≠ 2; decide) h2 hx s23, (off_same s23) _ _ h4, fun H' s' hS' => q H' ((KeepX.of s23).trans s') hS'⟩
def sp_buildX (CS CT CNP CNR CTM : Addr) : Sp := fun vs H Q E => ∃ (ex : List Addr) (a ps : Addr) (rs : List (Nat × Rat)) (kvs : Kvs) (past : List Now) (k : Int) (y : V), vs = [.ref a, .int k, y] ∧ ShireV ex CS CT H a ps rs kvs past ∧ past.length < 1000 ∧ Thing H y ∧ (¬ inT rs k → Err E CNP H) ∧
 (inT rs k → (¬ PrP H y → Err E CNR H) ∧ (PrP H y → (¬ rs.length < 40 → Err E CTM H) ∧ (rs.length < 40 → ∀ (to : Nat) (t : Rat), k = (to : Int) → RatV H y t → 0 ≤ t.num → TreeOk (rs ++ [(to, t)]) ∧ (∀ r ∈ rs ++ [(to, t)], 0 ≤ r.2.num) ∧ DoneQ ex CS CT a ps H (rs ++ [(to, t)]) kvs (past ++ [(rs, kvs)]) (Q (.int ((rs.length : Int) + 1))))))
theorem ok_buildX (F : FunD K "build" "Shire.build" s_Shire_build .none f fd) (cls_Shire : Cls K CS) (nf_land : NoAttr K CS "land") (nf_places : NoAttr K CS "places") (M_look_crossing : Mth P w K mg base (CX1 P w) 2 CT "look_crossing" ["self", "k"] (sp_cross CT CNP)) (M_many : Mth P w K mg base CX0 1 CT "many" ["self"] (sp_many CT))
  (F_look_price : Fn P w K mg base (CX1 P w) 4 "look_price" ["price"] (sp_lookPriceX CNR)) (F_look_room : Fn P w K mg base (CX1 P w) 2 "look_room" ["tree"] (sp_lookRoomX CT CTM)) (F_with_one_more : Fn P w K mg base CX0 8 "with_one_more" ["tree", "road"] (sp_withMore CT)) (M_do : Mth P w K mg base CX0 1 CS "do" ["self", "land", "places"] (sp_do CS CT)) : FnOk P w K mg base (CX1 P w) 9 f fd ["self", "to", "price"] (sp_buildX CS CT CNP CNR CTM) := by
 refine okX F sc_Shire_build (fun vs H Q E h => ?_) (fun cdv A outer s H vs Q E hr h => ?_)
 ·obtain ⟨ex, a, ps, rs, kvs, past, k, y, rfl, _⟩ := h; rfl
 obtain ⟨ex, a, ps, rs, kvs, past, k, y, rfl, hS, hpl, hth, q1, q2⟩ := h
 obtain ⟨dx, tr, ds, pv, h1, h2, h3, h4, h5, hx, hpx⟩ := id hS
 have hT : TreeV CT H tr rs := h3.same off_sub
 obtain ⟨x, dt, la, wa, ls, ws, rfl, t1, _⟩ := id hT
 refine ⟨_, (b_cons (s_expr (q_methX goes_of M_look_crossing hr (by decide) (q_fld (q_v 0)) (a_c (q_v 1) a_nil)))
   (b_cons (s_expr (q_fnX goes_of F_look_price hr (by decide) rfl (a_c (q_v 2) a_nil)))
   (b_cons (s_expr (q_fnX goes_of F_look_room hr (by decide) rfl (a_c (q_fld (q_v 0)) a_nil)))
   (b_cons (s_set 3 sc_Shire_build.nd (q_meth0 M_many hr (by decide) (q_fld (q_v 0))))
   (b_cons (s_expr (q_meth M_do hr (by decide) (q_v 0) (a_c (q_fn F_with_one_more hr (by decide) rfl (a_c (q_fld (q_v 0)) (a_c (q_tup (a_c (q_v 1) (a_c (q_v 2) a_nil))) a_nil))) (a_c (q_fld (q_v 0)) a_nil))))
   (b_one (s_ret (q_v 3)))))))), ?_⟩
 rw [show start ["self", "to", "price", "fresh"] [.ref a, .int k, y] = [some (.ref a), some (.int k), some (y), none] from rfl]
 walk_at "rd"
 refine ⟨CS, dx, _, h1, cls_Shire, nf_land, .ref x, rfl, x, rfl, dt, _, t1, rfl, .ref x, rs, _, rfl, hT, fun hin => ?_, fun c => (q1 c).now⟩
 obtain ⟨q3, q4⟩ := q2 hin
 refine ⟨y, rfl, hth, fun hp => ?_, fun c => (q3 c).now⟩
 obtain ⟨q5, q6⟩ := q4 hp
 refine ⟨CS, dx, _, h1, cls_Shire, nf_land, .ref x, rfl, .ref x, rs, rfl, hT, fun hl => ?_, fun c => (q5 c).now⟩
 obtain ⟨t, hy, hn⟩ := rat_prp hp
 obtain ⟨to, hk⟩ : ∃ to : Nat, k = (to : Int) := ⟨k.toNat, by unfold inT at hin; omega⟩
 obtain ⟨hO, hnn, q⟩ := q6 hl to t hk hy hn
 subst hk
 refine ⟨CS, dx, _, h1, cls_Shire, nf_land, .ref x, rfl, x, rfl, dt, _, t1, rfl, .ref x, rs, rfl, hT, ?_⟩
 refine ⟨dx, _, h1, rfl, CS, dx, _, h1, cls_Shire, nf_land, .ref x, rfl, fun p H2 hp s2 e2 => ?_⟩
 refine ⟨.ref x, rs, .ref p, (to, t), rfl, hT.same s2, ⟨p, y, rfl, e2, hy.same s2⟩, hO, hl, hnn, fun u H3 s3 hu hd => ?_⟩
 have s23 := s2.trans s3
 refine ⟨CS, dx, _, s23 _ _ h1, cls_Shire, nf_places, .ref ds, rfl, ?_⟩
 exact ⟨ex, a, ps, rs, kvs, past, u, ds, _, kvs, rfl, hS.same s23, hpl, off_tree hu (fun l zs e => hd l zs (s2 _ _ e)) h1 (by show (3 : Nat) ≠ 2; decide) h2 hx s23, (off_same s23) _ _ h4, fun H' s' hS' => q H' ((KeepX.of s23).trans s') hS'⟩
def sp_cutX (CS CT CNP CNR CTM : Addr) : Sp := fun vs H Q E => ∃ (ex : List Addr) (a ps : Addr) (rs : List (Nat × Rat)) (kvs : Kvs) (past : List Now) (k : Int) (y : V), vs = [.ref a, .int k, y] ∧ ShireV ex CS CT H a ps rs kvs past ∧ past.length < 1000 ∧ Thing H y ∧ (∀ r ∈ rs, SzQ 2000 r.2) ∧ (∀ t, RatV H y t → SzQ 2000 t) ∧ (¬ inR rs k → Err E CNP H) ∧
 (inR rs k → (¬ PrP H y → Err E CNR H) ∧ ∀ (j : Nat) (r : Nat × Rat) (t : Rat), k = (j : Int) + 1 → rs[j]? = some r → RatV H y t → 0 ≤ t.num → (r.2 < t → Err E CNR H) ∧ (¬ r.2 < t → (¬ rs.length < 40 → Err E CTM H) ∧ (rs.length < 40 →
  TreeOk (rs ++ [(r.1, t)]) ∧ (∀ u ∈ rs ++ [(r.1, t)], 0 ≤ u.2.num) ∧ TreeOk (cutP rs j t) ∧ (∀ u ∈ cutP rs j t, 0 ≤ u.2.num) ∧ DoneQ ex CS CT a ps H (cutP rs j t) kvs (past ++ [(rs, kvs)]) (Q (.int ((rs.length : Int) + 1))))))
theorem ok_cutX (F : FunD K "cut" "Shire.cut" s_Shire_cut .none f fd) (m_NoPrice : mg "NoPrice" = some (.ref CNR)) (ec_NoPrice : ErrC K CNR) (cls_Shire : Cls K CS) (nf_land : NoAttr K CS "land") (nf_places : NoAttr K CS "places") (M_price : Mth P w K mg base (CX1 P w) 4 CT "price" ["self", "k"] (sp_priceM CT CNP)) (M_leads_to : Mth P w K mg base (CX1 P w) 4 CT "leads_to" ["self", "k"] (sp_leads CT CNP)) (M_many : Mth P w K mg base CX0 1 CT "many" ["self"] (sp_many CT))
  (F_look_price : Fn P w K mg base (CX1 P w) 4 "look_price" ["price"] (sp_lookPriceX CNR)) (F_is_less : Fn P w K mg base CX0 1 "is_less" ["one", "other"] sp_less) (F_look_room : Fn P w K mg base (CX1 P w) 2 "look_room" ["tree"] (sp_lookRoomX CT CTM)) (F_with_one_more : Fn P w K mg base CX0 8 "with_one_more" ["tree", "road"] (sp_withMore CT)) (F_with_road : Fn P w K mg base CX0 8 "with_road" ["tree", "k", "road"] (sp_withRoad CT))
  (F_rest_of : Fn P w K mg base CX0 3 "rest_of" ["one", "other"] (sp_arith (· - ·))) (M_do : Mth P w K mg base CX0 1 CS "do" ["self", "land", "places"] (sp_do CS CT)) : FnOk P w K mg base (CX1 P w) 9 f fd ["self", "k", "price"] (sp_cutX CS CT CNP CNR CTM) := by
 refine okX F sc_Shire_cut (fun vs H Q E h => ?_) (fun cdv A outer s H vs Q E hr h => ?_)
 ·obtain ⟨ex, a, ps, rs, kvs, past, k, y, rfl, _⟩ := h; rfl
 obtain ⟨ex, a, ps, rs, kvs, past, k, y, rfl, hS, hpl, hth, zr, zy, q1, q2⟩ := h
 obtain ⟨dx, tr, ds, pv, h1, h2, h3, h4, h5, hx, hpx⟩ := id hS
 have hT : TreeV CT H tr rs := h3.same off_sub
 obtain ⟨x, dt, la, wa, ls, ws, rfl, t1, _⟩ := id hT
 refine ⟨_, (b_cons (s_set 3 sc_Shire_cut.nd (q_methX goes_of M_price hr (by decide) (q_fld (q_v 0)) (a_c (q_v 1) a_nil)))
   (b_cons (s_expr (q_fnX goes_of F_look_price hr (by decide) rfl (a_c (q_v 2) a_nil)))
   (b_cons (s_if (t_val (q_fn F_is_less hr (by decide) rfl (a_c (q_v 3) (a_c (q_v 2) a_nil)))) (b_one (s_raise goes_of m_NoPrice ec_NoPrice rfl (a_c q_str a_nil))) b_nil)
   (b_cons (s_expr (q_fnX goes_of F_look_room hr (by decide) rfl (a_c (q_fld (q_v 0)) a_nil)))
   (b_cons (s_set 4 sc_Shire_cut.nd (q_meth0 M_many hr (by decide) (q_fld (q_v 0))))
   (b_cons (s_set 5 sc_Shire_cut.nd (q_fn F_with_one_more hr (by decide) rfl (a_c (q_fld (q_v 0)) (a_c (q_tup (a_c (q_methX goes_of M_leads_to hr (by decide) (q_fld (q_v 0)) (a_c (q_v 1) a_nil)) (a_c (q_v 2) a_nil))) a_nil))))
   (b_cons (s_expr (q_meth M_do hr (by decide) (q_v 0) (a_c (q_fn F_with_road hr (by decide) rfl (a_c (q_v 5) (a_c (q_v 1) (a_c (q_tup (a_c (q_v 4) (a_c (q_fn F_rest_of hr (by decide) rfl (a_c (q_v 3) (a_c (q_v 2) a_nil))) a_nil))) a_nil)))) (a_c (q_fld (q_v 0)) a_nil))))
   (b_one (s_ret (q_v 4)))))))))), ?_⟩
 rw [show start ["self", "k", "price", "whole", "fresh", "longer"] [.ref a, .int k, y] = [some (.ref a), some (.int k), some (y), none, none, none] from rfl]
 refine seq_go fun B hB => ?_
 walk_at "rd"
 refine ⟨CS, dx, _, h1, cls_Shire, nf_land, .ref x, rfl, x, rfl, dt, _, t1, rfl, .ref x, rs, _, rfl, hT, fun k' r wh ek hr0 hwh => ?_, fun c => (q1 c).now⟩
 subst ek
 have hj : k' < rs.length := (List.getElem?_eq_some_iff.mp hr0).1
 have hin : inR rs ((k' : Int) + 1) := by unfold inR; omega
 obtain ⟨q3, q4⟩ := q2 hin
 subst hB
 try dsimp only
 refine seq_go fun B hB => ?_
 walk_at "rd"
 refine ⟨y, rfl, hth, fun hp => ?_, fun c => (q3 c).now⟩
 obtain ⟨t, hy, hn⟩ := rat_prp hp
 obtain ⟨q5, q6⟩ := q4 k' r t rfl hr0 hy hn
 have z1 := zr r (List.mem_of_getElem? hr0)
 have z2 := zy t hy
 subst hB
 try dsimp only
 refine seq_go fun B hB => ?_
 walk_at "rd"
 refine ⟨wh, y, r.2, t, rfl, hwh, hy, z1, z2, _, rfl, ?_⟩
 by_cases hle : r.2 < t
 ·rw [if_pos (by simpa using hle)]
  exact (q5 hle).now
 rw [if_neg (by simpa using hle)]
 obtain ⟨q7, q8⟩ := q6 hle
 subst hB
 try dsimp only
 walk_at "rd"
 refine ⟨CS, dx, _, h1, cls_Shire, nf_land, .ref x, rfl, .ref x, rs, rfl, hT, fun hl => ?_, fun c => (q7 c).now⟩
 obtain ⟨hO1, hn1, hO, hnn, q⟩ := q8 hl
 rw [cutP_at hr0] at hO hnn q
 refine ⟨CS, dx, _, h1, cls_Shire, nf_land, .ref x, rfl, x, rfl, dt, _, t1, rfl, .ref x, rs, rfl, hT, ?_⟩
 refine ⟨CS, dx, _, h1, cls_Shire, nf_land, .ref x, rfl, CS, dx, _, h1, cls_Shire, nf_land, .ref x, rfl, x, rfl, dt, _, t1, rfl, .ref x, rs, _, rfl, hT, fun k2 r2 ek2 er2 p H2 hp s2 e2 => ?_, fun z => absurd hin z⟩
 obtain rfl : k2 = k' := by omega
 rw [hr0] at er2
 cases er2
 refine ⟨.ref x, rs, .ref p, (r.1, t), rfl, hT.same s2, ⟨p, y, rfl, e2, hy.same s2⟩, hO1, hl, hn1, fun u H3 s3 hu hd => ?_⟩
 have s23 := s2.trans s3
 refine ⟨dx, _, s23 _ _ h1, rfl, wh, y, r.2, t, rfl, hwh.same s23, hy.same s23, z1, z2, fun v H4 s4 hv p5 H5 hp5 s5 e5 => ?_⟩
 have s35 := s4.trans s5
 have s25 := s23.trans s35
 refine ⟨u, rs ++ [(r.1, t)], k2, .ref p5, (rs.length + 1, r.2 - t), rfl, hu.same s35, ⟨p5, v, rfl, e5, hv.same s5⟩, by simp; omega, hO, by simp; omega, hnn, fun u2 H6 s6 hu2 hd2 => ?_⟩
 have s26 := s25.trans s6
 refine ⟨CS, dx, _, s26 _ _ h1, cls_Shire, nf_places, .ref ds, rfl, ?_⟩
 exact ⟨ex, a, ps, rs, kvs, past, u2, ds, _, kvs, rfl, hS.same s26, hpl, off_tree hu2 (fun l zs e => hd2 l zs (s25 _ _ e)) h1 (by show (3 : Nat) ≠ 2; decide) h2 hx s26, (off_same s26) _ _ h4, fun H' s' hS' => q H' ((KeepX.of s26).trans s') hS'⟩
end
def nmLet (k sd sp : Int) (i : Nat) : Nat := 97 + ((sd / 64 + (i : Int) * (sd / 7 % 3) + (if (i : Int) = sp then k else 0)) % 26).toNat
def nameP (k sd sp : Int) : Nat → Str
 | 0 => Str.empty
 | i + 1 => nameP k sd sp i ++ one (nmLet k sd sp i)
def nameZ (k sd : Int) : Str := nameP k sd (sd / 8 % (1 + (sd + k * (sd % 2)) % 8)) (1 + (sd + k * (sd % 2)) % 8).toNat
theorem nameP_len (k sd sp : Int) : ∀ i, (nameP k sd sp i).length = i
 | 0 => rfl
 | i + 1 => by
  show (nameP k sd sp i ++ one _).length = _
  rw [strLen_append, nameP_len k sd sp i]
  rfl
theorem abc_is {i : Int} (h0 : 0 ≤ i) (h1 : i < 26) : atI (Str.ofString "abcdefghijklmnopqrstuvwxyz").cps.toList i = some (97 + i.toNat) := by
 obtain ⟨k, rfl⟩ : ∃ k : Nat, i = (k : Int) := ⟨i.toNat, by omega⟩
 have key : ∀ k : Nat, k < 26 → (Str.ofString "abcdefghijklmnopqrstuvwxyz").cps.toList[k]? = some (97 + k) := by decide +kernel
 exact atI_nat (key k (by omega))
theorem abc_len : (Str.ofString "abcdefghijklmnopqrstuvwxyz").length = 26 := by decide +kernel
def PnmX (H0 : Hp) (k sd sz sp : Int) (i : Nat) (σ : St) (H : Hp) : Prop := ∃ (o1 o2 : Option V), σ = [some (.int k), some (.int sd), some (.str (Str.ofString "abcdefghijklmnopqrstuvwxyz")), some (.int sz), some (.int sp), some (.str (nameP k sd sp i)), o1, o2] ∧ H = H0
section
variable {P : Program} {w : World} {K : PySem.W.Frag} {mg : Str → Option Value} {base : Heap} {f : Addr} {fd : FuncData} {CT CNP CS : Addr}
def sp_nameX : Sp := fun vs H Q _ => ∃ k sd : Int, vs = [.int k, .int sd] ∧ 0 ≤ k ∧ k < 26 ∧ 0 ≤ sd ∧ sd < 99989 ∧ Q (.str (nameZ k sd)) H
theorem ok_nameX (F : Fun K "_law_name" "_law_name" s_law_name f fd) (n_range : mg "range" = none) : FnOk P w K mg base CX0 1 f fd ["_law_k", "_law_seed"] sp_nameX := by
 refine okQ F sc_law_name (fun vs H Q E h => ?_) (fun cdv A outer s H vs Q E hr h => ?_)
 ·obtain ⟨k, sd, rfl, _⟩ := h; rfl
 obtain ⟨k, sd, rfl, hk0, hk1, hs0, hs1, q⟩ := h
 unfold nameZ at q
 refine ⟨_, (b_cons (s_set 2 sc_law_name.nd q_str)
   (b_cons (s_set 3 sc_law_name.nd (q_add q_int (q_mod (q_add (q_v 1) (q_mul (q_v 0) (q_mod (q_v 1) q_int))) q_int)))
   (b_cons (s_set 4 sc_law_name.nd (q_mod (q_fdiv (q_v 1) q_int) (q_v 3)))
   (b_cons (s_set 5 sc_law_name.nd q_str)
   (b_cons (s_for PassesOwn.never (i_rng1 rfl n_range (a_c (q_v 3) a_nil)) (g_name 6 sc_law_name.nd) (b_cons (s_set 7 sc_law_name.nd (q_add (q_fdiv (q_v 1) q_int) (q_mul (q_v 6) (q_mod (q_fdiv (q_v 1) q_int) q_int))))
   (b_cons (s_if (t_eq (q_v 6) (q_v 4)) (b_one (s_set 7 sc_law_name.nd (q_add (q_v 7) (q_v 0)))) b_nil)
   (b_one (s_set 5 sc_law_name.nd (q_addS (q_v 5) (q_ixX (q_v 2) (q_mod (q_v 7) q_int))))))))
   (b_one (s_ret (q_v 5)))))))), ?_⟩
 rw [show start ["_law_k", "_law_seed", "_law_letters", "_law_size", "_law_spot", "_law_word_here", "_law_place", "_law_at"] [.int k, .int sd] = [some (.int k), some (.int sd), none, none, none, none, none, none] from rfl]
 walk_at "rd"
 simp only [tFor_rng1]
 walk_at "rd"
 have hz0 : ∀ u : Int, 0 ≤ u % 8 ∧ u % 8 < 8 := fun u => ⟨Int.emod_nonneg _ (by decide), Int.emod_lt_of_pos _ (by decide)⟩
 have hsz := hz0 (sd + k * (sd % 2))
 generalize (sd + k * (sd % 2)) % 8 = z8 at hsz q ⊢
 refine ⟨.inr ⟨by omega, by omega⟩, by omega, by omega, by omega, ?_⟩
 refine rngK_of (PnmX H k sd (1 + z8) (sd / 8 % (1 + z8))) ⟨_, _, rfl, rfl⟩ (fun i σ H2 hi hP => ?_) (fun σ H2 hP => ?_)
 ·obtain ⟨o1, o2, rfl, rfl⟩ := hP
  have hi8 : i < 8 := by omega
  have hz := nameP_len k sd (sd / 8 % (1 + z8)) i
  refine seq_go fun B hB => ?_
  walk_at "rd"
  refine ⟨.inl ⟨by omega, by omega⟩, ?_⟩
  subst hB
  try dsimp only
  refine seq_go fun B hB => ?_
  have fin2 : ∀ u : Int, u = sd / 64 + (i : Int) * (sd / 7 % 3) + (if (i : Int) = sd / 8 % (1 + z8) then k else 0) → B [some (V.int k), some (V.int sd), some (V.str (Str.ofString "abcdefghijklmnopqrstuvwxyz")), some (V.int (1 + z8)), some (V.int (sd / 8 % (1 + z8))), some (V.str (nameP k sd (sd / 8 % (1 + z8)) i)), some (V.int (i : Int)), some (V.int u)] H2 := by
   intro u hu
   subst hB
   try dsimp only
   walk_at "rd"
   refine ⟨by rw [abc_len]; decide, _, abc_is (i := u % 26) (by omega) (by omega), ?_, some (V.int (i : Int)), some (V.int u), ?_, rfl⟩
   ·show (nameP k sd (sd / 8 % (1 + z8)) i).length + 1 ≤ sizeLine
    exact big_le (by omega)
   ·rw [hu]
    rfl
  walk_at "rd"
  refine ite2 (fun c => fin2 _ (by rw [if_pos c])) (fun c => fin2 _ (by rw [if_neg c, Int.add_zero]))
 ·obtain ⟨o1, o2, rfl, rfl⟩ := hP
  walk_at "rd"
  exact q
end
theorem name_ok : ∀ j : Fin 23, ∀ s : Fin 3, 1 ≤ (nameZ ((j : Nat) : Int) (100 + ((s : Nat) : Int))).length ∧ (nameZ ((j : Nat) : Int) (100 + ((s : Nat) : Int))).length ≤ 8 ∧ ∀ d ∈ (nameZ ((j : Nat) : Int) (100 + ((s : Nat) : Int))).cps.toList, 97 ≤ d ∧ d ≤ 122 := by decide +kernel
theorem name_ne : ∀ j : Fin 23, ∀ j' : Fin 23, ∀ s : Fin 3, ∀ s' : Fin 3, j ≠ j' → nameZ ((j : Nat) : Int) (100 + ((s : Nat) : Int)) ≠ nameZ ((j' : Nat) : Int) (100 + ((s' : Nat) : Int)) := by decide +kernel
def cutRs (rs : List (Nat × Rat)) (j : Nat) (e : Int) : List (Nat × Rat) := match rs[j]? with
 | none => []
 | some r => rs.take j ++ [(rs.length + 1, Rat.divInt (r.2.num * (8 - e)) ((r.2.den : Int) * 8))] ++ rs.drop (j + 1) ++ [(r.1, Rat.divInt (r.2.num * e) ((r.2.den : Int) * 8))]
section
variable {rs : List (Nat × Rat)} {hf : Str → Nat} {ss : List Str} {j : Nat} {e : Int} {r : Nat × Rat}
theorem cut_len (h : rs[j]? = some r) : (cutRs rs j e).length = rs.length + 1 := by
 have hj := (List.getElem?_eq_some_iff.mp h).1
 unfold cutRs
 rw [h]
 simp
 omega
theorem cut_at (h : rs[j]? = some r) (k : Nat) : (cutRs rs j e)[k]? = if k = j then some (rs.length + 1, Rat.divInt (r.2.num * (8 - e)) ((r.2.den : Int) * 8)) else if k < rs.length then rs[k]? else if k = rs.length then some (r.1, Rat.divInt (r.2.num * e) ((r.2.den : Int) * 8)) else none := by
 have hj := (List.getElem?_eq_some_iff.mp h).1
 unfold cutRs
 rw [h]
 dsimp only
 have l1 : (rs.take j).length = j := by rw [List.length_take]; omega
 have l2 : (rs.take j ++ [(rs.length + 1, Rat.divInt (r.2.num * (8 - e)) ((r.2.den : Int) * 8))]).length = j + 1 := by rw [List.length_append, l1]; rfl
 have l3 : (rs.take j ++ [(rs.length + 1, Rat.divInt (r.2.num * (8 - e)) ((r.2.den : Int) * 8))] ++ rs.drop (j + 1)).length = rs.length := by rw [List.length_append, l2, List.length_drop]; omega
 by_cases c1 : k < rs.length
 ·rw [List.getElem?_append_left (by rw [l3]; exact c1)]
  by_cases c2 : k < j + 1
  ·rw [List.getElem?_append_left (by rw [l2]; exact c2)]
   by_cases c3 : k < j
   ·rw [List.getElem?_append_left (by rw [l1]; exact c3), List.getElem?_take_of_lt c3, if_neg (by omega), if_pos c1]
   ·have : k = j := by omega
    subst this
    rw [List.getElem?_append_right (by rw [l1]; exact Nat.le_refl _), l1, Nat.sub_self, if_pos rfl]
    rfl
  ·rw [List.getElem?_append_right (by rw [l2]; omega), l2, List.getElem?_drop, if_neg (by omega), if_pos c1]
   congr 1
   omega
 ·rw [List.getElem?_append_right (by rw [l3]; omega), l3, if_neg (by omega), if_neg c1]
  by_cases c2 : k = rs.length
  ·rw [if_pos c2, c2, Nat.sub_self]
   rfl
  ·rw [if_neg c2, List.getElem?_eq_none (by simp; omega)]
theorem cut_tree (hO : TreeOk rs) (h : rs[j]? = some r) : TreeOk (cutRs rs j e) := by
 have hj := (List.getElem?_eq_some_iff.mp h).1
 obtain ⟨rank, r0, hb, hr⟩ := hO
 obtain ⟨g1, g2⟩ := hr j r h
 refine ⟨fun v => if v = rs.length + 1 then rank (j + 1) else if rank v < rank (j + 1) then rank v else rank v + 1, ?_, fun v => ?_, fun k t ht => ?_⟩
 ·dsimp only
  rw [r0]
  (repeat' split) <;> omega
 ·rw [cut_len h]
  have h1 := hb v
  have h2 := hb (j + 1)
  dsimp only
  (repeat' split) <;> omega
 ·rw [cut_at h] at ht
  rw [cut_len h]
  by_cases c1 : k = j
  ·rw [if_pos c1] at ht
   cases ht
   subst c1
   refine ⟨Nat.le_refl _, ?_⟩
   dsimp only
   (repeat' split) <;> omega
  ·rw [if_neg c1] at ht
   by_cases c2 : k < rs.length
   ·rw [if_pos c2] at ht
    obtain ⟨a1, a2⟩ := hr k t ht
    refine ⟨by omega, ?_⟩
    dsimp only
    (repeat' split) <;> omega
   ·rw [if_neg c2] at ht
    by_cases c3 : k = rs.length
    ·rw [if_pos c3] at ht
     cases ht
     subst c3
     refine ⟨by omega, ?_⟩
     dsimp only
     (repeat' split) <;> omega
    ·rw [if_neg c3] at ht
     cases ht
end
theorem treeok_tos {rs rs' : List (Nat × Rat)} (h : rs.map (·.1) = rs'.map (·.1)) (hT : TreeOk rs) : TreeOk rs' := by
 obtain ⟨rank, r0, hb, hr⟩ := hT
 have hl : rs.length = rs'.length := by have := congrArg List.length h; simpa using this
 refine ⟨rank, r0, fun v => by rw [← hl]; exact hb v, fun k r e => ?_⟩
 have hk : k < rs.length := by rw [hl]; exact (List.getElem?_eq_some_iff.mp e).1
 have e2 := congrArg (fun l => l[k]?) h
 simp only [List.getElem?_map, e, List.getElem?_eq_getElem hk, Option.map_some, Option.some.injEq] at e2
 obtain ⟨g1, g2⟩ := hr k _ (List.getElem?_eq_getElem hk)
 rw [e2] at g1 g2
 rw [← hl]
 exact ⟨g1, g2⟩
theorem treeok_snoc {rs : List (Nat × Rat)} (hT : TreeOk rs) {to : Nat} (hto : to ≤ rs.length) (t : Rat) : TreeOk (rs ++ [(to, t)]) := by
 obtain ⟨rank, r0, hb, hr⟩ := hT
 have hl : (rs ++ [(to, t)]).length = rs.length + 1 := by simp
 refine ⟨fun v => if v = rs.length + 1 then rank to + 1 else rank v, ?_, fun v => ?_, fun k r e => ?_⟩
 ·dsimp only
  rw [if_neg (by omega)]
  exact r0
 ·rw [hl]
  have h1 := hb v
  have h2 := hb to
  dsimp only
  split <;> omega
 ·rw [hl]
  by_cases c : k < rs.length
  ·rw [List.getElem?_append_left c] at e
   obtain ⟨g1, g2⟩ := hr k r e
   dsimp only
   rw [if_neg (by omega), if_neg (by omega)]
   exact ⟨by omega, g2⟩
  ·have hk : k = rs.length := by have := (List.getElem?_eq_some_iff.mp e).1; rw [hl] at this; omega
   subst hk
   rw [List.getElem?_append_right (Nat.le_refl _), Nat.sub_self] at e
   cases e
   dsimp only
   rw [if_neg (by omega), if_pos rfl]
   exact ⟨by omega, by omega⟩
theorem treeok_setP {rs : List (Nat × Rat)} (hT : TreeOk rs) (j : Nat) (t : Rat) : TreeOk (setP rs j t) := by
 unfold setP
 cases h : rs[j]? with
 | none => exact hT
 | some r =>
  refine treeok_tos ?_ hT
  refine List.ext_getElem? fun i => ?_
  rw [List.getElem?_map, List.getElem?_map]
  by_cases c : j = i
  ·subst c
   rw [List.getElem?_set_self (List.getElem?_eq_some_iff.mp h).1, h]
   rfl
  ·rw [List.getElem?_set_ne c]
theorem treeok_cutP {rs : List (Nat × Rat)} (hT : TreeOk rs) {j : Nat} {r : Nat × Rat} (h : rs[j]? = some r) (t : Rat) : TreeOk (cutP rs j t) := by
 have hj := (List.getElem?_eq_some_iff.mp h).1
 refine treeok_tos ?_ (cut_tree (e := 0) hT h)
 rw [cutP_at h]
 refine List.ext_getElem? fun i => ?_
 rw [List.getElem?_map, List.getElem?_map, cut_at h]
 by_cases c : i = j
 ·subst c
  rw [if_pos rfl, List.getElem?_set_self (by simp; omega)]
  rfl
 ·rw [if_neg c, List.getElem?_set_ne (Ne.symm c)]
  by_cases c2 : i < rs.length
  ·rw [if_pos c2, List.getElem?_append_left c2]
  ·rw [if_neg c2, List.getElem?_append_right (by omega)]
   by_cases c3 : i = rs.length
   ·rw [if_pos c3, c3, Nat.sub_self]
    rfl
   ·rw [if_neg c3, List.getElem?_eq_none (by simp; omega)]
inductive Deed where
 | come (z : Str) (k : Nat)
 | go (z : Str)
 | move (z : Str) (k : Nat)
 | reprice (j : Nat) (t : Rat)
 | build (to : Nat) (t : Rat)
 | cut (j : Nat) (t : Rat)
def done : Deed → Now → Now
 | .come z k, n => (n.1, putK n.2 (Sum.inr z) (.int (k : Int)))
 | .go z, n => (n.1, dropK n.2 (Sum.inr z))
 | .move z k, n => (n.1, putK n.2 (Sum.inr z) (.int (k : Int)))
 | .reprice j t, n => (setP n.1 j t, n.2)
 | .build to t, n => (n.1 ++ [(to, t)], n.2)
 | .cut j t, n => (cutP n.1 j t, n.2)
def KeyOk (i : Nat) (kv : Key × V) : Prop := ∃ (j : Fin 23) (s : Fin 3) (h : Nat), (j : Nat) < i ∧ kv = (Sum.inr (nameZ ((j : Nat) : Int) (100 + ((s : Nat) : Int))), .int (h : Int)) ∧ h ≤ 100
def HV (i : Nat) (kvs : Kvs) : Prop := (kvs.map (·.1)).Nodup ∧ kvs.length ≤ 6 ∧ ∀ kv ∈ kvs, KeyOk i kv
def RdsOk (i : Nat) (rs : List (Nat × Rat)) : Prop := TreeOk rs ∧ rs.length ≤ i + 17 ∧ ∀ r ∈ rs, SzQ 98 r.2 ∧ 0 ≤ r.2.num
def NowOk (i : Nat) (n : Now) : Prop := RdsOk i n.1 ∧ HV i n.2
theorem KeyOk.up {i : Nat} {kv : Key × V} (h : KeyOk i kv) : KeyOk (i + 1) kv := let ⟨j, s, k, h1, h2⟩ := h; ⟨j, s, k, by omega, h2⟩
theorem HV.up {i : Nat} {kvs : Kvs} (h : HV i kvs) : HV (i + 1) kvs := ⟨h.1, h.2.1, fun kv hk => (h.2.2 kv hk).up⟩
theorem RdsOk.up {i : Nat} {rs : List (Nat × Rat)} (h : RdsOk i rs) : RdsOk (i + 1) rs := ⟨h.1, by have := h.2.1; omega, h.2.2⟩
theorem NowOk.up {i : Nat} {n : Now} (h : NowOk i n) : NowOk (i + 1) n := ⟨h.1.up, h.2.up⟩
def DeedOk (i : Nat) (n : Now) : Deed → Prop
 | .come z k => (∃ (j : Fin 23) (s : Fin 3), (j : Nat) = i ∧ z = nameZ ((j : Nat) : Int) (100 + ((s : Nat) : Int))) ∧ k ≤ n.1.length ∧ n.2.length < 6
 | .go z => (valV n.2 (Sum.inr z)).isSome = true
 | .move z k => (valV n.2 (Sum.inr z)).isSome = true ∧ k ≤ n.1.length
 | .reprice j t => j < n.1.length ∧ SzQ 98 t ∧ 0 ≤ t.num
 | .build to t => to ≤ n.1.length ∧ SzQ 98 t ∧ 0 ≤ t.num
 | .cut j t => ∃ r, n.1[j]? = some r ∧ SzQ 98 t ∧ 0 ≤ t.num ∧ ¬ r.2 < t ∧ SzQ 98 (r.2 - t) ∧ 0 ≤ (r.2 - t).num
theorem val_mem {kvs : Kvs} {k : Key} {v : V} (h : valV kvs k = some v) : (k, v) ∈ kvs := by
 unfold valV at h
 obtain ⟨kv, h1, rfl⟩ := Option.map_eq_some_iff.mp h
 have h2 := List.mem_of_find?_eq_some h1
 have h3 := List.find?_some h1
 have h4 : kv.1 = k := by simpa using h3
 rw [← h4]
 exact h2
theorem val_none {i : Nat} {kvs : Kvs} (h : HV i kvs) {j : Fin 23} (hj : (j : Nat) = i) (s : Fin 3) : valV kvs (Sum.inr (nameZ ((j : Nat) : Int) (100 + ((s : Nat) : Int)))) = none := by
 cases e : valV kvs (Sum.inr (nameZ ((j : Nat) : Int) (100 + ((s : Nat) : Int)))) with
 | none => rfl
 | some v =>
  obtain ⟨j', s', k, h1, h2, _⟩ := h.2.2 _ (val_mem e)
  injection h2 with h2
  injection h2 with h2
  exact absurd h2 (name_ne j j' s s' (fun z => by rw [z] at hj; omega))
theorem key_name {i : Nat} {kvs : Kvs} (h : HV i kvs) {z : Str} (hz : (valV kvs (Sum.inr z)).isSome = true) : (∃ (j : Fin 23) (s : Fin 3), (j : Nat) < i ∧ z = nameZ ((j : Nat) : Int) (100 + ((s : Nat) : Int))) ∧ NameOk z := by
 obtain ⟨v, hv⟩ := Option.isSome_iff_exists.mp hz
 obtain ⟨j, s, k, h1, h2, _⟩ := h.2.2 _ (val_mem hv)
 injection h2 with h2
 injection h2 with h2
 exact ⟨⟨j, s, h1, h2⟩, by rw [h2]; exact name_ok j s⟩
theorem nodup_put {kvs : List (Key × V)} (h : (kvs.map (·.1)).Nodup) (k : Key) (v : V) : ((putK kvs k v).map (·.1)).Nodup := by
 unfold putK
 split
 ·rw [List.map_map]
  have : ((fun kv : Key × V => kv.1) ∘ fun kv => if kv.1 = k then (kv.1, v) else kv) = fun kv => kv.1 := by
   funext kv
   show (if kv.1 = k then (kv.1, v) else kv).1 = kv.1
   split <;> rfl
  rw [this]
  exact h
 ·rename_i c
  rw [List.map_append]
  refine List.nodup_append.mpr ⟨h, by simp, fun x hx y hy => ?_⟩
  simp only [List.map_cons, List.map_nil, List.mem_singleton] at hy
  subst hy
  intro e
  subst e
  obtain ⟨kv, h1, h2⟩ := List.mem_map.mp hx
  exact c (List.any_eq_true.mpr ⟨kv, h1, by simpa using h2⟩)
theorem put_mem {kvs : Kvs} {k : Key} {v : V} {kv : Key × V} (h : kv ∈ putK kvs k v) : kv ∈ kvs ∨ kv = (k, v) := by
 unfold putK at h
 split at h
 ·obtain ⟨kv', h1, rfl⟩ := List.mem_map.mp h
  split
  ·rename_i c
   exact .inr (by rw [c])
  ·exact .inl h1
 ·rcases List.mem_append.mp h with h | h
  ·exact .inl h
  ·exact .inr (List.mem_singleton.mp h)
theorem put_len {kvs : Kvs} {k : Key} {v : V} (h : (valV kvs k).isSome = true) : (putK kvs k v).length = kvs.length := by
 unfold putK
 rw [if_pos (by rw [valV_any]; exact h)]
 simp
theorem done_ok {i : Nat} {n : Now} {d : Deed} (hi : i < 23) (h : NowOk i n) (hd : DeedOk i n d) : NowOk (i + 1) (done d n) := by
 obtain ⟨hR, hH⟩ := h
 obtain ⟨hT, hl, hz⟩ := hR
 have hup : RdsOk (i + 1) n.1 := RdsOk.up ⟨hT, hl, hz⟩
 cases d with
 | come z k =>
  obtain ⟨⟨j, s, hj, rfl⟩, hk, hlen⟩ := hd
  refine ⟨hup, nodup_put hH.1 _ _, Nat.le_trans (length_putK _ _ _) (by omega), fun kv hkv => ?_⟩
  rcases put_mem hkv with h1 | rfl
  ·exact (hH.2.2 kv h1).up
  ·exact ⟨j, s, k, by omega, rfl, by omega⟩
 | go z =>
  refine ⟨hup, ?_, Nat.le_trans (dropK_le _ _) hH.2.1, fun kv hkv => (hH.2.2 kv (List.mem_filter.mp hkv).1).up⟩
  exact (List.Sublist.map _ List.filter_sublist).nodup hH.1
 | move z k =>
  obtain ⟨hv, hk⟩ := hd
  obtain ⟨⟨j, s, hj, rfl⟩, _⟩ := key_name hH hv
  refine ⟨hup, nodup_put hH.1 _ _, (by have e := put_len (v := V.int (k : Int)) hv; exact Nat.le_trans (Nat.le_of_eq e) hH.2.1), fun kv hkv => ?_⟩
  rcases put_mem hkv with h1 | rfl
  ·exact (hH.2.2 kv h1).up
  ·exact ⟨j, s, k, by omega, rfl, by omega⟩
 | reprice j t =>
  obtain ⟨hj, h1, h2⟩ := hd
  have e := List.getElem?_eq_getElem hj
  refine ⟨⟨treeok_setP hT j t, ?_, ?_⟩, hH.up⟩
  ·show (setP n.1 j t).length ≤ _
   rw [setP_at e, List.length_set]
   omega
  ·show ∀ r ∈ setP n.1 j t, _
   rw [setP_at e]
   intro r hr
   rcases List.mem_or_eq_of_mem_set hr with h | rfl
   ·exact hz r h
   ·exact ⟨h1, h2⟩
 | build to t =>
  obtain ⟨hj, h1, h2⟩ := hd
  refine ⟨⟨treeok_snoc hT hj t, by show (n.1 ++ [(to, t)]).length ≤ _; simp; omega, fun r hr => ?_⟩, hH.up⟩
  rcases List.mem_append.mp hr with h | h
  ·exact hz r h
  ·rw [List.mem_singleton.mp h]; exact ⟨h1, h2⟩
 | cut j t =>
  obtain ⟨r, e, h1, h2, h3, h4, h5⟩ := hd
  refine ⟨⟨treeok_cutP hT e t, ?_, ?_⟩, hH.up⟩
  ·show (cutP n.1 j t).length ≤ _
   rw [cutP_at e, List.length_set]
   simp
   omega
  ·show ∀ r ∈ cutP n.1 j t, _
   rw [cutP_at e]
   intro u hu
   rcases List.mem_or_eq_of_mem_set hu with h | rfl
   ·rcases List.mem_append.mp h with h | h
    ·exact hz u h
    ·rw [List.mem_singleton.mp h]; exact ⟨h1, h2⟩
   ·exact ⟨h4, h5⟩
def HG (kvs : Kvs) : Prop := (kvs.map (·.1)).Nodup ∧ kvs.length ≤ 12 ∧ ∀ kv ∈ kvs, ∃ (z : Str) (h : Nat), kv = (Sum.inr z, .int (h : Int)) ∧ NameOk z
def NowG (n : Now) : Prop := (TreeOk n.1 ∧ n.1.length ≤ 40 ∧ ∀ r ∈ n.1, SzQ 98 r.2 ∧ 0 ≤ r.2.num) ∧ HG n.2
def DeedG (n : Now) : Deed → Prop
 | .come z k => NameOk z ∧ ¬ hasK n.2 z ∧ k ≤ n.1.length ∧ n.2.length < 12
 | .go z => (valV n.2 (Sum.inr z)).isSome = true
 | .move z k => (valV n.2 (Sum.inr z)).isSome = true ∧ k ≤ n.1.length
 | .reprice j t => j < n.1.length ∧ SzQ 98 t ∧ 0 ≤ t.num
 | .build to t => to ≤ n.1.length ∧ SzQ 98 t ∧ 0 ≤ t.num ∧ n.1.length < 40
 | .cut j t => ∃ r, n.1[j]? = some r ∧ SzQ 98 t ∧ 0 ≤ t.num ∧ ¬ r.2 < t ∧ SzQ 98 (r.2 - t) ∧ 0 ≤ (r.2 - t).num ∧ n.1.length < 40
theorem HG.name {kvs : Kvs} (h : HG kvs) {z : Str} (hz : (valV kvs (Sum.inr z)).isSome = true) : NameOk z := by
 obtain ⟨v, ev⟩ := Option.isSome_iff_exists.mp hz
 obtain ⟨z', h', e, hn⟩ := h.2.2 _ (val_mem ev)
 cases e
 exact hn
theorem HV.g {i : Nat} {kvs : Kvs} (h : HV i kvs) : HG kvs := ⟨h.1, by have := h.2.1; omega, fun kv hk => by
 obtain ⟨j, s, k, _, rfl, _⟩ := h.2.2 kv hk
 exact ⟨_, k, rfl, name_ok j s⟩⟩
theorem NowOk.g {i : Nat} {n : Now} (h : NowOk i n) (hi : i ≤ 23) : NowG n := ⟨⟨h.1.1, by have := h.1.2.1; omega, h.1.2.2⟩, h.2.g⟩
theorem DeedOk.g {i : Nat} {n : Now} {d : Deed} (h : DeedOk i n d) (hN : NowOk i n) (hi : i < 23) : DeedG n d := by
 have hl := hN.1.2.1
 cases d with
 | come z k =>
  obtain ⟨⟨j, s, hj, rfl⟩, hk, hlen⟩ := h
  refine ⟨name_ok j s, fun y => ?_, hk, by omega⟩
  unfold hasK at y
  rw [val_none hN.2 hj s] at y
  cases y
 | go z => exact h
 | move z k => exact h
 | reprice j t => exact h
 | build to t => exact ⟨h.1, h.2.1, h.2.2, by omega⟩
 | cut j t =>
  obtain ⟨r, e, h1, h2, h3, h4, h5⟩ := h
  exact ⟨r, e, h1, h2, h3, h4, h5, by omega⟩
theorem done_g {n : Now} {d : Deed} (h : NowG n) (hd : DeedG n d) : NowG (done d n) := by
 obtain ⟨⟨hT, hl, hz⟩, hH⟩ := h
 cases d with
 | come z k =>
  obtain ⟨hz', hk, hk2, hlen⟩ := hd
  refine ⟨⟨hT, hl, hz⟩, nodup_put hH.1 _ _, Nat.le_trans (length_putK _ _ _) (by omega), fun kv hkv => ?_⟩
  rcases put_mem hkv with h1 | rfl
  ·exact hH.2.2 kv h1
  ·exact ⟨z, k, rfl, hz'⟩
 | go z =>
  refine ⟨⟨hT, hl, hz⟩, ?_, Nat.le_trans (dropK_le _ _) hH.2.1, fun kv hkv => hH.2.2 kv (List.mem_filter.mp hkv).1⟩
  exact (List.Sublist.map _ List.filter_sublist).nodup hH.1
 | move z k =>
  obtain ⟨hv, hk⟩ := hd
  have hz' := hH.name hv
  refine ⟨⟨hT, hl, hz⟩, nodup_put hH.1 _ _, (by have e := put_len (v := V.int (k : Int)) hv; exact Nat.le_trans (Nat.le_of_eq e) hH.2.1), fun kv hkv => ?_⟩
  rcases put_mem hkv with h1 | rfl
  ·exact hH.2.2 kv h1
  ·exact ⟨z, k, rfl, hz'⟩
 | reprice j t =>
  obtain ⟨hj, h1, h2⟩ := hd
  have e := List.getElem?_eq_getElem hj
  refine ⟨⟨treeok_setP hT j t, ?_, ?_⟩, hH⟩
  ·show (setP n.1 j t).length ≤ _
   rw [setP_at e, List.length_set]
   omega
  ·show ∀ r ∈ setP n.1 j t, _
   rw [setP_at e]
   intro r hr
   rcases List.mem_or_eq_of_mem_set hr with h | rfl
   ·exact hz r h
   ·exact ⟨h1, h2⟩
 | build to t =>
  obtain ⟨hj, h1, h2, h3⟩ := hd
  refine ⟨⟨treeok_snoc hT hj t, by show (n.1 ++ [(to, t)]).length ≤ _; simp; omega, fun r hr => ?_⟩, hH⟩
  rcases List.mem_append.mp hr with h | h
  ·exact hz r h
  ·rw [List.mem_singleton.mp h]; exact ⟨h1, h2⟩
 | cut j t =>
  obtain ⟨r, e, h1, h2, h3, h4, h5, h6⟩ := hd
  refine ⟨⟨treeok_cutP hT e t, ?_, ?_⟩, hH⟩
  ·show (cutP n.1 j t).length ≤ _
   rw [cutP_at e, List.length_set]
   simp
   omega
  ·show ∀ r ∈ cutP n.1 j t, _
   rw [cutP_at e]
   intro u hu
   rcases List.mem_or_eq_of_mem_set hu with h | rfl
   ·rcases List.mem_append.mp h with h | h
    ·exact hz u h
    ·rw [List.mem_singleton.mp h]; exact ⟨h1, h2⟩
   ·exact ⟨h4, h5⟩
def DeedV (H : Hp) (x : V) : Deed → Prop
 | .come z k => ∃ p, x = .ref p ∧ H p = some (.tup [.str "come", .str z, .int (k : Int)])
 | .go z => ∃ p, x = .ref p ∧ H p = some (.tup [.str "go", .str z])
 | .move z k => ∃ p, x = .ref p ∧ H p = some (.tup [.str "move", .str z, .int (k : Int)])
 | .reprice j t => ∃ p y, x = .ref p ∧ H p = some (.tup [.str "reprice", .int ((j : Int) + 1), y]) ∧ RatV H y t
 | .build to t => ∃ p y, x = .ref p ∧ H p = some (.tup [.str "build", .int (to : Int), y]) ∧ RatV H y t
 | .cut j t => ∃ p y, x = .ref p ∧ H p = some (.tup [.str "cut", .int ((j : Int) + 1), y]) ∧ RatV H y t
theorem DeedV.keep {H H' : Hp} {x : V} {d : Deed} (h : DeedV H x d) (s : ∀ b ys, H b = some (.tup ys) → H' b = some (.tup ys)) : DeedV H' x d := by
 cases d with
 | come z k => obtain ⟨p, e, h1⟩ := h; exact ⟨p, e, s _ _ h1⟩
 | go z => obtain ⟨p, e, h1⟩ := h; exact ⟨p, e, s _ _ h1⟩
 | move z k => obtain ⟨p, e, h1⟩ := h; exact ⟨p, e, s _ _ h1⟩
 | reprice j t => obtain ⟨p, y, e, h1, h2⟩ := h; exact ⟨p, y, e, s _ _ h1, h2.keep s⟩
 | build to t => obtain ⟨p, y, e, h1, h2⟩ := h; exact ⟨p, y, e, s _ _ h1, h2.keep s⟩
 | cut j t => obtain ⟨p, y, e, h1, h2⟩ := h; exact ⟨p, y, e, s _ _ h1, h2.keep s⟩
theorem next_go {D : Ends} {σ : St} {H : Hp} (h : D.nx σ H) : tNext D σ H := h
theorem eqd_nilV {H : Hp} {a b : Addr} {xs : List V} (ha : H a = some (.lst xs)) (hb : H b = some (.lst [])) : EqD H (.ref a) (.ref b) (decide (xs.length = 0)) 1 := by
 cases xs with
 | nil => exact EqD.lst (e := fun _ => true) (n := 0) ha hb rfl fun j x y h1 h2 => by simp at h1
 | cons z ss => exact EqD.lstNe (n := 0) ha hb (by simp)
theorem keys_strs {i : Nat} {kvs : Kvs} (h : HV i kvs) : ∃ ss : List Str, (kvs.map fun kv => kV kv.1) = ss.map V.str ∧ ss.length = kvs.length ∧ ∀ z ∈ ss, (valV kvs (Sum.inr z)).isSome = true := by
 refine ⟨kvs.map fun kv => (match kv.1 with | Sum.inr z => z | Sum.inl _ => Str.empty), ?_, by simp, fun z hz => ?_⟩
 ·rw [List.map_map]
  refine List.map_congr_left fun kv hkv => ?_
  obtain ⟨j, s, k, _, rfl, _⟩ := h.2.2 kv hkv
  rfl
 ·obtain ⟨kv, hkv, rfl⟩ := List.mem_map.mp hz
  obtain ⟨j, s, k, _, rfl, _⟩ := h.2.2 kv hkv
  rw [← valV_any]
  exact List.any_eq_true.mpr ⟨_, hkv, by simp⟩
theorem rsub0 (q : Rat) : q - 0 = q := by
 first
  | (rw [Rat.sub_eq_add_neg, Rat.neg_zero, Rat.add_zero])
  | simp
  | (rw [Rat.sub_eq_add_neg]; simp)
theorem cut_rest {q : Rat} {e : Int} : q - Rat.divInt (q.num * e) ((q.den : Int) * 4) = Rat.divInt (q.num * (4 - e)) ((q.den : Int) * 4) := by
 have hd := rat_den_ne q
 have h4 : (q.den : Int) * 4 ≠ 0 := by omega
 have h1 : q = Rat.divInt q.num q.den := (Rat.num_divInt_den q).symm
 have h2 : q - Rat.divInt (q.num * e) ((q.den : Int) * 4) = Rat.divInt q.num q.den - Rat.divInt (q.num * e) ((q.den : Int) * 4) := by rw [Rat.num_divInt_den]
 rw [h2, Rat.divInt_sub_divInt _ _ hd h4]
 have e1 : q.num * ((q.den : Int) * 4) - q.num * e * (q.den : Int) = (q.den : Int) * (q.num * (4 - e)) := by
  rw [Int.mul_sub, Int.mul_sub]
  congr 1
  ·rw [Int.mul_left_comm]
  ·rw [Int.mul_comm]
 rw [e1, Rat.divInt_mul_left hd]
theorem not_less {a b : Rat} (h : 0 ≤ (a - b).num) : ¬ a < b := by
 have h1 : 0 ≤ a - b := Rat.num_nonneg.mp h
 have h2 : b ≤ a := (Rat.le_iff_sub_nonneg b a).mpr h1
 exact Rat.not_lt.mpr h2
theorem cut_few {q : Rat} {e : Int} (hn : 0 ≤ q.num) (h1 : q.num ≤ 1000000000000000000) (h2 : (q.den : Int) ≤ 1000000000000000000) (e0 : 0 ≤ e) (e4 : e ≤ 4) : SzQ 98 (Rat.divInt (q.num * e) ((q.den : Int) * 4)) ∧ 0 ≤ (Rat.divInt (q.num * e) ((q.den : Int) * 4)).num := by
 have hd := q.den_pos
 have hm : 0 ≤ q.num * e := Int.mul_nonneg hn e0
 have hm2 : q.num * e ≤ 1000000000000000000 * 4 := Int.mul_le_mul h1 e4 e0 (by decide)
 exact ⟨SzQ.of (by omega) (by omega) (by omega), num_nonneg hm (by omega)⟩
section
variable {P : Program} {w : World} {K : PySem.W.Frag} {mg : Str → Option Value} {base : Heap} {f : Addr} {fd : FuncData} {CT CNP CS : Addr}
def sp_deedBy : Sp := fun vs H Q _ => ∃ (pv p d : Addr) (xs : List Int) (rx : List V) (n : Now) (i : Nat), vs = [.ref pv, .ref p, .ref d, .int (i : Int)] ∧ H pv = some (.lst (xs.map V.int)) ∧ xs.length = 5 ∧ (∀ x ∈ xs, 0 ≤ x ∧ x < 99989) ∧ H p = some (.lst rx) ∧ RoadsV H rx n.1 ∧ H d = some (.dK n.2) ∧ NowOk i n ∧ i < 23 ∧
 ∀ x dd H', Same H H' → DeedV H' x dd → DeedOk i n dd → Q x H'
theorem ok_deedBy (F : Fun K "_law_deed_by" "_law_deed_by" s_law_deed_by f fd) (n_sorted : mg "sorted" = none) (n_len : mg "len" = none) (n_max : mg "max" = none) (F_law_low : Fn P w K mg base CX0 2 "_law_low" ["_law_top", "_law_bottom"] sp_lowQ) (F_law_name : Fn P w K mg base CX0 1 "_law_name" ["_law_k", "_law_seed"] sp_nameX) : FnOk P w K mg base CX0 3 f fd ["_law_v", "_law_roads", "_law_homes", "_law_k"] sp_deedBy := by
 refine okQ F sc_law_deed_by (fun vs H Q E h => ?_) (fun cdv A outer s H vs Q E hr h => ?_)
 ·obtain ⟨pv, p, d, xs, rx, n, i, rfl, _⟩ := h; rfl
 obtain ⟨pv, p, d, xs, rx, n, i, rfl, hpv, hxl, hxb, hp, hR, hd, hN, hi, q⟩ := h
 have at_ : ∀ {j : Nat} (h : j < xs.length), atI (xs.map V.int) (j : Int) = some (.int xs[j]) := fun {j} h => atI_nat (by rw [List.getElem?_map, List.getElem?_eq_getElem h]; rfl)
 have b0 := hxb xs[0] (List.getElem_mem (by omega))
 have b1 := hxb xs[1] (List.getElem_mem (by omega))
 have b2 := hxb xs[2] (List.getElem_mem (by omega))
 have b3 := hxb xs[3] (List.getElem_mem (by omega))
 have a0 := at_ (j := 0) (by omega)
 have a1 := at_ (j := 1) (by omega)
 have a2 := at_ (j := 2) (by omega)
 have a3 := at_ (j := 3) (by omega)
 refine ⟨_, (b_cons (s_set 4 sc_law_deed_by.nd (q_sortD rfl n_sorted (a_c (q_v 2) a_nil)))
   (b_cons (s_set 5 sc_law_deed_by.nd (q_mod (q_ixL (q_v 0) q_int) q_int))
   (b_cons (s_set 6 sc_law_deed_by.nd (q_fn F_law_low hr (by decide) rfl (a_c (q_mod (q_ixL (q_v 0) q_int) q_int) (a_c (q_add q_int (q_mod (q_fdiv (q_ixL (q_v 0) q_int) q_int) q_int)) a_nil))))
   (b_cons (s_if (t_w (w_or (t_w (w_and (t_lt (q_v 5) q_int) (w_and1 (t_lt (q_lenD rfl n_len (a_c (q_v 2) a_nil)) q_int)))) (w_or1 (t_w (w_and (t_lt (q_v 5) q_int) (w_and (t_eqD hr (q_v 4) (q_lst a_nil)) (w_and1 (t_ne (q_v 5) q_int)))))))) (b_one (s_ret (q_tup (a_c q_str (a_c (q_fn F_law_name hr (by decide) rfl (a_c (q_mod (q_v 3) q_int) (a_c (q_add q_int (q_mod (q_ixL (q_v 0) q_int) q_int)) a_nil))) (a_c (q_mod (q_ixL (q_v 0) q_int) (q_add (q_len rfl n_len (a_c (q_v 1) a_nil)) q_int)) a_nil)))))) b_nil)
   (b_cons (s_if (t_w (w_or (t_eq (q_v 5) q_int) (w_or1 (t_w (w_and (t_eqD hr (q_v 1) (q_lst a_nil)) (w_and1 (t_gt (q_v 5) q_int))))))) (b_one (s_ret (q_tup (a_c q_str (a_c (q_mod (q_ixL (q_v 0) q_int) (q_add (q_len rfl n_len (a_c (q_v 1) a_nil)) q_int)) (a_c (q_v 6) a_nil)))))) b_nil)
   (b_cons (s_if (t_w (w_and (t_eq (q_v 5) q_int) (w_and1 (t_neD hr (q_v 4) (q_lst a_nil))))) (b_one (s_ret (q_tup (a_c q_str (a_c (q_ixL (q_v 4) (q_mod (q_ixL (q_v 0) q_int) (q_len rfl n_len (a_c (q_v 4) a_nil)))) a_nil))))) b_nil)
   (b_cons (s_if (t_w (w_and (t_eq (q_v 5) q_int) (w_and1 (t_neD hr (q_v 4) (q_lst a_nil))))) (b_one (s_ret (q_tup (a_c q_str (a_c (q_ixL (q_v 4) (q_mod (q_ixL (q_v 0) q_int) (q_len rfl n_len (a_c (q_v 4) a_nil)))) (a_c (q_mod (q_ixL (q_v 0) q_int) (q_add (q_len rfl n_len (a_c (q_v 1) a_nil)) q_int)) a_nil)))))) b_nil)
   (b_cons (s_if (t_w (w_and (t_eq (q_v 5) q_int) (w_and1 (t_neD hr (q_v 1) (q_lst a_nil))))) (b_one (s_ret (q_tup (a_c q_str (a_c (q_add q_int (q_mod (q_ixL (q_v 0) q_int) (q_len rfl n_len (a_c (q_v 1) a_nil)))) (a_c (q_v 6) a_nil)))))) b_nil)
   (b_cons (s_if (t_w (w_and (t_eq (q_v 5) q_int) (w_and1 (t_neD hr (q_v 1) (q_lst a_nil))))) (b_cons (s_set 7 sc_law_deed_by.nd (q_mod (q_ixL (q_v 0) q_int) (q_len rfl n_len (a_c (q_v 1) a_nil))))
   (b_cons (s_set 8 sc_law_deed_by.nd (q_ixT (q_ixL (q_v 1) (q_v 7)) q_int))
   (b_cons (s_if (t_gt (q_max rfl n_max (a_c (q_ixT (q_v 8) q_int) (a_c (q_ixT (q_v 8) q_int) a_nil))) (q_pow q_int q_int)) (b_one (s_ret (q_tup (a_c q_str (a_c (q_add (q_v 7) q_int) (a_c (q_ixL (q_lst (a_c (q_tup (a_c q_int (a_c q_int a_nil))) (a_c (q_v 8) a_nil))) (q_mod (q_ixL (q_v 0) q_int) q_int)) a_nil)))))) b_nil)
   (b_one (s_ret (q_tup (a_c q_str (a_c (q_add (q_v 7) q_int) (a_c (q_fn F_law_low hr (by decide) rfl (a_c (q_mul (q_ixT (q_v 8) q_int) (q_mod (q_ixL (q_v 0) q_int) q_int)) (a_c (q_mul (q_ixT (q_v 8) q_int) q_int) a_nil))) a_nil))))))))) b_nil)
   (b_one (s_ret (q_tup (a_c q_str (a_c q_int (a_c (q_v 6) a_nil))))))))))))))), ?_⟩
 rw [show start ["_law_v", "_law_roads", "_law_homes", "_law_k", "_law_names", "_law_way", "_law_price", "_law_at", "_law_whole_here"] [.ref pv, .ref p, .ref d, .int (i : Int)] = [some (.ref pv), some (.ref p), some (.ref d), some (.int (i : Int)), none, none, none, none, none] from rfl]
 obtain ⟨⟨hT, hlr, hz⟩, hH⟩ := hN
 obtain ⟨ss, ess, hsl, hkey⟩ := keys_strs hH
 have hk6 := hH.2.1
 refine seq_go fun B hB => ?_
 walk_at "rd"
 refine ⟨n.2, .inl hd, ss, ess, by omega, fun l H1 ts hl s1 e1 _ hperm => ?_⟩
 have htl : ts.length = n.2.length := by rw [hperm.length_eq, hsl]
 subst hB
 try dsimp only
 refine seq_go fun B hB => ?_
 walk_at "rd"
 refine ⟨_, s1 _ _ hpv, _, a0, xs[0], rfl, ?_⟩
 have w0 := Int.emod_nonneg xs[0] (b := 8) (by decide)
 have w1 := Int.emod_lt_of_pos xs[0] (b := 8) (by decide)
 generalize xs[0] % 8 = wy at w0 w1 ⊢
 subst hB
 try dsimp only
 refine seq_go fun B hB => ?_
 walk_at "rd"
 refine ⟨_, s1 _ _ hpv, _, a2, xs[2], rfl, _, s1 _ _ hpv, _, a2, xs[2], rfl, ?_⟩
 refine ⟨_, _, rfl, Big.of (n := 10) (by omega) (by decide), by omega, fun pr H2 s2 hpr => ?_⟩
 have zpr : SzQ 98 (Rat.divInt (xs[2] % 13) (1 + xs[2] / 13 % 6)) := (SzQ.of (n := 10) (by omega) (by omega) (by omega)).mono (by decide)
 have npr : 0 ≤ (Rat.divInt (xs[2] % 13) (1 + xs[2] / 13 % 6)).num := num_nonneg (by omega) (by omega)
 generalize Rat.divInt (xs[2] % 13) (1 + xs[2] / 13 % 6) = tp at zpr npr hpr
 have s12 := s1.trans s2
 subst hB
 try dsimp only
 have e26 : (i : Int) % 26 = (i : Int) := by omega
 obtain ⟨sN, esN⟩ : ∃ sN : _root_.Fin 3, xs[3] % 3 = ((sN : Nat) : Int) := ⟨⟨(xs[3] % 3).toNat, by omega⟩, by show _ = (((xs[3] % 3).toNat : Nat) : Int); omega⟩
 have hrl := hR.1
 obtain ⟨kN, ekN, hkN⟩ : ∃ kN : Nat, xs[1] % ((rx.length : Int) + 1) = (kN : Int) ∧ kN ≤ n.1.length := by
  have m0 := Int.emod_nonneg xs[1] (b := (rx.length : Int) + 1) (by omega)
  have m1 := Int.emod_lt_of_pos xs[1] (b := (rx.length : Int) + 1) (by omega)
  exact ⟨(xs[1] % ((rx.length : Int) + 1)).toNat, by omega, by omega⟩
 refine seq_go fun B hB => ?_
 refine if_go fun A1 hA1 C1 hC1 => ?_
 have kA : ∀ H3, Same H2 H3 → n.2.length < 6 → A1 [some (V.ref pv), some (V.ref p), some (V.ref d), some (V.int (i : Int)), some (V.ref l), some (V.int wy), some pr, none, none] H3 := by
  intro H3 s3 h6
  have s13 := s12.trans s3
  subst hA1
  try dsimp only
  walk_at "rd"
  refine ⟨_, s13 _ _ hpv, _, a3, xs[3], rfl, _, _, rfl, by omega, by omega, by omega, by omega, _, s13 _ _ hpv, _, a1, _, .inl (s13 _ _ hp), xs[1], rfl, by omega, fun t H4 ht s4 e4 => ?_⟩
  rw [e26, esN, ekN] at e4
  exact q (.ref t) (.come _ kN) H4 (s13.trans s4) ⟨t, rfl, e4⟩ ⟨⟨⟨i, hi⟩, sN, rfl, rfl⟩, hkN, h6⟩
 have kC : ∀ H3, Same H2 H3 → ¬ (wy < 6 ∧ n.2.length = 0 ∧ wy ≠ 3) → ¬ (wy < 3 ∧ n.2.length < 6) → C1 [some (V.ref pv), some (V.ref p), some (V.ref d), some (V.int (i : Int)), some (V.ref l), some (V.int wy), some pr, none, none] H3 := by
  intro H3 s3 g1 g2
  subst hC1
  refine next_go ?_
  subst hB
  try dsimp only
  refine seq_go fun B hB => ?_
  refine if_go fun A2 hA2 C2 hC2 => ?_
  have kA2 : ∀ H4, Same H2 H4 → A2 [some (V.ref pv), some (V.ref p), some (V.ref d), some (V.int (i : Int)), some (V.ref l), some (V.int wy), some pr, none, none] H4 := by
   intro H4 s4
   have s14 := s12.trans s4
   subst hA2
   try dsimp only
   walk_at "rd"
   refine ⟨_, s14 _ _ hpv, _, a1, _, .inl (s14 _ _ hp), xs[1], rfl, by omega, fun t H5 ht s5 e5 => ?_⟩
   rw [ekN] at e5
   exact q (.ref t) (.build kN tp) H5 (s14.trans s5) ⟨t, pr, rfl, e5, (hpr.same s4).same s5⟩ ⟨hkN, zpr, npr⟩
  have kC2 : ∀ H4, Same H2 H4 → ¬ wy = 3 → ¬ (n.1.length = 0 ∧ 5 < wy) → C2 [some (V.ref pv), some (V.ref p), some (V.ref d), some (V.int (i : Int)), some (V.ref l), some (V.int wy), some pr, none, none] H4 := by
   intro H4 s4 g3 g4
   subst hC2
   refine next_go ?_
   subst hB
   try dsimp only
   refine seq_go fun B hB => ?_
   refine if_go fun A3 hA3 C3 hC3 => ?_
   have s14 := s12.trans s4
   have kC3 : ∀ H5, Same H2 H5 → ¬ (wy = 4 ∧ n.2.length ≠ 0) → C3 [some (V.ref pv), some (V.ref p), some (V.ref d), some (V.int (i : Int)), some (V.ref l), some (V.int wy), some pr, none, none] H5 := by
    intro H5 s5 g5
    subst hC3
    refine next_go ?_
    subst hB
    try dsimp only
    refine seq_go fun B hB => ?_
    refine if_go fun A4 hA4 C4 hC4 => ?_
    have kC4 : ∀ H6, Same H2 H6 → ¬ (wy = 5 ∧ n.2.length ≠ 0) → C4 [some (V.ref pv), some (V.ref p), some (V.ref d), some (V.int (i : Int)), some (V.ref l), some (V.int wy), some pr, none, none] H6 := by
     intro H6 s6 g6
     subst hC4
     refine next_go ?_
     subst hB
     try dsimp only
     refine seq_go fun B hB => ?_
     refine if_go fun A5 hA5 C5 hC5 => ?_
     have kC5 : ∀ H7, Same H2 H7 → ¬ (wy = 6 ∧ n.1.length ≠ 0) → C5 [some (V.ref pv), some (V.ref p), some (V.ref d), some (V.int (i : Int)), some (V.ref l), some (V.int wy), some pr, none, none] H7 := by
      intro H7 s7 g7
      subst hC5
      refine next_go ?_
      subst hB
      try dsimp only
      refine seq_go fun B hB => ?_
      refine if_go fun A6 hA6 C6 hC6 => ?_
      have kC6 : ∀ H8, Same H2 H8 → C6 [some (V.ref pv), some (V.ref p), some (V.ref d), some (V.int (i : Int)), some (V.ref l), some (V.int wy), some pr, none, none] H8 := by
       intro H8 s8
       subst hC6
       refine next_go ?_
       subst hB
       try dsimp only
       walk_at "rd"
       intro t H9 ht s9 e9
       exact q (.ref t) (.build 0 tp) H9 (s12.trans (s8.trans s9)) ⟨t, pr, rfl, e9, (hpr.same s8).same s9⟩ ⟨Nat.zero_le _, zpr, npr⟩
      have kA6 : ∀ H8, Same H2 H8 → n.1.length ≠ 0 → A6 [some (V.ref pv), some (V.ref p), some (V.ref d), some (V.int (i : Int)), some (V.ref l), some (V.int wy), some pr, none, none] H8 := by
       intro H8 s8 g8
       have s18 := s12.trans s8
       subst hA6
       try dsimp only
       refine seq_go fun B2 hB2 => ?_
       walk_at "rd"
       obtain ⟨jN, ejN, hjN⟩ : ∃ jN : Nat, xs[1] % (rx.length : Int) = (jN : Int) ∧ jN < n.1.length := by
        have m0 := Int.emod_nonneg xs[1] (b := (rx.length : Int)) (by omega)
        have m1 := Int.emod_lt_of_pos xs[1] (b := (rx.length : Int)) (by omega)
        exact ⟨(xs[1] % (rx.length : Int)).toNat, by omega, by omega⟩
       refine ⟨_, s18 _ _ hpv, _, a1, _, .inl (s18 _ _ hp), xs[1], rfl, by omega, ?_⟩
       rw [ejN]
       have hrj := List.getElem?_eq_getElem hjN
       have hxj : jN < rx.length := by omega
       obtain ⟨rp, ry, erx, hrp, hry⟩ := (hR.2 jN _ _ (List.getElem?_eq_getElem hxj) hrj).same s18
       obtain ⟨zr, nr⟩ := hz _ (List.getElem_mem hjN)
       generalize n.1[jN] = rr at hrj hrp hry zr nr
       obtain ⟨yp, rfl, hyp⟩ := hry
       subst hB2
       try dsimp only
       refine seq_go fun B2 hB2 => ?_
       walk_at "rd"
       refine ⟨_, s18 _ _ hp, _, atI_nat (List.getElem?_eq_getElem hxj), rp, erx, _, hrp, _, rfl, ?_⟩
       subst hB2
       try dsimp only
       refine seq_go fun B2 hB2 => ?_
       refine if_go fun A7 hA7 C7 hC7 => ?_
       walk_at "rd"
       refine ⟨_, hyp, _, rfl, _, hyp, _, rfl, _, rfl, _, rfl, ?_⟩
       refine ite2 (fun c => ?_) (fun c => ?_)
       ·subst hA7
        try dsimp only
        walk_at "rd"
        intro z0 H9 hz0 s9 e9 z1 H10 hz1 s10 e10
        have s910 := s9.trans s10
        have s1a := s18.trans s910
        have hyr : RatV H10 (.ref yp) rr.2 := ⟨yp, rfl, s910 _ _ hyp⟩
        have hy0 : RatV H10 (.ref z0) (0 : Rat) := ⟨z0, rfl, s10 _ _ e9⟩
        have z00 : SzQ 98 (0 : Rat) := ⟨by decide, by decide⟩
        refine ⟨_, s1a _ _ hpv, _, a2, xs[2], rfl, _, e10, ?_⟩
        by_cases c2 : xs[2] % 2 = 0
        ·rw [c2]
         refine ⟨.ref z0, rfl, fun t H11 ht s11 e11 => q (.ref t) (.cut jN 0) H11 (s1a.trans s11) ⟨t, _, rfl, e11, hy0.same s11⟩ ⟨rr, hrj, z00, by decide, ?_, ?_, ?_⟩⟩
         ·exact not_less (by rw [rsub0]; exact nr)
         ·rw [rsub0]; exact zr
         ·rw [rsub0]; exact nr
        ·have c3 : xs[2] % 2 = 1 := by omega
         rw [c3]
         refine ⟨.ref yp, rfl, fun t H11 ht s11 e11 => q (.ref t) (.cut jN rr.2) H11 (s1a.trans s11) ⟨t, _, rfl, e11, hyr.same s11⟩ ⟨rr, hrj, zr, nr, ?_, ?_, ?_⟩⟩
         ·exact not_less (by rw [Rat.sub_self]; decide)
         ·rw [Rat.sub_self]; exact z00
         ·rw [Rat.sub_self]; decide
       ·subst hC7
        refine next_go ?_
        subst hB2
        try dsimp only
        walk_at "rd"
        have m0 := Int.emod_nonneg xs[2] (b := 5) (by decide)
        have m1 := Int.emod_lt_of_pos xs[2] (b := 5) (by decide)
        have hdp := rr.2.den_pos
        have cm : rr.2.num ≤ 1000000000000000000 ∧ (rr.2.den : Int) ≤ 1000000000000000000 := by
         split at c <;> omega
        refine ⟨_, hyp, _, rfl, _, s18 _ _ hpv, _, a2, xs[2], rfl, _, rfl, .inr ⟨by omega, by omega⟩, _, hyp, _, rfl, _, rfl, ?_⟩
        refine ⟨_, _, rfl, Big.of (n := 98) (by omega) (by decide), by omega, fun y9 H9 s9 hy9 t H10 ht s10 e10 => ?_⟩
        have f1 := cut_few nr cm.1 cm.2 m0 (by omega)
        have f2 := cut_few (e := 4 - xs[2] % 5) nr cm.1 cm.2 (by omega) (by omega)
        refine q (.ref t) (.cut jN _) H10 (s18.trans (s9.trans s10)) ⟨t, y9, rfl, e10, hy9.same s10⟩ ⟨rr, hrj, f1.1, f1.2, ?_, ?_, ?_⟩
        ·exact not_less (by rw [cut_rest]; exact f2.2)
        ·rw [cut_rest]; exact f2.1
        ·rw [cut_rest]; exact f2.2
      walk_at "rd"
      refine ite2 (fun c => ?_) (fun c => kC6 _ s7)
      intro p1 H8 hp1 s8 e8
      have s28 := s7.trans s8
      refine ⟨_, 1, p, p1, rfl, rfl, eqd_nilV ((s12.trans s28) _ _ hp) e8, by decide, _, rfl, ?_⟩
      rw [hR.1]
      exact ite2 (fun c2 => kA6 _ s28 (by simpa using c2)) (fun c2 => kC6 _ s28)
     have kA5 : ∀ H7, Same H2 H7 → n.1.length ≠ 0 → A5 [some (V.ref pv), some (V.ref p), some (V.ref d), some (V.int (i : Int)), some (V.ref l), some (V.int wy), some pr, none, none] H7 := by
      intro H7 s7 g7
      have s17 := s12.trans s7
      subst hA5
      try dsimp only
      walk_at "rd"
      obtain ⟨jN, ejN, hjN⟩ : ∃ jN : Nat, xs[1] % (rx.length : Int) = (jN : Int) ∧ jN < n.1.length := by
       have m0 := Int.emod_nonneg xs[1] (b := (rx.length : Int)) (by omega)
       have m1 := Int.emod_lt_of_pos xs[1] (b := (rx.length : Int)) (by omega)
       exact ⟨(xs[1] % (rx.length : Int)).toNat, by omega, by omega⟩
      refine ⟨_, s17 _ _ hpv, _, a1, _, .inl (s17 _ _ hp), xs[1], rfl, by omega, fun t H8 ht s8 e8 => ?_⟩
      rw [ejN, Int.add_comm] at e8
      exact q (.ref t) (.reprice jN tp) H8 (s17.trans s8) ⟨t, pr, rfl, e8, (hpr.same s7).same s8⟩ ⟨hjN, zpr, npr⟩
     walk_at "rd"
     refine ite2 (fun c => ?_) (fun c => kC5 _ s6 (fun z => c z.1))
     intro p1 H7 hp1 s7 e7
     have s27 := s6.trans s7
     refine ⟨_, 1, p, p1, rfl, rfl, eqd_nilV ((s12.trans s27) _ _ hp) e7, by decide, _, rfl, ?_⟩
     rw [hR.1]
     exact ite2 (fun c2 => kA5 _ s27 (by simpa using c2)) (fun c2 => kC5 _ s27 (fun z => z.2 (by simpa using c2)))
    have kA4 : ∀ H6, Same H2 H6 → n.2.length ≠ 0 → A4 [some (V.ref pv), some (V.ref p), some (V.ref d), some (V.int (i : Int)), some (V.ref l), some (V.int wy), some pr, none, none] H6 := by
     intro H6 s6 g6
     have s16 := s12.trans s6
     have e16 := (s2.trans s6) _ _ e1
     subst hA4
     try dsimp only
     walk_at "rd"
     obtain ⟨jN, ejN, hjN⟩ : ∃ jN : Nat, xs[1] % (ts.length : Int) = (jN : Int) ∧ jN < ts.length := by
      have m0 := Int.emod_nonneg xs[1] (b := (ts.length : Int)) (by omega)
      have m1 := Int.emod_lt_of_pos xs[1] (b := (ts.length : Int)) (by omega)
      exact ⟨(xs[1] % (ts.length : Int)).toNat, by omega, by omega⟩
     obtain ⟨mN, emN, hmN⟩ : ∃ mN : Nat, xs[3] % ((rx.length : Int) + 1) = (mN : Int) ∧ mN ≤ n.1.length := by
      have m0 := Int.emod_nonneg xs[3] (b := (rx.length : Int) + 1) (by omega)
      have m1 := Int.emod_lt_of_pos xs[3] (b := (rx.length : Int) + 1) (by omega)
      exact ⟨(xs[3] % ((rx.length : Int) + 1)).toNat, by omega, by omega⟩
     have hat : atI (ts.map V.str) (xs[1] % (ts.length : Int)) = some (.str ts[jN]) := by rw [ejN]; exact atI_nat (by rw [List.getElem?_map, List.getElem?_eq_getElem hjN]; rfl)
     refine ⟨_, s16 _ _ hpv, _, a1, _, .inl e16, xs[1], rfl, by rw [List.length_map]; omega, _, e16, _, by rw [List.length_map]; exact hat, _, s16 _ _ hpv, _, a3, _, .inl (s16 _ _ hp), xs[3], rfl, by omega, fun t H7 ht s7 e7 => ?_⟩
     rw [emN] at e7
     exact q (.ref t) (.move ts[jN] mN) H7 (s16.trans s7) ⟨t, rfl, e7⟩ ⟨hkey _ (hperm.mem_iff.mp (List.getElem_mem hjN)), hmN⟩
    walk_at "rd"
    refine ite2 (fun c => ?_) (fun c => kC4 _ s5 (fun z => c z.1))
    intro p1 H6 hp1 s6 e6
    have s26 := s5.trans s6
    refine ⟨_, 1, l, p1, rfl, rfl, eqd_nilV ((s2.trans s26) _ _ e1) e6, by decide, _, rfl, ?_⟩
    rw [List.length_map, htl]
    exact ite2 (fun c2 => kA4 _ s26 (by simpa using c2)) (fun c2 => kC4 _ s26 (fun z => z.2 (by simpa using c2)))
   have kA3 : ∀ H5, Same H2 H5 → n.2.length ≠ 0 → A3 [some (V.ref pv), some (V.ref p), some (V.ref d), some (V.int (i : Int)), some (V.ref l), some (V.int wy), some pr, none, none] H5 := by
    intro H5 s5 g5
    have s15 := s12.trans s5
    have e15 := (s2.trans s5) _ _ e1
    subst hA3
    try dsimp only
    walk_at "rd"
    obtain ⟨jN, ejN, hjN⟩ : ∃ jN : Nat, xs[1] % (ts.length : Int) = (jN : Int) ∧ jN < ts.length := by
     have m0 := Int.emod_nonneg xs[1] (b := (ts.length : Int)) (by omega)
     have m1 := Int.emod_lt_of_pos xs[1] (b := (ts.length : Int)) (by omega)
     exact ⟨(xs[1] % (ts.length : Int)).toNat, by omega, by omega⟩
    have hat : atI (ts.map V.str) (xs[1] % (ts.length : Int)) = some (.str ts[jN]) := by rw [ejN]; exact atI_nat (by rw [List.getElem?_map, List.getElem?_eq_getElem hjN]; rfl)
    refine ⟨_, s15 _ _ hpv, _, a1, _, .inl e15, xs[1], rfl, by rw [List.length_map]; omega, _, e15, _, by rw [List.length_map]; exact hat, fun t H7 ht s7 e7 => ?_⟩
    exact q (.ref t) (.go ts[jN]) H7 (s15.trans s7) ⟨t, rfl, e7⟩ (hkey _ (hperm.mem_iff.mp (List.getElem_mem hjN)))
   walk_at "rd"
   refine ite2 (fun c => ?_) (fun c => kC3 _ s4 (fun z => c z.1))
   intro p1 H5 hp1 s5 e5
   have s25 := s4.trans s5
   refine ⟨_, 1, l, p1, rfl, rfl, eqd_nilV ((s2.trans s25) _ _ e1) e5, by decide, _, rfl, ?_⟩
   rw [List.length_map, htl]
   exact ite2 (fun c2 => kA3 _ s25 (by simpa using c2)) (fun c2 => kC3 _ s25 (fun z => z.2 (by simpa using c2)))
  walk_at "rd"
  refine ite2 (fun c => kA2 _ s3) (fun c => ?_)
  intro p1 H4 hp1 s4 e4
  have s24 := s3.trans s4
  refine ⟨_, 1, p, p1, rfl, rfl, eqd_nilV ((s12.trans s24) _ _ hp) e4, by decide, _, rfl, ?_⟩
  rw [hR.1]
  refine ite2 (fun c2 => ?_) (fun c2 => ?_)
  ·refine ite2 (fun c3 => kA2 _ s24) (fun c3 => kC2 _ s24 c (fun z => c3 z.2))
  ·exact kC2 _ s24 c (fun z => c2 (decide_eq_true z.1))
 walk_at "rd"
 have kE : ¬ (wy < 3 ∧ n.2.length < 6) → (if wy < 6 then ∀ (p_1 : Addr) (H2_1 : Hp), H2 p_1 = none → Same H2 H2_1 → H2_1 p_1 = some (HO.lst []) → rEqD (V.ref l) (V.ref p_1) H2_1 fun x H' => ∃ k, x = V.bl k ∧ if k = true then if ¬wy = 3 then A1 [some (V.ref pv), some (V.ref p), some (V.ref d), some (V.int (i : Int)), some (V.ref l), some (V.int wy), some pr, none, none] H' else C1 [some (V.ref pv), some (V.ref p), some (V.ref d), some (V.int (i : Int)), some (V.ref l), some (V.int wy), some pr, none, none] H' else C1 [some (V.ref pv), some (V.ref p), some (V.ref d), some (V.int (i : Int)), some (V.ref l), some (V.int wy), some pr, none, none] H' else C1 [some (V.ref pv), some (V.ref p), some (V.ref d), some (V.int (i : Int)), some (V.ref l), some (V.int wy), some pr, none, none] H2) := by
  intro g
  refine ite2 (fun c => ?_) (fun c => kC _ (fun _ _ e => e) (fun z => c z.1) g)
  intro p1 H4 hp1 s4 e4
  refine ⟨_, 1, l, p1, rfl, rfl, eqd_nilV ((s2.trans s4) _ _ e1) e4, by decide, _, rfl, ?_⟩
  rw [List.length_map, htl]
  refine ite2 (fun c2 => ?_) (fun c2 => kC _ s4 (fun z => c2 (decide_eq_true z.2.1)) g)
  have c3 := of_decide_eq_true c2
  exact ite2 (fun c4 => kA _ s4 (by omega)) (fun c4 => kC _ s4 (fun z => c4 z.2.2) g)
 refine ite2 (fun c => ?_) (fun c => kE (fun z => c z.1))
 refine ⟨n.2, .inl (s12 _ _ hd), ite2 (fun c2 => kA _ (fun _ _ e => e) (by omega)) (fun c2 => kE (fun z => c2 (by omega)))⟩
end
section
variable {w w0 v0 : Str} {body rest : TS} {D : Ends} {σ : St} {H : Hp} {pt : Addr} {r : List V} {j : Nat}
theorem t_is {Q : Bool → Hp → Prop} (h0 : σ[j]? = some (some (.ref pt))) (ht : H pt = some (.tup (.str w0 :: r))) (q : Q (decide (w0 = w)) H) : tTest (tOp rEq (tOp rIxT2 (tVar j) (tC (V.int 0))) (tC (V.str w))) σ H Q := by
 refine ⟨_, h0, pt, _, 0, .str w0, rfl, rfl, ht, (by show atI _ ((0 : Nat) : Int) = _; exact atI_nat rfl), rfl, decide (w0 = w), ?_, q⟩
 show V.bl (decide (V.str w0 = V.str w)) = _
 by_cases c : w0 = w
 ·rw [c, decide_eq_true rfl, decide_eq_true rfl]
 ·rw [decide_eq_false c, decide_eq_false (fun z => c (by injection z))]
theorem skip_if (h0 : σ[j]? = some (some (.ref pt))) (ht : H pt = some (.tup (.str w0 :: r))) (hne : w0 ≠ w) (h : rest D σ H) : tSeq (tIfS (tTest (tOp rEq (tOp rIxT2 (tVar j) (tC (V.int 0))) (tC (V.str w)))) body tNext) rest D σ H := by
 refine seq_go fun B hB => if_go fun A hA C hC => t_is h0 ht ?_
 rw [decide_eq_false hne, if_neg (by decide), hC, hB]
 exact h
theorem take_if (h0 : σ[j]? = some (some (.ref pt))) (ht : H pt = some (.tup (.str w0 :: r))) (he : w0 = w) (h : ∀ B : St → Hp → Prop, B = rest D → body { D with nx := B } σ H) : tSeq (tIfS (tTest (tOp rEq (tOp rIxT2 (tVar j) (tC (V.int 0))) (tC (V.str w)))) body tNext) rest D σ H := by
 refine seq_go fun B hB => if_go fun A hA C hC => t_is h0 ht ?_
 rw [decide_eq_true he, if_pos rfl, hA]
 exact h B hB
theorem t_or2 {Q : Bool → Hp → Prop} (h0 : σ[j]? = some (some (.ref pt))) (ht : H pt = some (.tup (.str w0 :: r))) (q : Q (decide (w0 = w ∨ w0 = v0)) H) : tOr (tTest (tOp rEq (tOp rIxT2 (tVar j) (tC (V.int 0))) (tC (V.str w)))) (tTest (tOp rEq (tOp rIxT2 (tVar j) (tC (V.int 0))) (tC (V.str v0)))) σ H Q := by
 refine t_is (Q := fun k H' => if k = true then Q true H' else tTest (tOp rEq (tOp rIxT2 (tVar j) (tC (V.int 0))) (tC (V.str v0))) σ H' Q) h0 ht ?_
 by_cases c : w0 = w
 ·rw [decide_eq_true (.inl c)] at q
  rw [decide_eq_true c, if_pos rfl]
  exact q
 ·rw [decide_eq_false c, if_neg (by decide)]
  refine t_is h0 ht ?_
  by_cases c2 : w0 = v0
  ·rw [decide_eq_true (.inr c2)] at q
   rw [decide_eq_true c2]
   exact q
  ·rw [decide_eq_false (fun z => z.elim c c2)] at q
   rw [decide_eq_false c2]
   exact q
theorem skip_if2 (h0 : σ[j]? = some (some (.ref pt))) (ht : H pt = some (.tup (.str w0 :: r))) (hne : ¬ (w0 = w ∨ w0 = v0)) (h : rest D σ H) : tSeq (tIfS (tOr (tTest (tOp rEq (tOp rIxT2 (tVar j) (tC (V.int 0))) (tC (V.str w)))) (tTest (tOp rEq (tOp rIxT2 (tVar j) (tC (V.int 0))) (tC (V.str v0))))) body tNext) rest D σ H := by
 refine seq_go fun B hB => if_go fun A hA C hC => t_or2 h0 ht ?_
 rw [decide_eq_false hne, if_neg (by decide), hC, hB]
 exact h
theorem take_if2 (h0 : σ[j]? = some (some (.ref pt))) (ht : H pt = some (.tup (.str w0 :: r))) (he : w0 = w ∨ w0 = v0) (h : ∀ B : St → Hp → Prop, B = rest D → body { D with nx := B } σ H) : tSeq (tIfS (tOr (tTest (tOp rEq (tOp rIxT2 (tVar j) (tC (V.int 0))) (tC (V.str w)))) (tTest (tOp rEq (tOp rIxT2 (tVar j) (tC (V.int 0))) (tC (V.str v0))))) body tNext) rest D σ H := by
 refine seq_go fun B hB => if_go fun A hA C hC => t_or2 h0 ht ?_
 rw [decide_eq_true he, if_pos rfl, hA]
 exact h B hB
end
section
variable {P : Program} {w : World} {K : PySem.W.Frag} {mg : Str → Option Value} {base : Heap} {f : Addr} {fd : FuncData} {CT CNP CS : Addr}
def sp_done : Sp := fun vs H Q _ => ∃ (x : V) (p d : Addr) (rx : List V) (dd : Deed) (n : Now), vs = [x, .ref p, .ref d] ∧ DeedV H x dd ∧ H p = some (.lst rx) ∧ RoadsV H rx n.1 ∧ H d = some (.dK n.2) ∧ NowG n ∧ DeedG n dd ∧
 ∀ t p' d' rx' H', H t = none → H p' = none → H d' = none → Same H H' → H' t = some (.tup [.ref p', .ref d']) → H' p' = some (.lst rx') → RoadsV H' rx' (done dd n).1 → H' d' = some (.dK (done dd n).2) → Q (.ref t) H'
theorem ok_done (F : Fun K "_law_done" "_law_done" s_law_done f fd) (n_list : mg "list" = none) (n_dict : mg "dict" = none) (n_len : mg "len" = none) (F_law_low : Fn P w K mg base CX0 2 "_law_low" ["_law_top", "_law_bottom"] sp_lowQ) : FnOk P w K mg base CX0 3 f fd ["_law_deed", "_law_roads", "_law_homes"] sp_done := by
 refine okQ F sc_law_done (fun vs H Q E h => ?_) (fun cdv A outer s H vs Q E hr h => ?_)
 ·obtain ⟨x, p, d, rx, dd, n, rfl, _⟩ := h; rfl
 obtain ⟨x, p, d, rx, dd, n, rfl, hx, hp, hR, hd, hN, hO, q⟩ := h
 refine ⟨_, (b_cons (s_set 1 sc_law_done.nd (q_list rfl n_list (a_c (q_v 1) a_nil)))
   (b_cons (s_set 2 sc_law_done.nd (q_dictU rfl n_dict (a_c (q_v 2) a_nil)))
   (b_cons (s_if (t_w (w_or (t_eq (q_ixT (q_v 0) q_int) q_str) (w_or1 (t_eq (q_ixT (q_v 0) q_int) q_str)))) (b_one (s_dput (hu_of hr) (q_v 2) (q_ixT (q_v 0) q_int) (q_ixT (q_v 0) q_int))) b_nil)
   (b_cons (s_if (t_eq (q_ixT (q_v 0) q_int) q_str) (b_one (s_expr (q_dpop (q_v 2) (q_ixT (q_v 0) q_int)))) b_nil)
   (b_cons (s_if (t_eq (q_ixT (q_v 0) q_int) q_str) (b_one (s_asg (q_tup (a_c (q_ixT (q_ixL (q_v 1) (q_sub (q_ixT (q_v 0) q_int) q_int)) q_int) (a_c (q_ixT (q_v 0) q_int) a_nil))) (g_sub (q_v 1) (q_sub (q_ixT (q_v 0) q_int) q_int)))) b_nil)
   (b_cons (s_if (t_eq (q_ixT (q_v 0) q_int) q_str) (b_one (s_expr (q_app (q_v 1) (a_c (q_tup (a_c (q_ixT (q_v 0) q_int) (a_c (q_ixT (q_v 0) q_int) a_nil))) a_nil)))) b_nil)
   (b_cons (s_if (t_eq (q_ixT (q_v 0) q_int) q_str) (b_cons (s_asg (q_ixL (q_v 1) (q_sub (q_ixT (q_v 0) q_int) q_int)) (g_tup (n := 2) (gs_cons (g_name 3 sc_law_done.nd) (gs_cons (g_name 4 sc_law_done.nd) gs_nil))))
   (b_cons (s_set 5 sc_law_done.nd (q_ixT (q_v 0) q_int))
   (b_cons (s_set 6 sc_law_done.nd (q_fn F_law_low hr (by decide) rfl (a_c (q_sub (q_mulL (q_ixT (q_v 4) q_int) (q_ixT (q_v 5) q_int)) (q_mulL (q_ixT (q_v 5) q_int) (q_ixT (q_v 4) q_int))) (a_c (q_mulL (q_ixT (q_v 4) q_int) (q_ixT (q_v 5) q_int)) a_nil))))
   (b_cons (s_asg (q_tup (a_c (q_add (q_len rfl n_len (a_c (q_v 1) a_nil)) q_int) (a_c (q_v 6) a_nil))) (g_sub (q_v 1) (q_sub (q_ixT (q_v 0) q_int) q_int)))
   (b_one (s_expr (q_app (q_v 1) (a_c (q_tup (a_c (q_v 3) (a_c (q_v 5) a_nil))) a_nil)))))))) b_nil)
   (b_one (s_ret (q_tup (a_c (q_v 1) (a_c (q_v 2) a_nil)))))))))))), ?_⟩
 rw [show start ["_law_deed", "_law_roads", "_law_homes", "_law_to", "_law_whole_here", "_law_part", "_law_rest"] [x, .ref p, .ref d] = [some (x), some (.ref p), some (.ref d), none, none, none, none] from rfl]
 refine seq_go fun B hB => ?_
 walk_at "rd"
 simp only [rList]
 walk_at "rd"
 refine ⟨rx, .inl (.of hp), fun p1 H1 hp1 s1 e1 => ?_⟩
 subst hB
 try dsimp only
 refine seq_go fun B hB => ?_
 walk_at "rd"
 simp only [rDictU]
 walk_at "rd"
 refine ⟨n.2, .inl (s1 _ _ hd), fun d1 H2 hd1 s2 e2 => ?_⟩
 have s12 := s1.trans s2
 have e12 := s2 _ _ e1
 have hR2 := hR.same s12
 have hx2 : DeedV H2 x dd := hx.keep fun b ys e => s12 _ _ e
 have hd0 : H d1 = none := s1.free hd1
 have npd : p1 ≠ d1 := ne_of_none e1 hd1
 subst hB
 try dsimp only
 have nd : ∀ {c : Addr} {o : HO}, H c = some o → c ≠ d1 := fun e => ne_of_none e hd0
 have np : ∀ {c : Addr} {o : HO}, H c = some o → c ≠ p1 := fun e => ne_of_none e hp1
 have fin : ∀ H3 rx', Same H H3 → H3 p1 = some (.lst rx') → RoadsV H3 rx' (done dd n).1 → H3 d1 = some (.dK (done dd n).2) → ∀ t H4, H3 t = none → Same H3 H4 → H4 t = some (.tup [.ref p1, .ref d1]) → Q (.ref t) H4 := fun H3 rx' s3 g1 g2 g3 t H4 ht s4 e4 =>
  q t p1 d1 rx' H4 (s3.free ht) hp1 hd0 (s3.trans s4) e4 (s4 _ _ g1) (g2.same s4) (s4 _ _ g3)
 have hkl := hN.2.2.1
 have hrl := hR.1
 cases dd with
 | come z k =>
  obtain ⟨pt, rfl, ht⟩ := hx2
  refine take_if2 rfl ht (.inl rfl) fun B hB => ?_
  walk_at "rd"
  refine ⟨_, ht, _, rfl, _, ht, _, rfl, n.2, e2, Sum.inr z, rfl, by omega, ?_⟩
  subst hB
  try dsimp only
  have S3 : Same H (upd H2 d1 (.dK (putK n.2 (Sum.inr z) (.int (k : Int))))) := same_upd hd0 s12
  have ht' : upd H2 d1 (.dK (putK n.2 (Sum.inr z) (.int (k : Int)))) pt = some (.tup [.str "come", .str z, .int (k : Int)]) := by rw [upd_ne (ne_of ht e2 (by intro z; cases z))]; exact ht
  refine skip_if rfl ht' (by decide +kernel) (skip_if rfl ht' (by decide +kernel) (skip_if rfl ht' (by decide +kernel) (skip_if rfl ht' (by decide +kernel) ?_)))
  walk_at "rd"
  exact fin _ rx S3 (by rw [upd_ne npd]; exact e12) (hR.same S3) upd_same
 | go z =>
  obtain ⟨pt, rfl, ht⟩ := hx2
  refine skip_if2 rfl ht (by decide +kernel) (take_if rfl ht rfl fun B hB => ?_)
  obtain ⟨v, ev⟩ := Option.isSome_iff_exists.mp hO
  walk_at "rd"
  refine ⟨.inl ⟨n.2, .inl e2⟩, _, ht, _, rfl, n.2, e2, Sum.inr z, rfl, ⟨v, ev⟩, ?_⟩
  subst hB
  try dsimp only
  have S3 : Same H (upd H2 d1 (.dK (dropK n.2 (Sum.inr z)))) := same_upd hd0 s12
  have ht' : upd H2 d1 (.dK (dropK n.2 (Sum.inr z))) pt = some (.tup [.str "go", .str z]) := by rw [upd_ne (ne_of ht e2 (by intro z; cases z))]; exact ht
  refine skip_if rfl ht' (by decide +kernel) (skip_if rfl ht' (by decide +kernel) (skip_if rfl ht' (by decide +kernel) ?_))
  walk_at "rd"
  exact fin _ rx S3 (by rw [upd_ne npd]; exact e12) (hR.same S3) upd_same
 | move z k =>
  obtain ⟨pt, rfl, ht⟩ := hx2
  refine take_if2 rfl ht (.inr rfl) fun B hB => ?_
  walk_at "rd"
  refine ⟨_, ht, _, rfl, _, ht, _, rfl, n.2, e2, Sum.inr z, rfl, by omega, ?_⟩
  subst hB
  try dsimp only
  have S3 : Same H (upd H2 d1 (.dK (putK n.2 (Sum.inr z) (.int (k : Int))))) := same_upd hd0 s12
  have ht' : upd H2 d1 (.dK (putK n.2 (Sum.inr z) (.int (k : Int)))) pt = some (.tup [.str "move", .str z, .int (k : Int)]) := by rw [upd_ne (ne_of ht e2 (by intro z; cases z))]; exact ht
  refine skip_if rfl ht' (by decide +kernel) (skip_if rfl ht' (by decide +kernel) (skip_if rfl ht' (by decide +kernel) (skip_if rfl ht' (by decide +kernel) ?_)))
  walk_at "rd"
  exact fin _ rx S3 (by rw [upd_ne npd]; exact e12) (hR.same S3) upd_same
 | reprice j t =>
  obtain ⟨pt, y, rfl, ht, hy⟩ := hx2
  refine skip_if2 rfl ht (by decide +kernel) (skip_if rfl ht (by decide +kernel) (take_if rfl ht rfl fun B hB => ?_))
  obtain ⟨hj, _, _⟩ := hO
  have hrj := List.getElem?_eq_getElem hj
  have hxj : j < rx.length := by omega
  obtain ⟨rp, ry, erx, hrp, hry⟩ := hR2.2 j _ _ (List.getElem?_eq_getElem hxj) hrj
  have hat : atI rx ((j : Int) + 1 - 1) = some (.ref rp) := by
   rw [show (j : Int) + 1 - 1 = (j : Int) by omega, ← erx]
   exact atI_nat (List.getElem?_eq_getElem hxj)
  walk_at "rd"
  refine ⟨_, ht, _, rfl, _, rfl, _, e12, _, hat, rp, rfl, _, hrp, _, rfl, _, ht, _, rfl, fun t5 H5 ht5 s5 e5 => ?_⟩
  refine ⟨_, s5 _ _ ht, _, rfl, _, rfl, _, s5 _ _ e12, j, ?_, ?_⟩
  ·rw [show (j : Int) + 1 - 1 = (j : Int) by omega]
   exact ixN_at hxj
  subst hB
  try dsimp only
  have s15 := s12.trans s5
  have e15 := s5 _ _ e12
  have S3 : Same H (upd H5 p1 (.lst (rx.set j (.ref t5)))) := same_upd hp1 s15
  have nt : ∀ b ys, H5 b = some (.tup ys) → upd H5 p1 (.lst (rx.set j (.ref t5))) b = some (.tup ys) := fun b ys e => by rw [upd_ne (ne_of e e15 (by intro z; cases z))]; exact e
  refine skip_if rfl (nt _ _ (s5 _ _ ht)) (by decide +kernel) (skip_if rfl (nt _ _ (s5 _ _ ht)) (by decide +kernel) ?_)
  walk_at "rd"
  refine fin _ (rx.set j (.ref t5)) S3 upd_same ?_ (by rw [upd_ne (Ne.symm npd)]; exact s5 _ _ e2)
  show RoadsV _ _ (setP n.1 j t)
  rw [setP_at hrj]
  exact ((hR2.same s5).keep nt).set (RoadV.keep ⟨t5, y, rfl, e5, hy.same s5⟩ nt)
 | build to t =>
  obtain ⟨pt, y, rfl, ht, hy⟩ := hx2
  refine skip_if2 rfl ht (by decide +kernel) (skip_if rfl ht (by decide +kernel) (skip_if rfl ht (by decide +kernel) (take_if rfl ht rfl fun B hB => ?_)))
  walk_at "rd"
  refine ⟨⟨_, e12⟩, _, ht, _, rfl, _, ht, _, rfl, fun t5 H5 ht5 s5 e5 => ⟨_, s5 _ _ e12, by rw [hrl]; have := hN.1.2.1; omega, ?_⟩⟩
  subst hB
  try dsimp only
  have s15 := s12.trans s5
  have e15 := s5 _ _ e12
  have S3 : Same H (upd H5 p1 (.lst (rx ++ [.ref t5]))) := same_upd hp1 s15
  have nt : ∀ b ys, H5 b = some (.tup ys) → upd H5 p1 (.lst (rx ++ [.ref t5])) b = some (.tup ys) := fun b ys e => by rw [upd_ne (ne_of e e15 (by intro z; cases z))]; exact e
  refine skip_if rfl (nt _ _ (s5 _ _ ht)) (by decide +kernel) ?_
  walk_at "rd"
  refine fin _ (rx ++ [.ref t5]) S3 upd_same ?_ (by rw [upd_ne (Ne.symm npd)]; exact s5 _ _ e2)
  exact ((hR2.same s5).keep nt).snoc (RoadV.keep ⟨t5, y, rfl, e5, hy.same s5⟩ nt)
 | cut j t =>
  obtain ⟨pt, y, rfl, ht, hy⟩ := hx2
  obtain ⟨r, hrj, z1, _, _, _, _⟩ := hO
  refine skip_if2 rfl ht (by decide +kernel) (skip_if rfl ht (by decide +kernel) (skip_if rfl ht (by decide +kernel) (skip_if rfl ht (by decide +kernel) (take_if rfl ht rfl fun B hB => ?_))))
  have hj := (List.getElem?_eq_some_iff.mp hrj).1
  have hxj : j < rx.length := by omega
  obtain ⟨rp, ry, erx, hrp, hry⟩ := hR2.2 j _ _ (List.getElem?_eq_getElem hxj) hrj
  have hat : atI rx ((j : Int) + 1 - 1) = some (.ref rp) := by
   rw [show (j : Int) + 1 - 1 = (j : Int) by omega, ← erx]
   exact atI_nat (List.getElem?_eq_getElem hxj)
  refine seq_go fun B2 hB2 => ?_
  walk_at "rd"
  refine ⟨_, ht, _, rfl, _, rfl, _, e12, _, hat, rp, rfl, _, hrp, rfl, _, _, rfl, _, _, rfl, rfl, ?_⟩
  subst hB2
  try dsimp only
  refine seq_go fun B2 hB2 => ?_
  walk_at "rd"
  refine ⟨_, ht, _, rfl, ?_⟩
  obtain ⟨wp, rfl, hwp⟩ := hry
  obtain ⟨yp, rfl, hyp⟩ := hy
  have zr := (hN.1.2.2 r (List.mem_of_getElem? hrj)).1
  subst hB2
  try dsimp only
  refine seq_go fun B2 hB2 => ?_
  walk_at "rd"
  refine ⟨_, hwp, _, rfl, _, hyp, _, rfl, _, rfl, _, rfl, ?_⟩
  have hdd : 0 < (r.2.den : Int) * (t.den : Int) := Int.mul_pos (by have := r.2.den_pos; omega) (by have := t.den_pos; omega)
  refine ⟨mulOk zr.1 (den_lt z1) (by decide), _, hyp, _, rfl, _, hwp, _, rfl, _, rfl, _, rfl, mulOk z1.1 (den_lt zr) (by decide), _, hwp, _, rfl, _, hyp, _, rfl, _, rfl, _, rfl, mulOk (den_lt zr) (den_lt z1) (by decide), ?_⟩
  refine ⟨_, _, rfl, Big.of (mul_lt_pow (den_lt zr) (den_lt z1)) (by decide), hdd, fun rv H5 s5 hrv => ?_⟩
  rw [← sub_divInt] at hrv
  subst hB2
  try dsimp only
  refine seq_go fun B2 hB2 => ?_
  walk_at "rd"
  refine ⟨_, .inl (s5 _ _ e12), fun t6 H6 ht6 s6 e6 => ⟨_, (s5.trans s6) _ _ ht, _, rfl, _, rfl, _, (s5.trans s6) _ _ e12, j, ?_, ?_⟩⟩
  ·rw [show (j : Int) + 1 - 1 = (j : Int) by omega]
   exact ixN_at hxj
  have s26 := s5.trans s6
  have e16 := s26 _ _ e12
  have nt : ∀ b ys, H6 b = some (.tup ys) → upd H6 p1 (.lst (rx.set j (.ref t6))) b = some (.tup ys) := fun b ys e => by rw [upd_ne (ne_of e e16 (by intro z; cases z))]; exact e
  have S3 : Same H (upd H6 p1 (.lst (rx.set j (.ref t6)))) := same_upd hp1 (s12.trans s26)
  have hRs : RoadsV (upd H6 p1 (.lst (rx.set j (.ref t6)))) (rx.set j (.ref t6)) (n.1.set j (n.1.length + 1, r.2 - t)) := ((hR2.same s26).keep nt).set (RoadV.keep ⟨t6, rv, rfl, by rw [e6, hrl]; rfl, hrv.same s6⟩ nt)
  have hyq : RatV (upd H6 p1 (.lst (rx.set j (.ref t6)))) (.ref yp) t := ⟨yp, rfl, nt _ _ (s26 _ _ hyp)⟩
  have htq := nt _ _ (s26 _ _ ht)
  have hdq : upd H6 p1 (.lst (rx.set j (.ref t6))) d1 = some (.dK n.2) := by rw [upd_ne (Ne.symm npd)]; exact s26 _ _ e2
  have e17 : upd H6 p1 (.lst (rx.set j (.ref t6))) p1 = some (.lst (rx.set j (.ref t6))) := upd_same
  generalize upd H6 p1 (.lst (rx.set j (.ref t6))) = H7 at S3 hRs hyq htq hdq e17 ⊢
  subst hB2
  try dsimp only
  walk_at "rd"
  refine ⟨⟨_, e17⟩, fun t8 H8 ht8 s8 e8 => ⟨_, s8 _ _ e17, by rw [List.length_set, hrl]; have := hN.1.2.1; omega, ?_⟩⟩
  subst hB
  try dsimp only
  have e18 := s8 _ _ e17
  have S4 : Same H (upd H8 p1 (.lst (rx.set j (.ref t6) ++ [.ref t8]))) := same_upd hp1 (S3.trans s8)
  have nt2 : ∀ b ys, H8 b = some (.tup ys) → upd H8 p1 (.lst (rx.set j (.ref t6) ++ [.ref t8])) b = some (.tup ys) := fun b ys e => by rw [upd_ne (ne_of e e18 (by intro z; cases z))]; exact e
  walk_at "rd"
  refine fin _ (rx.set j (.ref t6) ++ [.ref t8]) S4 upd_same ?_ (by rw [upd_ne (Ne.symm npd)]; exact s8 _ _ hdq)
  show RoadsV _ _ (cutP n.1 j t)
  rw [cutP_at hrj, List.set_append_left _ _ hj]
  exact ((hRs.same s8).keep nt2).snoc (RoadV.keep ⟨t8, _, rfl, e8, hyq.same s8⟩ nt2)
end
theorem eqp_kvs {H : Hp} {a b : Addr} {kvs : Kvs} (ha : H a = some (.dK kvs)) (hb : H b = some (.dK kvs)) (hv : HG kvs) : EqP H (.ref a) (.ref b) 2 :=
 .dct (n := 0) (.inl ha) (.inl hb) rfl (fun j x y h1 h2 => by
  rw [h1] at h2
  cases h2
  obtain ⟨_, k, rfl, _⟩ := hv.2.2 x (List.mem_of_getElem? h1)
  have z := EqD.flat (H := H) (x := .int (k : Int)) (y := .int (k : Int)) rfl rfl
  rw [eqV_refl rfl] at z
  exact ⟨rfl, z⟩) hv.1
section
variable {P : Program} {w : World} {K : PySem.W.Frag} {mg : Str → Option Value} {base : Heap} {f : Addr} {fd : FuncData} {CT CNP CS : Addr}
def sp_stands (CS CT : Addr) : Sp := fun vs H Q _ => ∃ (ex : List Addr) (a ps p d : Addr) (rx : List V) (n : Now) (past : List Now), vs = [.ref a, .ref p, .ref d] ∧ ShireV ex CS CT H a ps n.1 n.2 past ∧ H p = some (.lst rx) ∧ RoadsV H rx n.1 ∧ H d = some (.dK n.2) ∧ HG n.2 ∧ ∀ H', Same H H' → Q (.bl true) H'
theorem ok_stands (F : Fun K "_law_stands" "_law_stands" s_law_stands f fd) (n_isinstance : mg "isinstance" = none) (n_len : mg "len" = none) (n_dict : mg "dict" = none) (m_Tree : mg "Tree" = some (.ref CT)) (oc_Tree : OwnCls K CT) (M_tree : Mth P w K mg base CX0 1 CS "tree" ["self"] (sp_treeS CS CT)) (M_homes : Mth P w K mg base CX0 1 CS "homes" ["self"] (sp_homesS CS CT))
  (M_roads : Mth P w K mg base CX0 1 CT "roads" ["self"] (sp_roadsM CT)) (M_many : Mth P w K mg base CX0 1 CT "many" ["self"] (sp_many CT)) : FnOk P w K mg base CX0 2 f fd ["_law_shire", "_law_roads", "_law_homes"] (sp_stands CS CT) := by
 refine okQ F sc_law_stands (fun vs H Q E h => ?_) (fun cdv A outer s H vs Q E hr h => ?_)
 ·obtain ⟨ex, a, ps, p, d, rx, n, past, rfl, _⟩ := h; rfl
 obtain ⟨ex, a, ps, p, d, rx, n, past, rfl, hS, hp, hR, hd, hH, q⟩ := h
 obtain ⟨dx, tr, ds, pv, h1, _⟩ := id hS
 refine ⟨_, (b_cons (s_set 3 sc_law_stands.nd (q_meth0 M_tree hr (by decide) (q_v 0)))
   (b_cons (s_if (t_w (w_or (t_not (t_val (q_instC rfl n_isinstance (a_c (q_v 3) (a_c (q_cls rfl m_Tree) a_nil))))) (w_or (t_neD hr (q_meth0 M_roads hr (by decide) (q_v 3)) (q_v 1)) (w_or1 (t_ne (q_meth0 M_many hr (by decide) (q_v 3)) (q_add (q_len rfl n_len (a_c (q_v 1) a_nil)) q_int)))))) (b_one (s_ret q_bl)) b_nil)
   (b_cons (s_set 4 sc_law_stands.nd (q_meth0 M_homes hr (by decide) (q_v 0)))
   (b_one (s_ret (q_and (q_inst rfl n_isinstance (a_c (q_v 4) (a_c (q_ty rfl n_dict rfl) a_nil))) (q_one (q_eqP hr (q_v 4) (q_v 2))))))))), ?_⟩
 rw [show start ["_law_shire", "_law_roads", "_law_homes", "_law_tree", "_law_told"] [.ref a, .ref p, .ref d] = [some (.ref a), some (.ref p), some (.ref d), none, none] from rfl]
 refine seq_go fun B hB => ?_
 walk_at "rd"
 refine ⟨dx, _, h1, rfl, ex, a, ps, n.1, n.2, past, rfl, hS, fun tv hT => ?_⟩
 have hT1 := hT.same off_sub
 obtain ⟨tb, dt, la, wa, ls, ws, rfl, t1, _⟩ := id hT1
 subst hB
 try dsimp only
 refine seq_go fun B hB => ?_
 refine if_go fun A1 hA1 C1 hC1 => ?_
 walk_at "rd"
 refine ⟨⟨_, _, t1⟩, oc_Tree, _, _, t1, rfl, .ref tb, n.1, rfl, hT1, fun pr H1 ls1 hpr s1 e1 hR1 => ?_⟩
 refine ⟨true, 3, pr, p, rfl, rfl, eqd_roads e1 (s1 _ _ hp) hR1 (hR.same s1), by decide, _, rfl, ?_⟩
 rw [if_neg (by decide)]
 refine ⟨_, _, s1 _ _ t1, rfl, .ref tb, n.1, rfl, hT1.same s1, _, .inl (s1 _ _ hp), rfl, ?_⟩
 rw [hR.1, if_neg (fun z => z rfl)]
 subst hC1
 refine next_go ?_
 subst hB
 try dsimp only
 walk_at "rd"
 refine ⟨dx, _, s1 _ _ h1, rfl, ex, a, ps, n.1, n.2, past, rfl, hS.same s1, fun d2 H2 hd2 s2 e2 => ?_⟩
 have hk : kindV H2 (.ref d2) = some "dict" := by
  unfold kindV
  dsimp only
  rw [e2]
 refine ⟨_, hk, by decide, ?_⟩
 rw [if_pos (by decide)]
 exact ⟨⟨_, rfl⟩, 2, eqp_kvs e2 ((s1.trans s2) _ _ hd) hH, by decide, q _ (s1.trans s2)⟩
end
inductive Raw where
 | come (z : Str) (k : Int)
 | go (z : Str)
 | move (z : Str) (k : Int)
 | reprice (k : Int) (y : V)
 | build (k : Int) (y : V)
 | cut (k : Int) (y : V)
def RawV (H : Hp) (x : V) : Raw → Prop
 | .come z k => ∃ p, x = .ref p ∧ H p = some (.tup [.str "come", .str z, .int k])
 | .go z => ∃ p, x = .ref p ∧ H p = some (.tup [.str "go", .str z])
 | .move z k => ∃ p, x = .ref p ∧ H p = some (.tup [.str "move", .str z, .int k])
 | .reprice k y => ∃ p, x = .ref p ∧ H p = some (.tup [.str "reprice", .int k, y])
 | .build k y => ∃ p, x = .ref p ∧ H p = some (.tup [.str "build", .int k, y])
 | .cut k y => ∃ p, x = .ref p ∧ H p = some (.tup [.str "cut", .int k, y])
def rawSp (CS CT CNN CNP CNR CTM a : Addr) (H : Hp) (Q : VK) (E : XK) : Raw → Prop
 | .come z k => sp_comeX CS CT CNN CNP CTM [.ref a, .str z, .int k] H Q E
 | .go z => sp_goX CS CT CNN [.ref a, .str z] H Q E
 | .move z k => sp_moveX CS CT CNN CNP [.ref a, .str z, .int k] H Q E
 | .reprice k y => sp_repriceX CS CT CNP CNR [.ref a, .int k, y] H Q E
 | .build k y => sp_buildX CS CT CNP CNR CTM [.ref a, .int k, y] H Q E
 | .cut k y => sp_cutX CS CT CNP CNR CTM [.ref a, .int k, y] H Q E
section
variable {P : Program} {w : World} {K : PySem.W.Frag} {mg : Str → Option Value} {base : Heap} {f : Addr} {fd : FuncData} {CT CNP CS CNN CNR CTM : Addr}
def sp_doX (CS CT CNN CNP CNR CTM : Addr) : Sp := fun vs H Q E => ∃ (ex : List Addr) (a ps : Addr) (x : V) (n : Now) (past : List Now) (raw : Raw), vs = [.ref a, x] ∧ ShireV ex CS CT H a ps n.1 n.2 past ∧ RawV H x raw ∧ rawSp CS CT CNN CNP CNR CTM a H Q E raw
theorem ok_doX (F : FunD K "_law_do" "_law_do" s_law_do .none f fd) (M_come : Mth P w K mg base (CX1 P w) 3 CS "come" ["self", "name", "k"] (sp_comeX CS CT CNN CNP CTM)) (M_go : Mth P w K mg base (CX1 P w) 3 CS "go" ["self", "name"] (sp_goX CS CT CNN)) (M_move : Mth P w K mg base (CX1 P w) 3 CS "move" ["self", "name", "k"] (sp_moveX CS CT CNN CNP)) (M_reprice : Mth P w K mg base (CX1 P w) 9 CS "reprice" ["self", "k", "price"] (sp_repriceX CS CT CNP CNR))
  (M_build : Mth P w K mg base (CX1 P w) 9 CS "build" ["self", "to", "price"] (sp_buildX CS CT CNP CNR CTM)) (M_cut : Mth P w K mg base (CX1 P w) 9 CS "cut" ["self", "k", "price"] (sp_cutX CS CT CNP CNR CTM)) : FnOk P w K mg base (CX1 P w) 10 f fd ["_law_shire", "_law_deed"] (sp_doX CS CT CNN CNP CNR CTM) := by
 refine okX F sc_law_do (fun vs H Q E h => ?_) (fun cdv A outer s H vs Q E hr h => ?_)
 ·obtain ⟨ex, a, ps, x, n, past, raw, rfl, _⟩ := h; rfl
 obtain ⟨ex, a, ps, x, n, past, raw, rfl, hS, hx, q⟩ := h
 obtain ⟨dx, tr, ds, pv, h1, _⟩ := id hS
 refine ⟨_, (b_cons (s_if (t_eq (q_ixT (q_v 1) q_int) q_str) (b_one (s_ret (q_methX goes_of M_come hr (by decide) (q_v 0) (a_c (q_ixT (q_v 1) q_int) (a_c (q_ixT (q_v 1) q_int) a_nil))))) b_nil)
   (b_cons (s_if (t_eq (q_ixT (q_v 1) q_int) q_str) (b_one (s_ret (q_methX goes_of M_go hr (by decide) (q_v 0) (a_c (q_ixT (q_v 1) q_int) a_nil)))) b_nil)
   (b_cons (s_if (t_eq (q_ixT (q_v 1) q_int) q_str) (b_one (s_ret (q_methX goes_of M_move hr (by decide) (q_v 0) (a_c (q_ixT (q_v 1) q_int) (a_c (q_ixT (q_v 1) q_int) a_nil))))) b_nil)
   (b_cons (s_if (t_eq (q_ixT (q_v 1) q_int) q_str) (b_one (s_ret (q_methX goes_of M_reprice hr (by decide) (q_v 0) (a_c (q_ixT (q_v 1) q_int) (a_c (q_ixT (q_v 1) q_int) a_nil))))) b_nil)
   (b_cons (s_if (t_eq (q_ixT (q_v 1) q_int) q_str) (b_one (s_ret (q_methX goes_of M_build hr (by decide) (q_v 0) (a_c (q_ixT (q_v 1) q_int) (a_c (q_ixT (q_v 1) q_int) a_nil))))) b_nil)
   (b_one (s_ret (q_methX goes_of M_cut hr (by decide) (q_v 0) (a_c (q_ixT (q_v 1) q_int) (a_c (q_ixT (q_v 1) q_int) a_nil)))))))))), ?_⟩
 rw [show start ["_law_shire", "_law_deed"] [.ref a, x] = [some (.ref a), some (x)] from rfl]
 cases raw with
 | come z k =>
  obtain ⟨pt, rfl, ht⟩ := hx
  refine take_if rfl ht rfl fun B hB => ?_
  walk_at "rd"
  exact ⟨dx, _, h1, rfl, _, ht, _, rfl, _, ht, _, rfl, q⟩
 | go z =>
  obtain ⟨pt, rfl, ht⟩ := hx
  refine skip_if rfl ht (by decide +kernel) (take_if rfl ht rfl fun B hB => ?_)
  walk_at "rd"
  exact ⟨dx, _, h1, rfl, _, ht, _, rfl, q⟩
 | move z k =>
  obtain ⟨pt, rfl, ht⟩ := hx
  refine skip_if rfl ht (by decide +kernel) (skip_if rfl ht (by decide +kernel) (take_if rfl ht rfl fun B hB => ?_))
  walk_at "rd"
  exact ⟨dx, _, h1, rfl, _, ht, _, rfl, _, ht, _, rfl, q⟩
 | reprice k y =>
  obtain ⟨pt, rfl, ht⟩ := hx
  refine skip_if rfl ht (by decide +kernel) (skip_if rfl ht (by decide +kernel) (skip_if rfl ht (by decide +kernel) (take_if rfl ht rfl fun B hB => ?_)))
  walk_at "rd"
  exact ⟨dx, _, h1, rfl, _, ht, _, rfl, _, ht, _, rfl, q⟩
 | build k y =>
  obtain ⟨pt, rfl, ht⟩ := hx
  refine skip_if rfl ht (by decide +kernel) (skip_if rfl ht (by decide +kernel) (skip_if rfl ht (by decide +kernel) (skip_if rfl ht (by decide +kernel) (take_if rfl ht rfl fun B hB => ?_))))
  walk_at "rd"
  exact ⟨dx, _, h1, rfl, _, ht, _, rfl, _, ht, _, rfl, q⟩
 | cut k y =>
  obtain ⟨pt, rfl, ht⟩ := hx
  refine skip_if rfl ht (by decide +kernel) (skip_if rfl ht (by decide +kernel) (skip_if rfl ht (by decide +kernel) (skip_if rfl ht (by decide +kernel) (skip_if rfl ht (by decide +kernel) ?_))))
  walk_at "rd"
  exact ⟨dx, _, h1, rfl, _, ht, _, rfl, _, ht, _, rfl, q⟩
end
def isT : Value → Bool
 | .bool b => b
 | _ => false
theorem vals_bl : ∀ {bs : List Bool} {its : List Value}, Vals (bs.map V.bl) its → its = bs.map Value.bool
 | [], its, h => by cases h; rfl
 | b :: bs, its, h => by
  cases h with
  | cons h1 h2 =>
   cases h1
   rw [vals_bl h2]
   rfl
section
variable {X : Cx} {t : TA}
def rCountB : V → List V → Hp → VK → Prop := fun x vs H Q => ∃ (l : Addr) (bs : List Bool), x = .ref l ∧ vs = [.bl true] ∧ H l = some (.lst (bs.map V.bl)) ∧ Q (.int (bs.countP id : Nat)) H
theorem mt_countB : MtM X "list.count" rCountB := by
 intro pins s σ H x vs v us Q I rx rv h
 obtain ⟨l, bs, rfl, rfl, hH, q⟩ := h
 cases rx
 obtain ⟨u, rfl, ru⟩ := rv.one
 cases ru
 obtain ⟨z, its, n, r, hl, e⟩ := I.lstM hH
 have ei := vals_bl r
 subst ei
 refine call_meets F.slot_list_count ⟨_, e, rfl⟩ F.entry_list_count (F.args_list_count_2 _ _) (SeqAt.list_countAt l _ n none #[] _ isT) ⟨e, fun y hy => ?_, ?_⟩
 ·have hy' : y ∈ bs.map Value.bool := by simpa using hy
  obtain ⟨b, _, rfl⟩ := List.mem_map.mp hy'
  have := eqAt_V (A := X.A.in1) (s := s) (y := .bl b) (x := .bl true) (u := .bool b) (v := .bool true) rfl rfl rfl rfl
  rw [show isT (Value.bool b) = eqV (V.bl b) (V.bl true) by cases b <;> rfl]
  exact this
 ·refine ⟨.int _, H, I.tok _, ⟨_, rfl⟩, ?_⟩
  rw [show List.countP isT (List.map Value.bool bs).toArray.toList = List.countP id bs by
   rw [List.toList_toArray, List.countP_map]
   rfl]
  exact q
def rIndexB : V → List V → Hp → VK → Prop := fun x vs H Q => ∃ (l : Addr) (bs : List Bool) (j : Nat), x = .ref l ∧ vs = [.bl true] ∧ H l = some (.lst (bs.map V.bl)) ∧ j < 1000 ∧ bs[j]? = some true ∧ (∀ m, m < j → bs[m]? = some false) ∧ Q (.int (j : Int)) H
theorem mt_indexB : MtM X "list.index" rIndexB := by
 intro pins s σ H x vs v us Q I rx rv h
 obtain ⟨l, bs, j, rfl, rfl, hH, hj, h1, h2, q⟩ := h
 cases rx
 obtain ⟨u, rfl, ru⟩ := rv.one
 cases ru
 obtain ⟨z, its, n, r, hl, e⟩ := I.lstM hH
 have ei := vals_bl r
 subst ei
 have hjl : j < bs.length := (List.getElem?_eq_some_iff.mp h1).1
 refine call_meets F.slot_list_index ⟨_, e, rfl⟩ F.entry_list_index (F.args_list_index_2 _ _) (SeqAt.list_indexAt l _ n none #[] _ isT j (by simpa using hjl) (by omega) ?_ ?_) ⟨e, fun y hy => ?_, ?_⟩
 ·have := (List.getElem?_eq_some_iff.mp h1).2
  simp [isT, this]
 ·intro m hm hlt
  have hml : m < bs.length := by omega
  have := (List.getElem?_eq_some_iff.mp (h2 m hlt)).2
  simp [isT, this]
 ·have hy' : y ∈ bs.map Value.bool := by simpa using hy
  obtain ⟨b, _, rfl⟩ := List.mem_map.mp hy'
  have := eqAt_V (A := X.A.in1) (s := s) (y := .bl b) (x := .bl true) (u := .bool b) (v := .bool true) rfl rfl rfl rfl
  rw [show isT (Value.bool b) = eqV (V.bl b) (V.bl true) by cases b <;> rfl]
  exact this
 ·exact ⟨.int _, H, I.tok _, ⟨_, rfl⟩, q⟩
theorem q_countB {o e : Expr} {to : TE} {apos cpos : Pos} (ho : QE X o to) (ha : QA X [e] t) (hbase : attributeBase o "count" X.env (eval o X.env) = eval o X.env := by rfl) (hline : (apos.endLine == cpos.line) = true := by rfl) (hp : plainE e = true := by rfl) :
  QE X (.Call (.Attribute o "count" apos) [e] [] cpos) (tLm rCountB to t) :=
 ⟨pe_lm PySem.F.slot_list_count PySem.F.type_list_count mt_countB ho.h ha.h hbase (by rw [se_cons hp]; rfl) hline (se_cons hp) rfl⟩
theorem q_indexB {o e : Expr} {to : TE} {apos cpos : Pos} (ho : QE X o to) (ha : QA X [e] t) (hbase : attributeBase o "index" X.env (eval o X.env) = eval o X.env := by rfl) (hline : (apos.endLine == cpos.line) = true := by rfl) (hp : plainE e = true := by rfl) :
  QE X (.Call (.Attribute o "index" apos) [e] [] cpos) (tLm rIndexB to t) :=
 ⟨pe_lm PySem.F.slot_list_index PySem.F.type_list_index mt_indexB ho.h ha.h hbase (by rw [se_cons hp]; rfl) hline (se_cons hp) rfl⟩
end
structure RoomH (k : Nat) (A : Around) : Prop where
 dp : A.depth + 3 * k + 5 < recursionLimit
 un : A.units + 16 * k + 200 < cLine
theorem roomH {j k : Nat} {A : Around} (r : Room k A) (h : j ≤ k) (e : Option Value) : RoomH j (A.mark e) := ⟨by have := r.dp; show A.depth + 3 * j + 5 < _; omega, by have := r.un; show A.units + 16 * j + 200 < _; omega⟩
structure FnOkH (P : Program) (w : World) (K : PySem.W.Frag) (mg : Str → Option Value) (base : Heap) (k : Nat) (f : Addr) (fd : FuncData) (ps : List Str) (sp : Sp) : Prop where
 len : ∀ vs H Q E, sp vs H Q E → vs.length = ps.length
 run : ∀ (A : Around) (outer : List Env) (s : Shared) (H : Hp) (args : Args) (us : List Value) (vs : List V) (Q : VK) (E : XK), RoomH k A → Env0 P w K mg base A outer s H → BindsTo s fd args (ps.zip us) → Vals vs us → sp vs H Q E →
  codeAny (model P w) A (.call (.ref f) args) (CR CX0 outer P w H s Q E) s
abbrev CxH (X : Cx) : Cx := { X with calm := false, xe := fun _ _ => False }
theorem okHd {P : Program} {w : World} {K : PySem.W.Frag} {mg : Str → Option Value} {base : Heap} {x qual : Str} {st : Stmt} {f : Addr} {fd : FuncData} {N ps : List Str} {k : Nat} {sp : Sp} (F : Fun K x qual st f fd) (S : FnScope N ps (defScope st)) (len : ∀ vs H Q E, sp vs H Q E → vs.length = ps.length)
  (hbody : ∀ (cdv : Value) (A : Around) (outer : List Env) (s : Shared) (H : Hp) (vs : List V) (Q : VK) (E : XK), RoomH k (A.deeper (envOfC qual (defScope st) s.heap.objs.size f cdv)) → sp vs H Q E →
   ∃ t, QB (CxH (cxOf CX0 P w K mg base N qual (defScope st) f cdv A outer s H E)) (defBody st) t ∧ t { nx := fun _ H' => Q .non H', rt := Q } (start N vs) H) : FnOkH P w K mg base (k + 1) f fd ps sp := by
 obtain ⟨oc, od, kV, doc, pm, an, cdv, ct, osl, rfl, lk, hcd⟩ := F.ex
 refine ⟨len, fun A outer s H args us vs Q E hr e0 hb r hsp => ?_⟩
 have hl := len _ _ _ _ hsp
 have KX : K.In s.heap := e0.mod.kin.keeps fun b o e => (e0.bs b o e).1
 have lim : s.heap.NoLimit := e0.mod.nolimit.keeps fun b o e => (e0.bs b o e).1
 have hkind : ∀ y ∈ ps.zip us, (defScope st).names.lookup y.1 = some .local ∨ ((defScope st).names.lookup y.1 = some .cell ∧ ((cellsFrom (s.heap.objs.size + 1) (defScope st).names []).lookup y.1).isSome = true) := fun ⟨n, v⟩ hy => by
  rcases S.par n (List.of_mem_zip hy).1 with q | q
  ·exact .inl q
  ·exact .inr ⟨q, PySem.W.cellsFrom_some _ _ _ (.inl q)⟩
 have hdp : A.depth < recursionLimit := by have := hr.dp; omega
 refine codeAny_call_function hdp (KX _ _ lk) rfl S.co S.gen rfl (PySem.W.codeRec_of KX hcd) (hb _ _ _ _ ?_)
 refine wpAny_newFunctionEnv_cells S.kind hkind fun env he s1 x => ?_
 subst he
 refine ⟨lim.keeps x.toInCall.keep, codeAny_func ?_⟩
 obtain ⟨t, ht, hq⟩ := hbody cdv A outer s H vs Q E ⟨by have := hr.dp; show A.depth + 1 + 3 * k + 5 < _; omega, by have := hr.un; show A.units + 3 + 16 * k + 200 < _; omega⟩ hsp
 have e1 : Env0 P w K mg base { A with handled := none } outer s H := ⟨e0.frames, e0.mod, e0.bs, e0.bsz, e0.funs, e0.frf, e0.hok, e0.bare⟩
 have I0 : Inv (cxOf CX0 P w K mg base N qual (defScope st) f cdv { A with handled := none } outer s H E) [] (start N vs) H s1 := inv_start S rfl e1 hl r x
 have o := I0.ok
 have I : Inv (CxH (cxOf CX0 P w K mg base N qual (defScope st) f cdv A outer s H E)) [] (start N vs) H s1 :=
  ⟨⟨o.mod, o.kind, o.glob, o.blt, o.above, o.inj, o.has, o.cab, (fun z => nomatch z), o.frames, o.stk, o.exf, o.bs, o.bsz, o.noex, o.exfs, o.funs, o.frf⟩, I0.os, I0.bare, I0.base, I0.loc, I0.cell, I0.free, I0.freeC, I0.pin, I0.hok, I0.len⟩
 refine wpAny_mono (ht.h [] s1 (start N vs) H _ I hq) (fun fl s' hs => ?_) fun e s' hs => hs.elim
 have fin : ∀ {σ' : St} {H' : Hp} {v : V} {u : Value}, Inv (CxH (cxOf CX0 P w K mg base N qual (defScope st) f cdv A outer s H E)) [] σ' H' s' → RelV v u → Q v H' → CE outer P w H s Q u s' :=
  fun {σ' H' v u} J rv q => ⟨v, H', J.os, J.bare, J.base, J.hok, rv, q⟩
 cases fl with
 | ret u =>
  obtain ⟨v, σ', H', J, rv, q⟩ := hs
  exact fin J rv q
 | next =>
  obtain ⟨σ', H', J, q⟩ := hs
  exact fin (v := V.non) (u := Value.none) J rfl q
 | brk =>
  obtain ⟨_, _, _, q⟩ := hs
  exact False.elim q
 | cont =>
  obtain ⟨_, _, _, q⟩ := hs
  exact False.elim q
structure FnH (P : Program) (w : World) (K : PySem.W.Frag) (mg : Str → Option Value) (base : Heap) (k : Nat) (x : Str) (ps : List Str) (sp : Sp) : Prop where
 ex : ∃ (f : Addr) (fd : FuncData), FnOkH P w K mg base k f fd ps sp ∧ Binds K fd ps [] ∧ PySem.W.keepIn K (.ref f) = true ∧ mg x = some (.ref f)
section
variable {X : Cx} {j k : Nat} {x : Str} {ps : List Str} {sp : Sp} {p pos : Pos} {e : Expr} {es : List Expr} {t : TA} {ea : Addr}
theorem q_fnH (F : FnH X.prog X.w X.K X.mg X.base j x ps sp) (hr : Room k X.A) (hj : j ≤ k) (hg : Gl (Xh X ea) x) (ha : QA (Xh X ea) (e :: es) t) (hp : (e :: es).all plainE = true := by rfl) (hdb : (x == ("__debug__" : Str)) = false := by decide) :
  QE (Xh X ea) (.Call (.Name x p) (e :: es) [] pos) (tCall sp [] E0 t) := by
 obtain ⟨f, fd, G, b, kp, m⟩ := F.ex
 refine ⟨fun pins s σ H Q I h => ?_⟩
 refine wpAny_Call_Name_kw (ld_glob I hg m ?_ hdb)
 refine PySem.W.callWith_K (h₀ := X.base) I.ok.mod.kin kp (thn (ha.h pos pins s σ H _ I h) fun us s1 ⟨vs, H1, I1, r, q⟩ => ⟨I1.kIn, ?_⟩) (se_cons (hd_plain hp).1) (se_any (hd_plain hp).2)
 have r2 : Vals (vs ++ []) (us ++ []) := r.append .nil
 have hl : (us ++ []).length = ps.length := by rw [← r2.length]; exact G.len _ _ _ _ q
 refine wpAny_call (codeAny_mono (G.run _ _ s1 H1 ⟨us, []⟩ (us ++ []) (vs ++ []) Q E0 (roomH hr hj _) I1.env0 (b s1 us I1.kIn hl) r2 q) fun r s' hq => ?_)
 cases r with
 | error e => exact hq.elim
 | ok fl =>
  cases fl with
  | ret u => exact I1.after hq
  | next => exact False.elim hq
  | brk => exact False.elim hq
  | cont => exact False.elim hq
end
structure WordC (K : PySem.W.Frag) (CNN CNP CNR CTM CND CNF CNS CNX CNT C : Addr) (j : Nat) : Prop where
 xk : ExcK K C
 k0 : PySem.W.kitOne K (.ref C) (.ref CNN) = some (decide (j = 0))
 k1 : PySem.W.kitOne K (.ref C) (.ref CNP) = some (decide (j = 1))
 k2 : PySem.W.kitOne K (.ref C) (.ref CNR) = some (decide (j = 2))
 k3 : PySem.W.kitOne K (.ref C) (.ref CTM) = some (decide (j = 3))
 no : PySem.W.kitAny K (.ref C) [.ref CND, .ref CNF, .ref CNS, .ref CNX, .ref CNT] = some false
 ve : PySem.W.kitOne K (.ref C) (.type "ValueError") = some true
def wordOf (j : Nat) : Str := match j with
 | 0 => "name"
 | 1 => "place"
 | 2 => "price"
 | _ => "many"
section
variable {P : Program} {w : World} {K : PySem.W.Frag} {mg : Str → Option Value} {base : Heap} {f : Addr} {fd : FuncData} {CT CS CNN CNP CNR CTM CND CNF CNS CNX CNT : Addr}
def sp_wordE (K : PySem.W.Frag) (CNN CNP CNR CTM CND CNF CNS CNX CNT : Addr) : Sp := fun vs H Q _ => ∃ (ea C : Addr) (j : Nat), vs = [.ref ea] ∧ H ea = some (hoExc C ea) ∧ WordC K CNN CNP CNR CTM CND CNF CNS CNX CNT C j ∧ j < 4 ∧ ∀ H', Same H H' → Q (.str (wordOf j)) H'
theorem ok_wordE (F : Fun K "_law_word" "_law_word" s_law_word f fd) (n_isinstance : mg "isinstance" = none) (n_ValueError : mg "ValueError" = none) (m_NoName : mg "NoName" = some (.ref CNN)) (m_NoPlace : mg "NoPlace" = some (.ref CNP)) (m_NoPrice : mg "NoPrice" = some (.ref CNR)) (m_TooMany : mg "TooMany" = some (.ref CTM))
  (m_NoDeed : mg "NoDeed" = some (.ref CND)) (m_NoFraction : mg "NoFraction" = some (.ref CNF)) (m_NoSharing : mg "NoSharing" = some (.ref CNS)) (m_NoText : mg "NoText" = some (.ref CNX)) (m_NoTree : mg "NoTree" = some (.ref CNT)) : FnOkH P w K mg base 1 f fd ["_law_e"] (sp_wordE K CNN CNP CNR CTM CND CNF CNS CNX CNT) := by
 refine okHd F sc_law_word (fun vs H Q E h => ?_) (fun cdv A outer s H vs Q E hr h => ?_)
 ·obtain ⟨ea, C, j, rfl, _⟩ := h; rfl
 obtain ⟨ea, C, j, rfl, he, wc, hj, q⟩ := h
 refine ⟨_, (b_cons (s_set 1 sc_law_word.nd (q_lst (a_c (q_instE rfl n_isinstance (a_c (q_v 0) (a_c (q_cls rfl m_NoName) a_nil))) (a_c (q_instE rfl n_isinstance (a_c (q_v 0) (a_c (q_cls rfl m_NoPlace) a_nil))) (a_c (q_instE rfl n_isinstance (a_c (q_v 0) (a_c (q_cls rfl m_NoPrice) a_nil))) (a_c (q_instE rfl n_isinstance (a_c (q_v 0) (a_c (q_cls rfl m_TooMany) a_nil))) a_nil))))))
   (b_cons (s_if (t_w (w_or (t_val (q_instT rfl n_isinstance (a_c (q_v 0) (a_c (q_tup (a_c (q_cls rfl m_NoDeed) (a_c (q_cls rfl m_NoFraction) (a_c (q_cls rfl m_NoSharing) (a_c (q_cls rfl m_NoText) (a_c (q_cls rfl m_NoTree) a_nil)))))) a_nil)))) (w_or1 (t_not (t_val (q_instE rfl n_isinstance (a_c (q_v 0) (a_c (q_ty rfl n_ValueError rfl) a_nil)))))))) (b_one (s_ret q_str)) b_nil)
   (b_cons (s_if (t_ne (q_countB (q_v 1) (a_c q_bl a_nil)) q_int) (b_one (s_ret q_str)) b_nil)
   (b_one (s_ret (q_ixL (q_lst (a_c q_str (a_c q_str (a_c q_str (a_c q_str a_nil))))) (q_indexB (q_v 1) (a_c q_bl a_nil)))))))), ?_⟩
 rw [show start ["_law_e", "_law_kinds"] [.ref ea] = [some (.ref ea), none] from rfl]
 walk_at "rd"
 refine ⟨ea, C, _, _, _, rfl, he, wc.xk, rfl, wc.k0, ?_⟩
 walk_at "rd"
 refine ⟨ea, C, _, _, _, rfl, he, wc.xk, rfl, wc.k1, ?_⟩
 walk_at "rd"
 refine ⟨ea, C, _, _, _, rfl, he, wc.xk, rfl, wc.k2, ?_⟩
 walk_at "rd"
 refine ⟨ea, C, _, _, _, rfl, he, wc.xk, rfl, wc.k3, ?_⟩
 walk_at "rd"
 intro p H2 hp s2 e2 p1 H3 hp1 s3 e3
 have he3 := (s2.trans s3) _ _ he
 refine ⟨ea, C, p1, _, _, false, rfl, he3, wc.xk, e3, rfl, wc.no, _, rfl, ?_⟩
 rw [if_neg (by decide)]
 refine ⟨ea, C, _, _, true, rfl, he3, wc.xk, rfl, wc.ve, _, rfl, ?_⟩
 rw [if_neg (by decide)]
 have e3' := s3 _ _ e2
 refine ⟨⟨_, e3'⟩, p, [decide (j = 0), decide (j = 1), decide (j = 2), decide (j = 3)], rfl, rfl, e3', rfl, ?_⟩
 rw [show List.countP id [decide (j = 0), decide (j = 1), decide (j = 2), decide (j = 3)] = 1 by
  match j, hj with
  | 0, _ => rfl
  | 1, _ => rfl
  | 2, _ => rfl
  | 3, _ => rfl]
 rw [if_neg (fun z => z rfl)]
 intro p4 H4 hp4 s4 e4
 refine ⟨⟨_, s4 _ _ e3'⟩, p, [decide (j = 0), decide (j = 1), decide (j = 2), decide (j = 3)], j, rfl, rfl, s4 _ _ e3', by omega, ?_, ?_, ?_⟩
 ·match j, hj with
  | 0, _ => rfl
  | 1, _ => rfl
  | 2, _ => rfl
  | 3, _ => rfl
 ·intro m hm
  match j, hj, m, hm with
  | 1, _, 0, _ => rfl
  | 2, _, 0, _ => rfl
  | 2, _, 1, _ => rfl
  | 3, _, 0, _ => rfl
  | 3, _, 1, _ => rfl
  | 3, _, 2, _ => rfl
 ·refine ⟨_, _, rfl, e4, ?_⟩
  have q' := q H4 (s2.trans (s3.trans s4))
  match j, hj with
  | 0, _ => exact ⟨_, rfl, q'⟩
  | 1, _ => exact ⟨_, rfl, q'⟩
  | 2, _ => exact ⟨_, rfl, q'⟩
  | 3, _ => exact ⟨_, rfl, q'⟩
end
section
variable {P : Program} {w : World} {K : PySem.W.Frag} {mg : Str → Option Value} {base : Heap} {f : Addr} {fd : FuncData} {CT CS CNN CNP CNR CTM CND CNF CNS CNX CNT CSE : Addr}
def sp_got (K : PySem.W.Frag) (CS CT CNN CNP CNR CTM CND CNF CNS CNX CNT CSE : Addr) : Sp := fun vs H Q _ => ∃ (ex : List Addr) (a ps : Addr) (x : V) (n : Now) (past : List Now) (raw : Raw) (C : Addr) (j : Nat), vs = [.ref a, x] ∧ ShireV ex CS CT H a ps n.1 n.2 past ∧ RawV H x raw ∧ WordC K CNN CNP CNR CTM CND CNF CNS CNX CNT C j ∧ j < 4 ∧ PySem.W.exmOne K (.ref C) (.ref CSE) = some true ∧
 (∀ Q' E', Err E' C H → rawSp CS CT CNN CNP CNR CTM a H Q' E' raw) ∧ ∀ H', Same H H' → Q (.str (wordOf j)) H'
theorem ok_got (F : Fun K "_law_got" "_law_got" s_law_got f fd) (m_ShareError : mg "ShareError" = some (.ref CSE)) (F_law_do : Fn P w K mg base (CX1 P w) 10 "_law_do" ["_law_shire", "_law_deed"] (sp_doX CS CT CNN CNP CNR CTM)) (F_law_word : FnH P w K mg base 1 "_law_word" ["_law_e"] (sp_wordE K CNN CNP CNR CTM CND CNF CNS CNX CNT)) :
  FnOk P w K mg base CX0 11 f fd ["_law_shire", "_law_deed"] (sp_got K CS CT CNN CNP CNR CTM CND CNF CNS CNX CNT CSE) := by
 refine okQ F sc_law_got (fun vs H Q E h => ?_) (fun cdv A outer s H vs Q E hr h => ?_)
 ·obtain ⟨ex, a, ps, x, n, past, raw, C, j, rfl, _⟩ := h; rfl
 obtain ⟨ex, a, ps, x, n, past, raw, C, j, rfl, hS, hx, wc, hj, he, hraw, q⟩ := h
 refine ⟨_, (b_cons (s_try 2 body_nox sc_law_got.nd m_ShareError (sx_expr (x_fn body_nox F_law_do hr (by decide) rfl (a_c (q_v 0) (a_c (q_v 1) a_nil)))) (by exact fun ea => (b_one (s_ret (q_fnH F_law_word hr (by decide) rfl (a_c (q_v 2) a_nil))))))
   (b_one (s_ret q_str))), ?_⟩
 rw [show start ["_law_shire", "_law_deed", "_law_e"] [.ref a, x] = [some (.ref a), some (x), none] from rfl]
 walk_at "rd"
 refine ⟨ex, a, ps, x, n, past, raw, rfl, hS, hx, hraw _ _ fun H' s' => ⟨C, rfl, he, fun ea hn => ?_⟩⟩
 walk_at "rd"
 exact ⟨ea, C, j, rfl, upd_same, wc, hj, fun H'' s'' => q H'' (s'.trans ((same_new hn _).trans s''))⟩
end
section
variable {X : Cx} {a b c : Expr} {ta tb tc : TE} {pos : Pos}
def rNinX : R2 := fun x y H Q => ∃ (d : Nat) (z : Str), x = .str (one d) ∧ y = .str z ∧ Q (.bl (!decide (d ∈ z.cps.toList))) H
theorem op_ninX : OpR X (compareOp .NotIn) rNinX := by
 intro pins s σ H x y v u Q I rx ry h
 obtain ⟨d, z, rfl, rfl, q⟩ := h
 obtain ⟨t, rfl⟩ := rx
 obtain ⟨t', rfl⟩ := ry
 refine notIn_str (fin_bl I ?_ rfl)
 rw [show one d = ⟨#[d]⟩ from rfl, StrLaws.found_one]
 exact q
theorem t_ninX (ha : QE X a ta) (hb : QE X b tb) (hm : behindInMarks .NotIn b = false := by with_unfolding_all rfl) : QT X (.Compare a [.NotIn] [b] pos) (tTest (tOp rNinX ta tb)) := ⟨pt_cmpR op_ninX ha.h hb.h hm⟩
theorem t_ltLe (ha : QE X a ta) (hb : QE X b tb) (hc : QE X c tc) (hm : lastMarks [CmpOp.Lt, CmpOp.LtE] [b, c] = false := by with_unfolding_all rfl) : QT X (.Compare a [.Lt, .LtE] [b, c] pos) (tTest (tChain (rI0 fun i j => .bl (decide (i < j))) (rI0 fun i j => .bl (decide (i ≤ j))) ta tb tc)) := ⟨pt_chain op_lt op_le ha.h hb.h hc.h hm⟩
end
def PrTh (H : Hp) (y : V) : Prop := Thing H y ∧ ∀ t, RatV H y t → SzQ 2000 t
theorem th0_back {H H' : Hp} {p : Addr} {o : HO} (h : Th0 H (.ref p)) (s : Same H H') (e : H' p = some o) : H p = some o := by
 obtain ⟨t, h⟩ := h
 unfold kindV at h
 dsimp only at h
 cases z : H p with
 | none => rw [z] at h; cases h
 | some u =>
  have y := s _ _ z
  rw [e] at y
  exact y.symm
theorem PrTh.same {H H' : Hp} {y : V} (h : PrTh H y) (s : Same H H') : PrTh H' y := ⟨thing_same s h.1, fun t ⟨p, e, q⟩ => h.2 t ⟨p, e, th0_back (e ▸ h.1.1) s q⟩⟩
theorem prth_flat {H : Hp} {y : V} (h : Thing H y) (n : ∀ p, y ≠ .ref p) : PrTh H y := ⟨h, fun t ⟨p, e, _⟩ => absurd e (n p)⟩
theorem prth_lst {H : Hp} {p : Addr} {xs : List V} (e : H p = some (.lst xs)) : PrTh H (.ref p) := ⟨th_lst e, fun t ⟨p', e1, e2⟩ => by cases e1; rw [e] at e2; cases e2⟩
def smallV : V → Bool
 | .int i => decide (i.natAbs < 128)
 | .bl _ => true
 | _ => false
theorem prth_tup {H : Hp} {p : Addr} {xs : List V} (e : H p = some (.tup xs)) (h : xs.all smallV = true) : PrTh H (.ref p) := by
 have h' := List.all_eq_true.mp h
 refine ⟨th_tup e fun x hx => ?_, fun t ⟨p', e1, e2⟩ => ?_⟩
 ·have z := h' x hx
  cases x <;> first | exact ⟨_, rfl⟩ | cases z
 ·cases e1
  rw [e] at e2
  cases e2
  have z1 := h' (.int t.num) (by simp)
  have z2 := h' (.int (t.den : Int)) (by simp)
  have z1 : t.num.natAbs < 2 ^ 7 := of_decide_eq_true z1
  have z2 : (t.den : Int).natAbs < 2 ^ 7 := of_decide_eq_true z2
  have z3 : t.den < 2 ^ 7 := by simpa using z2
  exact ⟨Nat.lt_of_lt_of_le z1 (Nat.pow_le_pow_right (by decide) (by decide)), Nat.lt_of_lt_of_le z3 (Nat.pow_le_pow_right (by decide) (by decide))⟩
theorem prth_rat {H : Hp} {y : V} {t : Rat} (h : RatV H y t) (z : SzQ 2000 t) : PrTh H y := by
  obtain ⟨p, rfl, e⟩ := h
  refine ⟨th_pair e (th0_int _) (th0_int _), fun t' ⟨p', e1, e2⟩ => ?_⟩
  cases e1
  rw [e] at e2
  injection e2 with e2
  injection e2 with e2
  injection e2 with e3 e4
  injection e4 with e4 _
  injection e3 with e3
  injection e4 with e4
  exact ⟨e3 ▸ z.1, by have : t.den = t'.den := by exact Int.ofNat.inj e4
                      rw [← this]; exact z.2⟩
theorem keys_strsG {kvs : Kvs} (h : HG kvs) : ∃ ss : List Str, (kvs.map fun kv => kV kv.1) = ss.map V.str ∧ ss.length = kvs.length ∧ ∀ z ∈ ss, hasK kvs z ∧ NameOk z := by
 refine ⟨kvs.map fun kv => (match kv.1 with | Sum.inr z => z | Sum.inl _ => Str.empty), ?_, by simp, fun z hz => ?_⟩
 ·rw [List.map_map]
  refine List.map_congr_left fun kv hkv => ?_
  obtain ⟨z, k, rfl, _⟩ := h.2.2 kv hkv
  rfl
 ·obtain ⟨kv, hkv, rfl⟩ := List.mem_map.mp hz
  obtain ⟨z, k, rfl, hn⟩ := h.2.2 kv hkv
  refine ⟨?_, hn⟩
  unfold hasK
  rw [← valV_any]
  exact List.any_eq_true.mpr ⟨_, hkv, by simp⟩
theorem NameOk.asc {z : Str} (h : NameOk z) : AscT z := ⟨by have := h.2.1; omega, fun d hd => by have := h.2.2 d hd; omega⟩
def badNames : List Str := ["", "abcdefghi", "A", "a1", "a b", "bB", " a", "village ", "z.", "0"]
theorem bad_asc : ∀ z ∈ badNames, z.length ≤ 100 ∧ ∀ d ∈ z.cps.toList, d < 128 := by decide +kernel
theorem atI_map {α : Type} {xs : List α} {g : α → V} {i : Int} (h0 : 0 ≤ i) (h1 : i < (xs.length : Int)) : ∃ a, a ∈ xs ∧ atI (xs.map g) i = some (g a) := by
 have hk : i.toNat < xs.length := by omega
 refine ⟨xs[i.toNat], List.getElem_mem hk, ?_⟩
 have e : i = ((i.toNat : Nat) : Int) := by omega
 conv => lhs; rw [e]
 exact atI_nat (by rw [List.getElem?_map, List.getElem?_eq_getElem hk]; rfl)
theorem abc_mem {d : Nat} : d ∈ (Str.ofString "abcdefghijklmnopqrstuvwxyz").cps.toList ↔ 97 ≤ d ∧ d ≤ 122 := by
 have key : ∀ d ∈ (Str.ofString "abcdefghijklmnopqrstuvwxyz").cps.toList, 97 ≤ d ∧ d ≤ 122 := by decide +kernel
 have key2 : ∀ k : Nat, k < 26 → 97 + k ∈ (Str.ofString "abcdefghijklmnopqrstuvwxyz").cps.toList := by decide +kernel
 refine ⟨key d, fun h => ?_⟩
 have := key2 (d - 97) (by omega)
 rwa [show 97 + (d - 97) = d by omega] at this
section
variable {P : Program} {w : World} {K : PySem.W.Frag} {mg : Str → Option Value} {base : Heap} {f : Addr} {fd : FuncData} {CT CS : Addr}
def sp_badName : Sp := fun vs H Q _ => ∃ (v : Int) (d : Addr) (kvs : Kvs), vs = [.int v, .ref d] ∧ 0 ≤ v ∧ H d = some (.dK kvs) ∧ HG kvs ∧ ∀ z H', Same H H' → AscT z → Q (.str z) H'
theorem ok_badName (F : Fun K "_law_bad_name" "_law_bad_name" s_law_bad_name f fd) (n_sorted : mg "sorted" = none) (n_len : mg "len" = none) : FnOk P w K mg base CX0 1 f fd ["_law_v", "_law_homes"] sp_badName := by
 refine okQ F sc_law_bad_name (fun vs H Q E h => ?_) (fun cdv A outer s H vs Q E hr h => ?_)
 ·obtain ⟨v, d, kvs, rfl, _⟩ := h; rfl
 obtain ⟨v, d, kvs, rfl, hv, hd, hH, q⟩ := h
 refine ⟨_, (b_cons (s_set 2 sc_law_bad_name.nd (q_lst (a_c q_str (a_c q_str (a_c q_str (a_c q_str (a_c q_str (a_c q_str (a_c q_str (a_c q_str (a_c q_str (a_c q_str a_nil))))))))))))
   (b_cons (s_set 3 sc_law_bad_name.nd (q_sortD rfl n_sorted (a_c (q_v 1) a_nil)))
   (b_cons (s_if (t_w (w_and (t_eq (q_mod (q_v 0) q_int) q_int) (w_and1 (t_neD hr (q_v 3) (q_lst a_nil))))) (b_one (s_ret (q_ixL (q_v 3) (q_mod (q_fdiv (q_v 0) q_int) (q_len rfl n_len (a_c (q_v 3) a_nil)))))) b_nil)
   (b_one (s_ret (q_ixL (q_v 2) (q_mod (q_fdiv (q_v 0) q_int) q_int))))))), ?_⟩
 rw [show start ["_law_v", "_law_homes", "_law_some", "_law_names"] [.int v, .ref d] = [some (.int v), some (.ref d), none, none] from rfl]
 obtain ⟨ss, ess, hsl, hkey⟩ := keys_strsG hH
 have hk := hH.2.1
 refine seq_go fun B hB => ?_
 walk_at "rd"
 intro p1 H1 hp1 s1 e1
 subst hB
 try dsimp only
 refine seq_go fun B hB => ?_
 walk_at "rd"
 refine ⟨kvs, .inl (s1 _ _ hd), ss, ess, by omega, fun l H2 ts hl s2 e2 _ hperm => ?_⟩
 subst hB
 try dsimp only
 have last : ∀ H3, Same H2 H3 → ∃ a, atI (badNames.map V.str) (v / 3 % 10) = some (.str a) ∧ Q (.str a) H3 := fun H3 s3 => by
  obtain ⟨a, ha, e⟩ := atI_map (g := V.str) (xs := badNames) (i := v / 3 % 10) (by omega) (by show _ < (10 : Int); omega)
  exact ⟨a, e, q a H3 (s1.trans (s2.trans s3)) (bad_asc a ha)⟩
 refine seq_go fun B hB => ?_
 refine if_go fun A1 hA1 C1 hC1 => ?_
 have kC : ∀ H3, Same H2 H3 → C1 [some (V.int v), some (V.ref d), some (V.ref p1), some (V.ref l)] H3 := by
  intro H3 s3
  subst hC1
  refine next_go ?_
  subst hB
  try dsimp only
  walk_at "rd"
  obtain ⟨a, e, qa⟩ := last H3 s3
  exact ⟨_, (s2.trans s3) _ _ e1, _, e, qa⟩
 walk_at "rd"
 refine ite2 (fun c => ?_) (fun c => kC _ fun _ _ e => e)
 intro p2 H3 hp2 s3 e3
 refine ⟨decide ((ts.map V.str).length = 0), 1, l, p2, rfl, rfl, eqd_nilV (s3 _ _ e2) e3, by decide, _, rfl, ?_⟩
 by_cases c2 : ts.length = 0
 ·rw [show decide ((ts.map V.str).length = 0) = true by simpa using c2, if_neg (by decide)]
  exact kC _ s3
 rw [show decide ((ts.map V.str).length = 0) = false by simpa using c2, if_pos (by decide)]
 subst hA1
 try dsimp only
 walk_at "rd"
 refine ⟨_, .inl (s3 _ _ e2), ?_⟩
 rw [List.length_map]
 have htl : ts.length = kvs.length := by rw [hperm.length_eq, hsl]
 refine ⟨by omega, _, s3 _ _ e2, ?_⟩
 obtain ⟨a, ha, e⟩ := atI_map (g := V.str) (xs := ts) (i := v / 3 % (ts.length : Int)) (Int.emod_nonneg _ (by omega)) (Int.emod_lt_of_pos _ (by omega))
 exact ⟨_, e, q a H3 (s1.trans (s2.trans s3)) (hkey a (hperm.mem_iff.mp ha)).2.asc⟩
def sp_badPrice : Sp := fun vs H Q _ => ∃ (v : Int) (y : V), vs = [.int v, y] ∧ 0 ≤ v ∧ (y = .non ∨ ∃ t, RatV H y t ∧ SzQ 98 t ∧ 0 ≤ t.num) ∧ ∀ y' H', Same H H' → PrTh H' y' → Q y' H'
theorem ok_badPrice (F : Fun K "_law_bad_price" "_law_bad_price" s_law_bad_price f fd) (F_law_low : Fn P w K mg base CX0 2 "_law_low" ["_law_top", "_law_bottom"] sp_lowQ) : FnOk P w K mg base CX0 3 f fd ["_law_v", "_law_whole_here"] sp_badPrice := by
 refine okQ F sc_law_bad_price (fun vs H Q E h => ?_) (fun cdv A outer s H vs Q E hr h => ?_)
 ·obtain ⟨v, y, rfl, _⟩ := h; rfl
 obtain ⟨v, y, rfl, hv, hy, q⟩ := h
 refine ⟨_, (b_cons (s_set 2 sc_law_bad_price.nd (q_lst (a_c (q_tup (a_c (q_neg q_int) (a_c q_int a_nil))) (a_c (q_tup (a_c q_int (a_c q_int a_nil))) (a_c (q_tup (a_c q_int (a_c q_int a_nil))) (a_c q_int (a_c q_non (a_c q_str (a_c (q_lst (a_c q_int (a_c q_int a_nil))) (a_c (q_tup (a_c q_int (a_c q_int (a_c q_int a_nil)))) (a_c (q_tup (a_c q_int a_nil)) (a_c (q_tup (a_c q_bl (a_c q_int a_nil))) (a_c (q_tup (a_c q_int (a_c q_bl a_nil))) (a_c (q_tup (a_c q_int (a_c (q_neg q_int) a_nil))) (a_c q_bl (a_c (q_tup (a_c q_int (a_c q_int a_nil))) a_nil))))))))))))))))
   (b_cons (s_if (t_w (w_and (t_eq (q_mod (q_v 0) q_int) q_int) (w_and1 (t_notN (q_v 1) q_non)))) (b_one (s_ret (q_fn F_law_low hr (by decide) rfl (a_c (q_add (q_mul (q_ixT (q_v 1) q_int) q_int) (q_ixT (q_v 1) q_int)) (a_c (q_mul (q_ixT (q_v 1) q_int) q_int) a_nil))))) b_nil)
   (b_one (s_ret (q_ixL (q_v 2) (q_mod (q_fdiv (q_v 0) q_int) q_int)))))), ?_⟩
 rw [show start ["_law_v", "_law_whole_here", "_law_some"] [.int v, y] = [some (.int v), some (y), none] from rfl]
 refine seq_go fun B hB => ?_
 walk_at "rd"
 intro p1 H1 hp1 s1 e1 p2 H2 hp2 s2 e2 p3 H3 hp3 s3 e3 p4 H4 hp4 s4 e4 p5 H5 hp5 s5 e5 p6 H6 hp6 s6 e6 p7 H7 hp7 s7 e7 p8 H8 hp8 s8 e8 p9 H9 hp9 s9 e9 p10 H10 hp10 s10 e10 p11 H11 hp11 s11 e11
 have k10 := s11
 have k9 := s10.trans k10
 have k8 := s9.trans k9
 have k7 := s8.trans k8
 have k6 := s7.trans k7
 have k5 := s6.trans k6
 have k4 := s5.trans k5
 have k3 := s4.trans k4
 have k2 := s3.trans k3
 have k1 := s2.trans k2
 have k0 := s1.trans k1
 have all : ∀ y' ∈ [V.ref p1, V.ref p2, V.ref p3, V.int 3, V.non, V.str (Str.ofString "1"), V.ref p4, V.ref p5, V.ref p6, V.ref p7, V.ref p8, V.ref p9, V.bl true, V.ref p10], PrTh H11 y' := by
  intro y' hy'
  simp only [List.mem_cons, List.not_mem_nil, or_false] at hy'
  rcases hy' with rfl | rfl | rfl | rfl | rfl | rfl | rfl | rfl | rfl | rfl | rfl | rfl | rfl | rfl
  ·exact prth_tup (k1 _ _ e1) rfl
  ·exact prth_tup (k2 _ _ e2) rfl
  ·exact prth_tup (k3 _ _ e3) rfl
  ·exact prth_flat (th_int _) fun _ z => nomatch z
  ·exact prth_flat th_non fun _ z => nomatch z
  ·exact prth_flat (th_str _) fun _ z => nomatch z
  ·exact prth_lst (k4 _ _ e4)
  ·exact prth_tup (k5 _ _ e5) rfl
  ·exact prth_tup (k6 _ _ e6) rfl
  ·exact prth_tup (k7 _ _ e7) rfl
  ·exact prth_tup (k8 _ _ e8) rfl
  ·exact prth_tup (k9 _ _ e9) rfl
  ·exact prth_flat (th_bl _) fun _ z => nomatch z
  ·exact prth_tup (k10 _ _ e10) rfl
 subst hB
 try dsimp only
 refine seq_go fun B hB => ?_
 refine if_go fun A1 hA1 C1 hC1 => ?_
 have kC : C1 [some (V.int v), some y, some (V.ref p11)] H11 := by
  subst hC1
  refine next_go ?_
  subst hB
  try dsimp only
  walk_at "rd"
  obtain ⟨y', e, hm⟩ := atI_mem (i := v / 4 % 14) (xs := [V.ref p1, V.ref p2, V.ref p3, V.int 3, V.non, V.str (Str.ofString "1"), V.ref p4, V.ref p5, V.ref p6, V.ref p7, V.ref p8, V.ref p9, V.bl true, V.ref p10]) (by omega) (by show _ < (14 : Int); omega)
  exact ⟨_, e11, _, e, q y' _ k0 (all y' hm)⟩
 walk_at "rd"
 refine ite2 (fun c => ?_) (fun c => kC)
 rcases hy with rfl | ⟨t, hy, zt, nt⟩
 ·rw [if_neg (by decide)]
  exact kC
 obtain ⟨yp, rfl, hyp⟩ := hy
 rw [if_pos (by intro z; cases z)]
 subst hA1
 try dsimp only
 walk_at "rd"
 have hyp' := k0 _ _ hyp
 have hdp := t.den_pos
 refine ⟨_, hyp', _, rfl, _, rfl, _, hyp', _, rfl, _, rfl, _, hyp', _, rfl, _, rfl, ?_⟩
 have h1 := zt.1
 have h2 := zt.2
 have e2 : (2 : Nat) ^ 98 = 316912650057057350374175801344 := by decide
 rw [e2] at h1 h2
 have e110 : (2 : Nat) ^ 110 = 1298074214633706907132624082305024 := by decide
 refine ⟨_, _, rfl, Big.of (n := 110) (by rw [e110]; omega) (by decide), by omega, fun r Hf sf hrf => q r Hf (k0.trans sf) (prth_rat hrf ((SzQ.of (n := 110) (by omega) ?_ ?_).mono (by decide)))⟩
 ·rw [e110]; omega
 ·rw [e110]; omega
theorem ok_lawPrice (F : Fun K "_law_is_price" "_law_is_price" s_law_is_price f fd) (n_isinstance : mg "isinstance" = none) (n_tuple : mg "tuple" = none) (n_len : mg "len" = none) (F_law_whole : Fn P w K mg base CX0 1 "_law_whole" ["_law_found"] sp_whole) (F_law_divisor : Fn P w K mg base CX0 1 "_law_divisor" ["_law_one", "_law_other"] sp_gcd) : FnOk P w K mg base CX0 2 f fd ["_law_price"] sp_isprice := by
 refine okQ F sc_law_is_price (fun vs H Q E h => ?_) (fun cdv A outer s H vs Q E hr h => ?_)
 ·obtain ⟨x, rfl, _⟩ := h; rfl
 obtain ⟨x, rfl, hx, q⟩ := h
 refine ⟨_, (b_cons (s_if (t_w (w_or (t_not (t_val (q_inst rfl n_isinstance (a_c (q_v 0) (a_c (q_ty rfl n_tuple rfl) a_nil))))) (w_or (t_ne (q_len rfl n_len (a_c (q_v 0) a_nil)) q_int) (w_or (t_not (t_val (q_fn F_law_whole hr (by decide) rfl (a_c (q_ixT (q_v 0) q_int) a_nil)))) (w_or1 (t_not (t_val (q_fn F_law_whole hr (by decide) rfl (a_c (q_ixT (q_v 0) q_int) a_nil))))))))) (b_one (s_ret q_bl)) b_nil)
   (b_one (s_ret (q_and (q_ge (q_ixT (q_v 0) q_int) q_int) (q_and (q_gt (q_ixT (q_v 0) q_int) q_int) (q_one (q_eq (q_fn F_law_divisor hr (by decide) rfl (a_c (q_ixT (q_v 0) q_int) (a_c (q_ixT (q_v 0) q_int) a_nil))) q_int))))))), ?_⟩
 rw [show start ["_law_price"] [x] = [some (x)] from rfl]
 have no : (∀ a t b, x = .ref a → H a = some (.tup [.int t, .int b]) → 1 ≤ b → Int.gcd t b = 1 → 0 ≤ t → False) → Q (.bl false) H := fun z => q false ⟨fun y => (nomatch y), fun ⟨a, t, b, e1, e2, e3, e4, e5⟩ => (z a t b e1 e2 e3 e4 e5).elim⟩
 rcases thing_cases hx with ⟨a, u, v, rfl, ha, hu, hv⟩ | ⟨a, xs, rfl, ha, hl, hf⟩ | ⟨t, ht, hn, hf⟩
 ·walk_at "rd"
  simp only [kind_tup ha, ha, sp_whole, sp_gcd]
  walk_at "rd"
  rw [if_neg (by decide)]
  refine ⟨hu, ?_⟩
  rcases w_or_int u with w1 | ⟨i, rfl⟩
  ·rw [if_pos w1]
   exact no fun a' t b e1 e2 => by cases e1; rw [ha] at e2; cases e2; cases w1
  rw [if_neg (by simp [isW])]
  refine ⟨hv, ?_⟩
  rcases w_or_int v with w2 | ⟨j, rfl⟩
  ·rw [if_pos w2]
   exact no fun a' t b e1 e2 => by cases e1; rw [ha] at e2; cases e2; cases w2
  rw [if_neg (by simp [isW])]
  walk_at "rd"
  refine ite2 (fun c1 => ?_) (fun c1 => no fun a' t b e1 e2 _ _ h => ?_)
  ·refine ite2 (fun c2 => q _ ?_) (fun c2 => no fun a' t b e1 e2 h _ _ => ?_)
   ·rw [decide_eq_true_eq]
    exact ⟨fun h => ⟨a, i, j, rfl, ha, by omega, by omega, c1⟩, fun ⟨a', t', b', e1, e2, _, h, _⟩ => by cases e1; rw [ha] at e2; cases e2; omega⟩
   ·cases e1; rw [ha] at e2; cases e2; omega
  ·cases e1; rw [ha] at e2; cases e2; omega
 ·walk_at "rd"
  simp only [kind_tup ha, ha]
  walk_at "rd"
  rw [if_pos (by omega)]
  exact no fun a' t b e1 e2 => by cases e1; rw [ha] at e2; cases e2; exact absurd rfl hl
 ·walk_at "rd"
  simp only [ht]
  walk_at "rd"
  rw [if_pos hn]
  refine no fun a' t' b e1 e2 => ?_
  subst e1
  rw [kind_tup e2] at ht
  cases ht
  exact absurd hn (by decide)
def sp_lawName : Sp := fun vs H Q _ => ∃ z : Str, vs = [.str z] ∧ AscT z ∧ ∀ H' b, Same H H' → (b = true ↔ NameOk z) → Q (.bl b) H'
theorem ok_lawName (F : Fun K "_law_is_name" "_law_is_name" s_law_is_name f fd) (n_len : mg "len" = none) : FnOk P w K mg base CX0 1 f fd ["_law_name_here"] sp_lawName := by
 refine okQ F sc_law_is_name (fun vs H Q E h => ?_) (fun cdv A outer s H vs Q E hr h => ?_)
 ·obtain ⟨z, rfl, _⟩ := h; rfl
 obtain ⟨z, rfl, ⟨hl, hz⟩, q⟩ := h
 refine ⟨_, (b_cons (s_if (t_w (w_or (t_eq (q_v 0) q_str) (w_or1 (t_gt (q_lenX rfl n_len (a_c (q_v 0) a_nil)) q_int)))) (b_one (s_ret q_bl)) b_nil)
   (b_one (s_ret (q_eq (q_len rfl n_len (a_c (q_compT (blk0 ["_law_sign"]) (i_txt (q_v 0)) (by exact fun s H fp => (g_name 0 (show List.Nodup (["_law_sign"] : List Str) from by decide +kernel))) (by exact fun s H fp => ts_one (t_ninX (q_v 0) q_str)) (by exact fun s H fp => (q_v 0))) a_nil)) q_int)))), ?_⟩
 rw [show start ["_law_name_here"] [.str z] = [some (.str z)] from rfl]
 refine seq_go fun B hB => ?_
 walk_at "rd"
 have fals : ¬ NameOk z → Q (.bl false) H := fun h => q H false (fun _ _ e => e) ⟨fun y => (nomatch y), fun y => absurd y h⟩
 refine ite2 (fun c => fals fun y => ?_) (fun c => ⟨big_le (by omega), ite2 (fun c2 => fals fun y => ?_) (fun c2 => ?_)⟩)
 ·subst c
  exact absurd y.1 (by decide)
 ·have := y.2.1
  omega
 have c0 : z.length ≠ 0 := fun y => c (by
  obtain ⟨cs⟩ := z
  have : cs.size = 0 := y
  rw [Array.eq_empty_of_size_eq_zero this]
  rfl)
 subst hB
 try dsimp only
 simp only [tRet, tCB, tCons, tCompT, iTxt, tOp]
 walk_at "rd"
 refine ⟨fun d hd => by have := hz d hd; omega, ?_⟩
 rw [show capOf [some (V.str z)] [] = [] from rfl]
 refine blk_text (fun acc i ys H' => Same H H' ∧ H' acc = some (.lst ys) ∧ ys.length ≤ i ∧ i ≤ z.cps.toList.length ∧ (ys.length = 0 ↔ ∀ d ∈ z.cps.toList.take i, 97 ≤ d ∧ d ≤ 122)) (fun acc H2 hn sm e => ⟨sm, e, Nat.le_refl _, Nat.zero_le _, by simp⟩)
  (fun acc i ys H2 hn ⟨sm, e, e2, hi, _⟩ => ⟨e, by rw [len_cl] at hi; omega⟩) (fun acc i d ys H2 os hn hi hP ol => ?_) (fun acc ys H2 hn hP => ?_)
 ·obtain ⟨o, rfl⟩ : ∃ o, os = [o] := List.length_eq_one_iff.mp ol
  obtain ⟨sm, e, e2, e3, e4⟩ := hP
  have hil := (List.getElem?_eq_some_iff.mp hi).1
  have tk : z.cps.toList.take (i + 1) = z.cps.toList.take i ++ [d] := by rw [List.take_add_one, hi]; rfl
  have key : ∀ d ∈ (Str.ofString "abcdefghijklmnopqrstuvwxyz").cps.toList, 97 ≤ d ∧ d ≤ 122 := by decide +kernel
  walk_at "rd"
  refine ⟨[_], rfl, rfl, d, _, rfl, rfl, _, rfl, ?_⟩
  have hrest : ∀ u ∈ [d], (97 ≤ u ∧ u ≤ 122 ↔ d ∈ (Str.ofString "abcdefghijklmnopqrstuvwxyz").cps.toList) := fun u hu => by rw [List.mem_singleton.mp hu]; exact abc_mem.symm
  by_cases c3 : d ∈ (Str.ofString "abcdefghijklmnopqrstuvwxyz").cps.toList
  ·rw [decide_eq_true c3, if_neg (by decide)]
   refine ⟨sm, e, by omega, hil, e4.trans ⟨fun h u hu => ?_, fun h u hu => h u (by rw [tk]; simp [hu])⟩⟩
   rw [tk] at hu
   rcases List.mem_append.mp hu with h1 | h1
   ·exact h u h1
   ·exact (hrest u h1).mpr c3
  ·rw [decide_eq_false c3, if_pos (by decide)]
   refine ⟨e, same_upd hn sm, upd_same, by simp; omega, hil, ⟨fun h => by simp at h, fun h => ?_⟩⟩
   exact absurd ((hrest d (List.mem_singleton.mpr rfl)).mp (h d (by rw [tk]; simp))) c3
 ·obtain ⟨sm, e, e2, e3, e4⟩ := hP
  rw [List.take_length] at e4
  refine ⟨acc, rfl, _, .inl e, q _ _ sm ?_⟩
  rw [decide_eq_true_eq]
  exact ⟨fun h => ⟨by omega, by omega, e4.mp (by omega)⟩, fun h => by have := e4.mpr h.2.2; omega⟩
end
def RawOk (H : Hp) : Raw → Prop
 | .come z _ => AscT z
 | .go z => AscT z
 | .move z _ => AscT z
 | .reprice _ y => PrTh H y
 | .build _ y => PrTh H y
 | .cut _ y => PrTh H y
theorem RawV.same {H H' : Hp} {x : V} {r : Raw} (h : RawV H x r) (s : Same H H') : RawV H' x r := by
 cases r <;> (obtain ⟨p, e, h1⟩ := h; exact ⟨p, e, s _ _ h1⟩)
theorem RawOk.same {H H' : Hp} {r : Raw} (h : RawOk H r) (s : Same H H') : RawOk H' r := by
 cases r <;> first | exact h | exact PrTh.same h s
theorem at_ints {xs : List V} {i : Int} (h0 : 0 ≤ i) (h1 : i < (xs.length : Int)) (h : ∀ x ∈ xs, ∃ k, x = V.int k) : ∃ k, atI xs i = some (.int k) := by
 obtain ⟨v, e, hm⟩ := atI_mem h0 h1
 obtain ⟨k, rfl⟩ := h v hm
 exact ⟨k, e⟩
theorem at_ascs {ss : List Str} {i : Int} (h0 : 0 ≤ i) (h1 : i < (ss.length : Int)) (h : ∀ z ∈ ss, AscT z) : ∃ z, atI (ss.map V.str) i = some (.str z) ∧ AscT z := by
 obtain ⟨a, ha, e⟩ := atI_map (g := V.str) h0 h1
 exact ⟨a, e, h a ha⟩
theorem asc_zs : ∀ z ∈ ["zzzzzzzz", "", "A", "qqqqqqqq", "B", "newcomer"].map Str.ofString, z.length ≤ 100 ∧ ∀ d ∈ z.cps.toList, d < 128 := by decide +kernel
section
variable {P : Program} {w : World} {K : PySem.W.Frag} {mg : Str → Option Value} {base : Heap} {f : Addr} {fd : FuncData} {CT CS : Addr}
def sp_faulty : Sp := fun vs H Q _ => ∃ (pv p d : Addr) (xs : List Int) (rx : List V) (n : Now), vs = [.ref pv, .ref p, .ref d] ∧ H pv = some (.lst (xs.map V.int)) ∧ xs.length = 6 ∧ (∀ x ∈ xs, 0 ≤ x ∧ x < 99989) ∧ H p = some (.lst rx) ∧ RoadsV H rx n.1 ∧ H d = some (.dK n.2) ∧ NowG n ∧
 ∀ x raw H', Same H H' → RawV H' x raw → RawOk H' raw → Q x H'
theorem ok_faulty (F : Fun K "_law_faulty" "_law_faulty" s_law_faulty f fd) (n_sorted : mg "sorted" = none) (n_len : mg "len" = none) (n_max : mg "max" = none) (n_int : mg "int" = none) (F_law_bad_name : Fn P w K mg base CX0 1 "_law_bad_name" ["_law_v", "_law_homes"] sp_badName) (F_law_bad_price : Fn P w K mg base CX0 3 "_law_bad_price" ["_law_v", "_law_whole_here"] sp_badPrice) : FnOk P w K mg base CX0 4 f fd ["_law_v", "_law_roads", "_law_homes"] sp_faulty := by
 refine okQ F sc_law_faulty (fun vs H Q E h => ?_) (fun cdv A outer s H vs Q E hr h => ?_)
 ·obtain ⟨pv, p, d, xs, rx, n, rfl, _⟩ := h; rfl
 obtain ⟨pv, p, d, xs, rx, n, rfl, hpv, hxl, hxb, hp, hR, hd, hN, q⟩ := h
 have at_ : ∀ {j : Nat} (h : j < xs.length), atI (xs.map V.int) (j : Int) = some (.int xs[j]) := fun {j} h => atI_nat (by rw [List.getElem?_map, List.getElem?_eq_getElem h]; rfl)
 have b0 := hxb xs[0] (List.getElem_mem (by omega))
 have b1 := hxb xs[1] (List.getElem_mem (by omega))
 have b2 := hxb xs[2] (List.getElem_mem (by omega))
 have b3 := hxb xs[3] (List.getElem_mem (by omega))
 have b4 := hxb xs[4] (List.getElem_mem (by omega))
 have b5 := hxb xs[5] (List.getElem_mem (by omega))
 have a0 := at_ (j := 0) (by omega)
 have a1 := at_ (j := 1) (by omega)
 have a2 := at_ (j := 2) (by omega)
 have a3 := at_ (j := 3) (by omega)
 have a4 := at_ (j := 4) (by omega)
 have a5 := at_ (j := 5) (by omega)
 generalize xs[0] = x0 at b0 a0
 generalize xs[1] = x1 at b1 a1
 generalize xs[2] = x2 at b2 a2
 generalize xs[3] = x3 at b3 a3
 generalize xs[4] = x4 at b4 a4
 generalize xs[5] = x5 at b5 a5
 refine ⟨_, (b_cons (s_set 3 sc_law_faulty.nd (q_len rfl n_len (a_c (q_v 1) a_nil)))
   (b_cons (s_set 4 sc_law_faulty.nd (q_ixL (q_lst (a_c (q_add (q_v 3) q_int) (a_c (q_neg q_int) (a_c (q_add (q_add (q_v 3) q_int) (q_mod (q_ixL (q_v 0) q_int) q_int)) (a_c (q_sub (q_sub q_int (q_mod (q_ixL (q_v 0) q_int) q_int)) q_int) a_nil))))) (q_mod (q_ixL (q_v 0) q_int) q_int)))
   (b_cons (s_set 5 sc_law_faulty.nd (q_ixL (q_lst (a_c (q_mod (q_ixL (q_v 0) q_int) (q_add (q_v 3) q_int)) (a_c (q_v 4) a_nil))) (q_mod (q_ixL (q_v 0) q_int) q_int)))
   (b_cons (s_set 6 sc_law_faulty.nd (q_ixL (q_lst (a_c (q_add q_int (q_mod (q_ixL (q_v 0) q_int) (q_max rfl n_max (a_c q_int (a_c (q_v 3) a_nil))))) (a_c (q_ixL (q_lst (a_c q_int (a_c (q_v 4) a_nil))) (q_mod (q_ixL (q_v 0) q_int) q_int)) a_nil))) (q_mod (q_ixL (q_v 0) q_int) q_int)))
   (b_cons (s_set 7 sc_law_faulty.nd q_non)
   (b_cons (s_if (t_ltLe q_int (q_v 6) (q_v 3)) (b_one (s_set 7 sc_law_faulty.nd (q_ixT (q_ixL (q_v 1) (q_sub (q_v 6) q_int)) q_int))) b_nil)
   (b_cons (s_set 8 sc_law_faulty.nd (q_fn F_law_bad_price hr (by decide) rfl (a_c (q_ixL (q_v 0) q_int) (a_c q_non a_nil))))
   (b_cons (s_if (t_eq (q_mod (q_ixL (q_v 0) q_int) q_int) q_int) (b_one (s_set 8 sc_law_faulty.nd (q_tup (a_c q_int (a_c q_int a_nil))))) b_nil)
   (b_cons (s_if (t_eq (q_mod (q_ixL (q_v 0) q_int) q_int) q_int) (b_one (s_ret (q_tup (a_c q_str (a_c (q_ixL (q_lst (a_c (q_fn F_law_bad_name hr (by decide) rfl (a_c (q_ixL (q_v 0) q_int) (a_c (q_v 2) a_nil))) (a_c q_str a_nil))) (q_int1 rfl n_int (a_c (q_eq (q_mod (q_ixL (q_v 0) q_int) q_int) q_int) a_nil))) (a_c (q_v 5) a_nil)))))) b_nil)
   (b_cons (s_if (t_eq (q_mod (q_ixL (q_v 0) q_int) q_int) q_int) (b_one (s_ret (q_tup (a_c q_str (a_c (q_ixL (q_lst (a_c q_str (a_c q_str (a_c q_str (a_c q_str a_nil))))) (q_mod (q_ixL (q_v 0) q_int) q_int)) a_nil))))) b_nil)
   (b_cons (s_if (t_eq (q_mod (q_ixL (q_v 0) q_int) q_int) q_int) (b_one (s_ret (q_tup (a_c q_str (a_c (q_ixL (q_cat (q_sortD rfl n_sorted (a_c (q_v 2) a_nil)) (q_lst (a_c q_str (a_c q_str (a_c q_str a_nil))))) (q_mod (q_ixL (q_v 0) q_int) (q_add (q_lenD rfl n_len (a_c (q_v 2) a_nil)) q_int))) (a_c (q_v 4) a_nil)))))) b_nil)
   (b_cons (s_if (t_eq (q_mod (q_ixL (q_v 0) q_int) q_int) q_int) (b_one (s_ret (q_tup (a_c q_str (a_c (q_v 6) (a_c (q_v 8) a_nil)))))) b_nil)
   (b_cons (s_if (t_eq (q_mod (q_ixL (q_v 0) q_int) q_int) q_int) (b_cons (s_if (t_eq (q_mod (q_ixL (q_v 0) q_int) q_int) q_int) (b_one (s_set 8 sc_law_faulty.nd (q_fn F_law_bad_price hr (by decide) rfl (a_c (q_ixL (q_v 0) q_int) (a_c (q_v 7) a_nil))))) b_nil)
   (b_cons (s_if (t_eq (q_mod (q_ixL (q_v 0) q_int) q_int) q_int) (b_one (s_set 8 sc_law_faulty.nd (q_tup (a_c q_int (a_c q_int a_nil))))) b_nil)
   (b_one (s_ret (q_tup (a_c q_str (a_c (q_v 6) (a_c (q_v 8) a_nil)))))))) b_nil)
   (b_one (s_ret (q_tup (a_c q_str (a_c (q_v 5) (a_c (q_v 8) a_nil))))))))))))))))))), ?_⟩
 rw [show start ["_law_v", "_law_roads", "_law_homes", "_law_many", "_law_far", "_law_place", "_law_road", "_law_whole_here", "_law_price"] [.ref pv, .ref p, .ref d] = [some (.ref pv), some (.ref p), some (.ref d), none, none, none, none, none, none] from rfl]
 have hrl := hR.1
 refine seq_go fun B hB => ?_
 walk_at "rd"
 refine ⟨_, .inl hp, ?_⟩
 rw [hrl]
 subst hB
 try dsimp only
 refine seq_go fun B hB => ?_
 walk_at "rd"
 refine ⟨_, hpv, _, a1, _, rfl, _, hpv, _, a1, _, rfl, fun l1 H1 hl1 s1 e1 => ⟨_, s1 _ _ hpv, _, a1, _, rfl, _, e1, ?_⟩⟩
 obtain ⟨far, efar⟩ := at_ints (xs := [V.int ((n.1.length : Int) + 1), V.int (-1), V.int ((n.1.length : Int) + 1 + x1 % 1000), V.int (0 - x1 % 1000 - 1)]) (i := x1 % 4) (by omega) (by show _ < (4 : Int); omega) (by simp)
 refine ⟨_, efar, ?_⟩
 clear efar e1 hl1
 subst hB
 try dsimp only
 refine seq_go fun B hB => ?_
 walk_at "rd"
 refine ⟨_, s1 _ _ hpv, _, a2, _, rfl, by omega, fun l2 H2 hl2 s2 e2 => ⟨_, (s1.trans s2) _ _ hpv, _, a3, _, rfl, _, e2, ?_⟩⟩
 have s12 := s1.trans s2
 obtain ⟨pl, epl⟩ := at_ints (xs := [V.int (x2 % ((n.1.length : Int) + 1)), V.int far]) (i := x3 % 2) (by omega) (by show _ < (2 : Int); omega) (by simp)
 refine ⟨_, epl, ?_⟩
 clear epl e2 hl2
 subst hB
 try dsimp only
 refine seq_go fun B hB => ?_
 walk_at "rd"
 refine ⟨_, s12 _ _ hpv, _, a2, _, rfl, by split <;> omega, fun l3 H3 hl3 s3 e3 => ⟨_, (s12.trans s3) _ _ hpv, _, a1, _, rfl, _, e3, ?_⟩⟩
 have s13 := s12.trans s3
 obtain ⟨u, eu⟩ := at_ints (xs := [V.int 0, V.int far]) (i := x1 % 2) (by omega) (by show _ < (2 : Int); omega) (by simp)
 refine ⟨_, eu, fun l4 H4 hl4 s4 e4 => ⟨_, (s13.trans s4) _ _ hpv, _, a3, _, rfl, _, e4, ?_⟩⟩
 have s14 := s13.trans s4
 obtain ⟨rd, erd⟩ := at_ints (xs := [V.int (1 + x2 % if 1 < (n.1.length : Int) then (n.1.length : Int) else 1), V.int u]) (i := x3 % 2) (by omega) (by show _ < (2 : Int); omega) (by simp)
 refine ⟨_, erd, ?_⟩
 clear erd eu e3 e4 hl3 hl4
 subst hB
 try dsimp only
 refine seq_go fun B hB => ?_
 walk_at "rd"
 subst hB
 try dsimp only
 refine seq_go fun B hB => ?_
 have rest : ∀ wh, (wh = .non ∨ ∃ t, RatV H4 wh t ∧ SzQ 98 t ∧ 0 ≤ t.num) → B [some (V.ref pv), some (V.ref p), some (V.ref d), some (V.int (n.1.length : Int)), some (V.int far), some (V.int pl), some (V.int rd), some wh, none] H4 := by
  intro wh hwh
  subst hB
  try dsimp only
  refine seq_go fun B hB => ?_
  walk_at "rd"
  refine ⟨_, s14 _ _ hpv, _, a4, _, .non, rfl, by omega, .inl rfl, fun pr H5 s5 hpr => ?_⟩
  have s15 := s14.trans s5
  subst hB
  try dsimp only
  refine seq_go fun B hB => ?_
  have rest2 : ∀ pr H6, Same H5 H6 → PrTh H6 pr → B [some (V.ref pv), some (V.ref p), some (V.ref d), some (V.int (n.1.length : Int)), some (V.int far), some (V.int pl), some (V.int rd), some wh, some pr] H6 := by
   intro pr H6 s6 hpr
   have s16 := s15.trans s6
   subst hB
   try dsimp only
   refine seq_go fun B hB => ?_
   refine if_go fun A1 hA1 C1 hC1 => ?_
   walk_at "rd"
   refine ⟨_, s16 _ _ hpv, _, a0, _, rfl, ?_⟩
   refine ite2 (fun c => ?_) (fun c => ?_)
   ·subst hA1
    try dsimp only
    walk_at "rd"
    refine ⟨_, s16 _ _ hpv, _, a4, x4, d, n.2, rfl, by omega, s16 _ _ hd, hN.2, fun z H7 s7 hz l7 H8 hl7 s8 e8 => ⟨_, ((s16.trans s7).trans s8) _ _ hpv, _, a5, x5, rfl, ?_⟩⟩
    obtain ⟨z', e', hz'⟩ := at_ascs (ss := [z, Str.ofString "newcomer"]) (i := if x5 % 3 = 1 then 1 else 0) (by split <;> omega) (by show _ < (2 : Int); split <;> omega) (fun u hu => by
     simp only [List.mem_cons, List.not_mem_nil, or_false] at hu
     rcases hu with rfl | rfl
     ·exact hz
     ·exact asc_zs _ (by simp))
    exact ⟨_, e8, _, e', fun t H9 ht s9 e9 => q (.ref t) (.come z' pl) H9 (((s16.trans s7).trans s8).trans s9) ⟨t, rfl, e9⟩ hz'⟩
   subst hC1
   refine next_go ?_
   subst hB
   try dsimp only
   refine seq_go fun B hB => ?_
   refine if_go fun A1 hA1 C1 hC1 => ?_
   walk_at "rd"
   refine ⟨_, s16 _ _ hpv, _, a0, _, rfl, ite2 (fun c1 => ?_) (fun c1 => ?_)⟩
   ·subst hA1
    try dsimp only
    walk_at "rd"
    intro l7 H7 hl7 s7 e7
    obtain ⟨z', e', hz'⟩ := at_ascs (ss := [Str.ofString "zzzzzzzz", Str.ofString "", Str.ofString "A", Str.ofString "qqqqqqqq"]) (i := x4 % 4) (by omega) (by show _ < (4 : Int); omega) (fun u hu => asc_zs u (by
     simp only [List.mem_cons, List.not_mem_nil, or_false] at hu
     rcases hu with rfl | rfl | rfl | rfl <;> simp))
    exact ⟨_, (s16.trans s7) _ _ hpv, _, a4, x4, rfl, _, e7, _, e', fun t H9 ht s9 e9 => q (.ref t) (.go z') H9 ((s16.trans s7).trans s9) ⟨t, rfl, e9⟩ hz'⟩
   subst hC1
   refine next_go ?_
   subst hB
   try dsimp only
   refine seq_go fun B hB => ?_
   refine if_go fun A1 hA1 C1 hC1 => ?_
   walk_at "rd"
   refine ⟨_, s16 _ _ hpv, _, a0, _, rfl, ite2 (fun c2 => ?_) (fun c2 => ?_)⟩
   ·subst hA1
    try dsimp only
    walk_at "rd"
    obtain ⟨ss, ess, hsl, hkey⟩ := keys_strsG hN.2
    have hk := hN.2.2.1
    refine ⟨n.2, .inl (s16 _ _ hd), ss, ess, by omega, fun l H7 ts hl s7 e7 _ hperm l2 H8 hl2 s8 e8 => ?_⟩
    have htl : ts.length = n.2.length := by rw [hperm.length_eq, hsl]
    have s18 := (s16.trans s7).trans s8
    refine ⟨_, s8 _ _ e7, _, e8, big_le (by simp; omega), fun l3 hl3 => ?_⟩
    have s19 := s18.trans (same_new hl3 (.lst (ts.map V.str ++ [V.str (Str.ofString "zzzzzzzz"), V.str (Str.ofString ""), V.str (Str.ofString "B")])))
    refine ⟨_, s19 _ _ hpv, _, a4, n.2, .inl (s19 _ _ hd), x4, rfl, by omega, _, upd_same, ?_⟩
    obtain ⟨z', e', hz'⟩ := at_ascs (ss := ts ++ [Str.ofString "zzzzzzzz", Str.ofString "", Str.ofString "B"]) (i := x4 % ((n.2.length : Int) + 3)) (Int.emod_nonneg _ (by omega)) (by have := Int.emod_lt_of_pos x4 (b := (n.2.length : Int) + 3) (by omega); simp; omega) (fun u hu => by
     rcases List.mem_append.mp hu with h | h
     ·exact (hkey u (hperm.mem_iff.mp h)).2.asc
     ·refine asc_zs u ?_
      simp only [List.mem_cons, List.not_mem_nil, or_false] at h
      rcases h with rfl | rfl | rfl <;> simp)
    rw [List.map_append] at e'
    exact ⟨_, e', fun t H9 ht s9 e9 => q (.ref t) (.move z' far) H9 (s19.trans s9) ⟨t, rfl, e9⟩ hz'⟩
   subst hC1
   refine next_go ?_
   subst hB
   try dsimp only
   refine seq_go fun B hB => ?_
   refine if_go fun A1 hA1 C1 hC1 => ?_
   walk_at "rd"
   refine ⟨_, s16 _ _ hpv, _, a0, _, rfl, ite2 (fun c3 => ?_) (fun c3 => ?_)⟩
   ·subst hA1
    try dsimp only
    walk_at "rd"
    exact fun t H7 ht s7 e7 => q (.ref t) (.reprice rd pr) H7 (s16.trans s7) ⟨t, rfl, e7⟩ (hpr.same s7)
   subst hC1
   refine next_go ?_
   subst hB
   try dsimp only
   refine seq_go fun B hB => ?_
   refine if_go fun A1 hA1 C1 hC1 => ?_
   walk_at "rd"
   refine ⟨_, s16 _ _ hpv, _, a0, _, rfl, ite2 (fun c4 => ?_) (fun c4 => ?_)⟩
   ·subst hA1
    try dsimp only
    refine seq_go fun B3 hB3 => ?_
    have rest3 : ∀ pr H7, Same H6 H7 → PrTh H7 pr → B3 [some (V.ref pv), some (V.ref p), some (V.ref d), some (V.int (n.1.length : Int)), some (V.int far), some (V.int pl), some (V.int rd), some wh, some pr] H7 := by
     intro pr H7 s7 hpr
     have s17 := s16.trans s7
     subst hB3
     try dsimp only
     refine seq_go fun B4 hB4 => ?_
     have rest4 : ∀ pr H8, Same H7 H8 → PrTh H8 pr → B4 [some (V.ref pv), some (V.ref p), some (V.ref d), some (V.int (n.1.length : Int)), some (V.int far), some (V.int pl), some (V.int rd), some wh, some pr] H8 := by
      intro pr H8 s8 hpr
      subst hB4
      try dsimp only
      walk_at "rd"
      exact fun t H9 ht s9 e9 => q (.ref t) (.cut rd pr) H9 ((s17.trans s8).trans s9) ⟨t, rfl, e9⟩ (hpr.same s9)
     walk_at "rd"
     exact ⟨_, s17 _ _ hpv, _, a5, _, rfl, ite2 (fun c => fun l5 H8 hl5 s8 e8 => rest4 _ _ s8 (prth_tup e8 rfl)) (fun c => rest4 _ _ (fun _ _ e => e) hpr)⟩
    walk_at "rd"
    refine ⟨_, s16 _ _ hpv, _, a5, _, rfl, ite2 (fun c => ?_) (fun c => rest3 _ _ (fun _ _ e => e) hpr)⟩
    exact ⟨_, s16 _ _ hpv, _, a4, x4, wh, rfl, by omega, hwh.imp id (fun ⟨t, h1, h2, h3⟩ => ⟨t, (h1.same s5).same s6, h2, h3⟩), fun y' H7 s7 hy' => rest3 _ _ s7 hy'⟩
   subst hC1
   refine next_go ?_
   subst hB
   try dsimp only
   walk_at "rd"
   exact fun t H7 ht s7 e7 => q (.ref t) (.build pl pr) H7 (s16.trans s7) ⟨t, rfl, e7⟩ (hpr.same s7)
  walk_at "rd"
  refine ⟨_, s15 _ _ hpv, _, a5, _, rfl, ite2 (fun c => fun l5 H6 hl5 s6 e6 => rest2 _ _ s6 (prth_tup e6 rfl)) (fun c => rest2 _ _ (fun _ _ e => e) hpr)⟩
 walk_at "rd"
 refine ite2 (fun c => ite2 (fun c2 => ?_) (fun c2 => rest _ (.inl rfl))) (fun c => rest _ (.inl rfl))
 obtain ⟨j, rfl⟩ : ∃ j : Nat, rd = (j : Int) + 1 := ⟨(rd - 1).toNat, by omega⟩
 have hj : j < n.1.length := by omega
 have hxj : j < rx.length := by omega
 obtain ⟨rp, ry, erx, hrp, hry⟩ := (hR.same s14).2 j _ _ (List.getElem?_eq_getElem hxj) (List.getElem?_eq_getElem hj)
 have hat : atI rx ((j : Int) + 1 - 1) = some (.ref rp) := by
  rw [show (j : Int) + 1 - 1 = (j : Int) by omega, ← erx]
  exact atI_nat (List.getElem?_eq_getElem hxj)
 have hz := hN.1.2.2 _ (List.getElem_mem hj)
 exact ⟨_, s14 _ _ hp, _, hat, rp, rfl, _, hrp, _, rfl, rest _ (.inr ⟨_, hry, hz.1, hz.2⟩)⟩
end
def IsT (c : TT) (σ : St) (H : Hp) (b : Bool) : Prop := ∀ Q : Bool → Hp → Prop, (∀ H', Same H H' → Q b H') → c σ H Q
section
variable {c d : TT} {σ : St} {H : Hp} {b : Bool} {body rest : TS} {D : Ends}
theorem is_andF (h : IsT c σ H false) : IsT (tAnd c d) σ H false := fun Q q => h _ fun H' s => by rw [if_neg (by decide)]; exact q H' s
theorem is_andT (h : IsT c σ H true) (h2 : ∀ H', Same H H' → IsT d σ H' b) : IsT (tAnd c d) σ H b := fun Q q => h _ fun H' s => by rw [if_pos rfl]; exact h2 H' s _ fun H2 s2 => q H2 (s.trans s2)
theorem is_orT (h : IsT c σ H true) : IsT (tOr c d) σ H true := fun Q q => h _ fun H' s => by rw [if_pos rfl]; exact q H' s
theorem is_orF (h : IsT c σ H false) (h2 : ∀ H', Same H H' → IsT d σ H' b) : IsT (tOr c d) σ H b := fun Q q => h _ fun H' s => by rw [if_neg (by decide)]; exact h2 H' s _ fun H2 s2 => q H2 (s.trans s2)
theorem is_not (h : IsT c σ H b) : IsT (tNot c) σ H (!b) := fun Q q => h _ q
theorem if_is (h : IsT c σ H b) (ht : b = true → ∀ H', Same H H' → ∀ N, body { D with nx := N } σ H') (hf : b = false → ∀ H', Same H H' → rest D σ H') : tSeq (tIfS c body tNext) rest D σ H := by
 refine seq_go fun B hB => if_go fun A hA C hC => h _ fun H' s => ?_
 cases b with
 | true => rw [if_pos rfl, hA]; exact ht rfl H' s B
 | false => rw [if_neg (by decide), hC, hB]; exact hf rfl H' s
theorem if_no (h : IsT c σ H false) (hf : ∀ H', Same H H' → rest D σ H') : tSeq (tIfS c body tNext) rest D σ H := if_is h (fun z => nomatch z) fun _ => hf
end
section
variable {w0 : Str} {σ : St} {H : Hp} {pt : Addr} {r : List V} {j : Nat} {K : PySem.W.Frag}
theorem is_eq0 {w : Str} {b : Bool} (h0 : σ[j]? = some (some (.ref pt))) (ht : H pt = some (.tup (.str w0 :: r))) (e : decide (w0 = w) = b) : IsT (tTest (tOp rEq (tOp rIxT2 (tVar j) (tC (V.int 0))) (tC (V.str w)))) σ H b := fun Q q => t_is h0 ht (e ▸ q H fun _ _ e => e)
theorem is_in {b : Bool} (ws : List Str) (t : TA) (htA : ∀ H1 Q, Q (ws.map V.str) H1 → t σ H1 Q) (hl : ws.length ≤ 100) (h0 : σ[j]? = some (some (.ref pt))) (ht : H pt = some (.tup (.str w0 :: r))) (e : inV (.str w0) (ws.map V.str) = b) : IsT (tTest (tOp (rIn K false) (tOp rIxT2 (tVar j) (tC (V.int 0))) (tTup2 t))) σ H b := by
 intro Q q
 refine ⟨_, h0, pt, _, 0, .str w0, rfl, rfl, ht, (by show atI _ ((0 : Nat) : Int) = _; exact atI_nat rfl), htA _ _ ⟨by rw [List.length_map]; omega, fun p H2 hp s2 e2 => ⟨p, _, rfl, .inr (.of e2), rfl, ?_, b, ?_, q H2 s2⟩⟩⟩
 ·rw [List.all_eq_true]
  intro x hx
  obtain ⟨z, _, rfl⟩ := List.mem_map.mp hx
  rfl
 ·show V.bl (if false = true then _ else _) = _
  rw [if_neg (by decide), e]
end
section
variable {c d : TT} {σ : St} {H : Hp} {b : Bool} {body rest : TS} {D : Ends} {A C : St → Hp → Prop}
theorem is_or2 (h : IsT c σ H b) (h2 : ∀ H', Same H H' → IsT d σ H' false) : IsT (tOr c d) σ H b := fun Q q => h _ fun H' s => by
 cases b with
 | true => rw [if_pos rfl]; exact q H' s
 | false => rw [if_neg (by decide)]; exact h2 H' s _ fun H2 s2 => q H2 (s.trans s2)
theorem if_is2 (h : IsT c σ H true) (ht : ∀ H', Same H H' → ∀ N, N = rest D → body { D with nx := N } σ H') : tSeq (tIfS c body tNext) rest D σ H := by
 refine seq_go fun B hB => if_go fun A hA C hC => h _ fun H' s => ?_
 rw [if_pos rfl, hA]
 exact ht H' s B hB
theorem if_is3 (h : IsT c σ H b) (ht : b = true → ∀ H', Same H H' → body D σ H') (hf : b = false → ∀ H', Same H H' → D.nx σ H') : tIfS c body tNext D σ H := by
 refine if_go fun A hA C hC => h _ fun H' s => ?_
 cases b with
 | true => rw [if_pos rfl, hA]; exact ht rfl H' s
 | false => rw [if_neg (by decide), hC]; exact hf rfl H' s
theorem is_le2 {j i3 : Nat} {pt : Addr} {xs : List V} {lo k m i : Int} (h0 : σ[j]? = some (some (.ref pt))) (h3 : σ[i3]? = some (some (.int m))) (ht : H pt = some (.tup xs)) (hi : atI xs i = some (.int k)) (e : decide (lo ≤ k ∧ k ≤ m) = b) :
  IsT (tTest (tChain (rI0 fun i j => V.bl (decide (i ≤ j))) (rI0 fun i j => V.bl (decide (i ≤ j))) (tC (V.int lo)) (tOp rIxT2 (tVar j) (tC (V.int i))) (tVar i3))) σ H b := by
 intro Q q
 refine ⟨_, h0, pt, _, i, _, rfl, rfl, ht, hi, lo, k, rfl, rfl, _, rfl, ?_⟩
 by_cases c : lo ≤ k
 ·rw [decide_eq_true c, if_pos rfl]
  refine ⟨_, h3, k, m, rfl, rfl, _, rfl, ?_⟩
  rw [show decide (k ≤ m) = b by rw [← e]; exact decide_eq_decide.mpr ⟨fun y => ⟨c, y⟩, fun y => y.2⟩]
  exact q _ fun _ _ e => e
 ·rw [decide_eq_false c, if_neg (by decide)]
  refine ⟨_, rfl, ?_⟩
  rw [show false = b by rw [← e]; exact (decide_eq_false fun y => c y.1).symm]
  exact q _ fun _ _ e => e
end
theorem bool_not {r b : Bool} {P : Prop} (h : r = true ↔ P) (hb : b = true ↔ ¬ P) : (!r) = b := by
 cases r with
 | true =>
  cases b with
  | true => exact absurd (h.mp rfl) (hb.mp rfl)
  | false => rfl
 | false =>
  cases b with
  | true => rfl
  | false => exact absurd (hb.mpr fun z => by have := h.mpr z; cases this) (by decide)
theorem prp_iff {H H' : Hp} {y : V} (h : Thing H y) (s : Same H H') : PrP H' y ↔ PrP H y :=
 ⟨fun ⟨a, t, b, e, h1, r⟩ => ⟨a, t, b, e, th0_back (e ▸ h.1) s h1, r⟩, fun ⟨a, t, b, e, h1, r⟩ => ⟨a, t, b, e, s _ _ h1, r⟩⟩
theorem RatV.uniq {H : Hp} {y : V} {t t' : Rat} (h : RatV H y t) (h' : RatV H y t') : t = t' := by
 obtain ⟨p, rfl, e⟩ := h
 obtain ⟨p', e1, e'⟩ := h'
 cases e1
 rw [e] at e'
 injection e' with e'
 injection e' with e'
 injection e' with e3 e4
 injection e4 with e4 _
 injection e3 with e3
 injection e4 with e4
 exact Rat.ext e3 (Int.ofNat.inj e4)
theorem prp_rat {H : Hp} {y : V} {q : Rat} (h : RatV H y q) (hn : 0 ≤ q.num) : PrP H y := by
 obtain ⟨p, rfl, hp⟩ := h
 have hg : Int.gcd q.num (q.den : Int) = 1 := by
  show Nat.gcd q.num.natAbs (Int.natAbs (q.den : Int)) = 1
  rw [Int.natAbs_natCast]
  exact q.reduced
 exact ⟨p, _, _, rfl, hp, by have := q.den_pos; omega, hg, hn⟩
def DueB (H : Hp) (n : Now) : Raw → Nat → Prop
 | .come z k, j => (j = 0 ∧ ¬ (NameOk z ∧ ¬ hasK n.2 z)) ∨ (j = 1 ∧ NameOk z ∧ ¬ hasK n.2 z ∧ ¬ inT n.1 k) ∨ (j = 3 ∧ NameOk z ∧ ¬ hasK n.2 z ∧ inT n.1 k ∧ 12 ≤ n.2.length)
 | .go z, j => j = 0 ∧ ¬ hasK n.2 z
 | .move z k, j => (j = 0 ∧ ¬ hasK n.2 z) ∨ (j = 1 ∧ hasK n.2 z ∧ ¬ inT n.1 k)
 | .reprice k y, j => (j = 1 ∧ ¬ inR n.1 k) ∨ (j = 2 ∧ inR n.1 k ∧ ¬ PrP H y)
 | .build k y, j => (j = 1 ∧ ¬ inT n.1 k) ∨ (j = 2 ∧ inT n.1 k ∧ ¬ PrP H y) ∨ (j = 3 ∧ inT n.1 k ∧ PrP H y ∧ ¬ n.1.length < 40)
 | .cut k y, j => (j = 1 ∧ ¬ inR n.1 k) ∨ (j = 2 ∧ inR n.1 k ∧ ¬ PrP H y) ∨ (inR n.1 k ∧ ∃ (i : Nat) (r : Nat × Rat) (t : Rat), k = (i : Int) + 1 ∧ n.1[i]? = some r ∧ RatV H y t ∧ 0 ≤ t.num ∧ ((j = 2 ∧ r.2 < t) ∨ (j = 3 ∧ ¬ r.2 < t ∧ ¬ n.1.length < 40)))
section
variable {P : Program} {w : World} {K : PySem.W.Frag} {mg : Str → Option Value} {base : Heap} {f : Addr} {fd : FuncData} {CT CS CNN CNP CNR CTM : Addr}
def errC (CNN CNP CNR CTM : Addr) : Nat → Addr
 | 0 => CNN
 | 1 => CNP
 | 2 => CNR
 | _ => CTM
theorem due_raw {H : Hp} {n : Now} {raw : Raw} {j : Nat} {ex : List Addr} {a ps : Addr} {past : List Now} (h : DueB H n raw j) (hN : NowG n) (hO : RawOk H raw) (hS : ShireV ex CS CT H a ps n.1 n.2 past) (hl : past.length < 1000) (Q : VK) (E : XK) (hE : Err E (errC CNN CNP CNR CTM j) H) : rawSp CS CT CNN CNP CNR CTM a H Q E raw := by
 have hkl := hN.2.2.1
 cases raw with
 | come z k =>
  refine ⟨ex, a, ps, n.1, n.2, past, z, k, rfl, hS, hl, by omega, hO, fun c => ?_, fun c1 c2 => ⟨fun c3 => ?_, fun c3 => ⟨fun c4 => ?_, fun c4 => ?_⟩⟩⟩
  ·rcases h with ⟨rfl, h⟩ | ⟨rfl, h1, h2, _⟩ | ⟨rfl, h1, h2, _⟩
   ·exact hE
   ·exact absurd ⟨h1, h2⟩ c
   ·exact absurd ⟨h1, h2⟩ c
  ·rcases h with ⟨rfl, h⟩ | ⟨rfl, h1, h2, h3⟩ | ⟨rfl, h1, h2, h3, h4⟩
   ·exact absurd ⟨c1, c2⟩ h
   ·exact hE
   ·exact absurd h3 c3
  ·rcases h with ⟨rfl, h⟩ | ⟨rfl, h1, h2, h3⟩ | ⟨rfl, h1, h2, h3, h4⟩
   ·exact absurd ⟨c1, c2⟩ h
   ·exact absurd c3 h3
   ·exact hE
  ·rcases h with ⟨rfl, h⟩ | ⟨rfl, h1, h2, h3⟩ | ⟨rfl, h1, h2, h3, h4⟩
   ·exact absurd ⟨c1, c2⟩ h
   ·exact absurd c3 h3
   ·omega
 | go z =>
  obtain ⟨rfl, h⟩ := h
  exact ⟨ex, a, ps, n.1, n.2, past, z, rfl, hS, hl, hO, fun c => hE, fun c1 c2 => absurd c2 h⟩
 | move z k =>
  refine ⟨ex, a, ps, n.1, n.2, past, z, k, rfl, hS, hl, by omega, hO, fun c => ?_, fun c1 c2 => ⟨fun c3 => ?_, fun c3 => ?_⟩⟩
  ·rcases h with ⟨rfl, h⟩ | ⟨rfl, h1, h2⟩
   ·exact hE
   ·exact absurd ⟨hN.2.name h1, h1⟩ c
  ·rcases h with ⟨rfl, h⟩ | ⟨rfl, h1, h2⟩
   ·exact absurd c2 h
   ·exact hE
  ·rcases h with ⟨rfl, h⟩ | ⟨rfl, h1, h2⟩
   ·exact absurd c2 h
   ·exact absurd c3 h2
 | reprice k y =>
  refine ⟨ex, a, ps, n.1, n.2, past, k, y, rfl, hS, hl, hO.1, hN.1.2.1, fun c => ?_, fun c => ⟨fun c2 => ?_, fun i t e h1 h2 => ?_⟩⟩
  ·rcases h with ⟨rfl, h⟩ | ⟨rfl, h1, h2⟩
   ·exact hE
   ·exact absurd h1 c
  ·rcases h with ⟨rfl, h⟩ | ⟨rfl, h1, h2⟩
   ·exact absurd c h
   ·exact hE
  ·rcases h with ⟨rfl, h⟩ | ⟨rfl, h3, h4⟩
   ·exact absurd c h
   ·exact absurd (prp_rat h1 h2) h4
 | build k y =>
  refine ⟨ex, a, ps, n.1, n.2, past, k, y, rfl, hS, hl, hO.1, fun c => ?_, fun c => ⟨fun c2 => ?_, fun c2 => ⟨fun c3 => ?_, fun c3 => ?_⟩⟩⟩
  ·rcases h with ⟨rfl, h⟩ | ⟨rfl, h1, h2⟩ | ⟨rfl, h1, h2, h3⟩
   ·exact hE
   ·exact absurd h1 c
   ·exact absurd h1 c
  ·rcases h with ⟨rfl, h⟩ | ⟨rfl, h1, h2⟩ | ⟨rfl, h1, h2, h3⟩
   ·exact absurd c h
   ·exact hE
   ·exact absurd h2 c2
  ·rcases h with ⟨rfl, h⟩ | ⟨rfl, h1, h2⟩ | ⟨rfl, h1, h2, h3⟩
   ·exact absurd c h
   ·exact absurd c2 h2
   ·exact hE
  ·rcases h with ⟨rfl, h⟩ | ⟨rfl, h1, h2⟩ | ⟨rfl, h1, h2, h3⟩
   ·exact absurd c h
   ·exact absurd c2 h2
   ·exact absurd c3 h3
 | cut k y =>
  refine ⟨ex, a, ps, n.1, n.2, past, k, y, rfl, hS, hl, hO.1, fun r hr => (hN.1.2.2 r hr).1.mono (by decide), hO.2, fun c => ?_, fun c => ⟨fun c2 => ?_, fun i r t e1 e2 e3 e4 => ?_⟩⟩
  ·rcases h with ⟨rfl, h⟩ | ⟨rfl, h1, h2⟩ | ⟨h1, _⟩
   ·exact hE
   ·exact absurd h1 c
   ·exact absurd h1 c
  ·rcases h with ⟨rfl, h⟩ | ⟨rfl, h1, h2⟩ | ⟨h1, i, r, t, _, _, h2, h3, _⟩
   ·exact absurd c h
   ·exact hE
   ·exact absurd (prp_rat h2 h3) c2
  ·rcases h with ⟨rfl, h⟩ | ⟨rfl, h1, h2⟩ | ⟨h1, i', r', t', g1, g2, g3, g4, g5⟩
   ·exact absurd c h
   ·exact absurd (prp_rat e3 e4) h2
   ·have : i = i' := by omega
    subst this
    rw [e2] at g2
    cases g2
    have := e3.uniq g3
    subst this
    rcases g5 with ⟨rfl, g5⟩ | ⟨rfl, g5, g6⟩
    ·exact ⟨fun _ => hE, fun z => absurd g5 z⟩
    ·exact ⟨fun z => absurd z g5, fun _ => ⟨fun _ => hE, fun z => absurd z g6⟩⟩
def sp_due (K : PySem.W.Frag) : Sp := fun vs H Q _ => ∃ (x : V) (p d : Addr) (rx : List V) (raw : Raw) (n : Now), vs = [x, .ref p, .ref d] ∧ RawV H x raw ∧ RawOk H raw ∧ H p = some (.lst rx) ∧ RoadsV H rx n.1 ∧ H d = some (.dK n.2) ∧ NowG n ∧
 (∀ H', Same H H' → Q (.str "none") H') ∧ ∀ j H', Same H H' → j < 4 → DueB H n raw j → Q (.str (wordOf j)) H'
theorem ok_due (F : Fun K "_law_due" "_law_due" s_law_due f fd) (n_len : mg "len" = none) (F_law_is_name : Fn P w K mg base CX0 1 "_law_is_name" ["_law_name_here"] sp_lawName) (F_law_is_price : Fn P w K mg base CX0 2 "_law_is_price" ["_law_price"] sp_isprice) : FnOk P w K mg base CX0 3 f fd ["_law_deed", "_law_roads", "_law_homes"] (sp_due K) := by
 refine okQ F sc_law_due (fun vs H Q E h => ?_) (fun cdv A outer s H vs Q E hr h => ?_)
 ·obtain ⟨x, p, d, rx, raw, n, rfl, _⟩ := h; rfl
 obtain ⟨x, p, d, rx, raw, n, rfl, hx, hO, hp, hR, hd, hN0, qn, qd⟩ := h
 refine ⟨_, (b_cons (s_set 3 sc_law_due.nd (q_len rfl n_len (a_c (q_v 1) a_nil)))
   (b_cons (s_if (t_w (w_and (t_eq (q_ixT (q_v 0) q_int) q_str) (w_and1 (t_w (w_or (t_not (t_val (q_fn F_law_is_name hr (by decide) rfl (a_c (q_ixT (q_v 0) q_int) a_nil)))) (w_or1 (t_inD (hu_of hr) (q_ixT (q_v 0) q_int) (q_v 2)))))))) (b_one (s_ret q_str)) b_nil)
   (b_cons (s_if (t_w (w_or (t_eq (q_ixT (q_v 0) q_int) q_str) (w_or1 (t_eq (q_ixT (q_v 0) q_int) q_str)))) (b_one (s_if (t_ninD (hu_of hr) (q_ixT (q_v 0) q_int) (q_v 2)) (b_one (s_ret q_str)) b_nil)) b_nil)
   (b_cons (s_if (t_w (w_and (t_inL (q_ixT (q_v 0) q_int) (q_tup (a_c q_str (a_c q_str a_nil)))) (w_and1 (t_not (t_leLe q_int (q_ixT (q_v 0) q_int) (q_v 3)))))) (b_one (s_ret q_str)) b_nil)
   (b_cons (s_if (t_w (w_or (t_w (w_and (t_inL (q_ixT (q_v 0) q_int) (q_tup (a_c q_str (a_c q_str a_nil)))) (w_and1 (t_not (t_leLe q_int (q_ixT (q_v 0) q_int) (q_v 3)))))) (w_or1 (t_w (w_and (t_eq (q_ixT (q_v 0) q_int) q_str) (w_and1 (t_not (t_leLe q_int (q_ixT (q_v 0) q_int) (q_v 3))))))))) (b_one (s_ret q_str)) b_nil)
   (b_cons (s_if (t_w (w_and (t_inL (q_ixT (q_v 0) q_int) (q_tup (a_c q_str (a_c q_str (a_c q_str a_nil))))) (w_and1 (t_not (t_val (q_fn F_law_is_price hr (by decide) rfl (a_c (q_ixT (q_v 0) q_int) a_nil))))))) (b_one (s_ret q_str)) b_nil)
   (b_cons (s_if (t_eq (q_ixT (q_v 0) q_int) q_str) (b_cons (s_set 4 sc_law_due.nd (q_ixT (q_ixL (q_v 1) (q_sub (q_ixT (q_v 0) q_int) q_int)) q_int))
   (b_one (s_if (t_lt (q_mulL (q_ixT (q_v 4) q_int) (q_ixT (q_ixT (q_v 0) q_int) q_int)) (q_mulL (q_ixT (q_ixT (q_v 0) q_int) q_int) (q_ixT (q_v 4) q_int))) (b_one (s_ret q_str)) b_nil))) b_nil)
   (b_cons (s_if (t_w (w_or (t_w (w_and (t_eq (q_ixT (q_v 0) q_int) q_str) (w_and1 (t_eq (q_lenD rfl n_len (a_c (q_v 2) a_nil)) q_int)))) (w_or1 (t_w (w_and (t_inL (q_ixT (q_v 0) q_int) (q_tup (a_c q_str (a_c q_str a_nil)))) (w_and1 (t_eq (q_v 3) q_int))))))) (b_one (s_ret q_str)) b_nil)
   (b_one (s_ret q_str)))))))))), ?_⟩
 rw [show start ["_law_deed", "_law_roads", "_law_homes", "_law_many", "_law_whole_here"] [x, .ref p, .ref d] = [some (x), some (.ref p), some (.ref d), none, none] from rfl]
 refine seq_go fun B hB => ?_
 walk_at "rd"
 refine ⟨_, .inl hp, ?_⟩
 rw [hR.1]
 subst hB
 try dsimp only
 cases raw with
 | come z k =>
  obtain ⟨pt, rfl, ht⟩ := hx
  have t0 := ht
  have S0 : Same H H := fun _ _ e => e
  have nm : ∀ H1, Same H H1 → ∀ b : Bool, (b = true ↔ ¬ (NameOk z ∧ ¬ hasK n.2 z)) → IsT (tOr (tNot (tB (tCall sp_lawName [] E0 (tCons (tOp rIxT2 (tVar 0) (tC (V.int 1))) tNil)))) (tB (tDI false (tOp rIxT2 (tVar 0) (tC (V.int 1))) (tVar 2)))) [some (V.ref pt), some (V.ref p), some (V.ref d), some (V.int (n.1.length : Int)), none] H1 b := by
   intro H1 s1 b hb Q q
   walk_at "rd"
   refine ⟨_, s1 _ _ ht, _, rfl, z, rfl, hO, fun H2 r s2 hr2 => ⟨r, rfl, ?_⟩⟩
   cases r with
   | false =>
    rw [if_pos rfl]
    rw [show b = true from hb.mpr fun y => by have := hr2.mpr y.1; cases this] at q
    exact q _ s2
   | true =>
    rw [if_neg (by decide)]
    refine ⟨_, s2 _ _ (s1 _ _ ht), _, rfl, n.2, .inl (s2 _ _ (s1 _ _ hd)), Sum.inr z, rfl, ?_⟩
    have hz := hr2.mp rfl
    rw [show (valV n.2 (Sum.inr z)).isSome = b from ?_]
    ·exact q _ s2
    ·cases b with
     | true =>
      by_cases c : hasK n.2 z
      ·exact c
      ·exact absurd ⟨hz, c⟩ (hb.mp rfl)
     | false =>
      cases y : (valV n.2 (Sum.inr z)).isSome with
      | false => rfl
      | true => exact (hb.mpr fun g => g.2 y).symm
  by_cases c1 : NameOk z ∧ ¬ hasK n.2 z
  ·refine if_no (is_andT (is_eq0 rfl t0 rfl) fun Hy sy => nm Hy sy false ⟨fun y => (nomatch y), fun y => absurd c1 y⟩) fun H1 z1 => ?_
   have t1 := z1 _ _ t0
   have S1 := S0.trans z1
   refine if_no (is_orF (is_eq0 rfl t1 (by decide +kernel)) fun Hy sy => (is_eq0 rfl (sy _ _ t1) (by decide +kernel))) fun H2 z2 => ?_
   have t2 := z2 _ _ t1
   have S2 := S1.trans z2
   refine if_is (b := !decide (0 ≤ k ∧ k ≤ (n.1.length : Int))) (is_andT (is_in ([Str.ofString "come", Str.ofString "move"]) _ (fun _ _ h => h) (by decide) rfl t2 (by decide +kernel)) fun Hy sy => is_not (is_le2 rfl rfl (sy _ _ t2) rfl rfl)) (fun c H3 z3 N => ?_) fun c H3 z3 => ?_
   ·walk_at "rd"
    exact qd 1 _ (S2.trans z3) (by decide) (.inr (.inl ⟨rfl, c1.1, c1.2, fun y => by rw [decide_eq_true (show 0 ≤ k ∧ k ≤ (n.1.length : Int) from y)] at c; cases c⟩))
   have hin : inT n.1 k := by
    by_cases y : 0 ≤ k ∧ k ≤ (n.1.length : Int)
    ·exact y
    ·rw [decide_eq_false y] at c; cases c
   have t3 := z3 _ _ t2
   have S3 := S2.trans z3
   refine if_no (is_orF (is_andF (is_in ([Str.ofString "reprice", Str.ofString "cut"]) _ (fun _ _ h => h) (by decide) rfl t3 (by decide +kernel))) fun Hy sy => is_andF (is_eq0 rfl (sy _ _ t3) (by decide +kernel))) fun H4 z4 => ?_
   have t4 := z4 _ _ t3
   have S4 := S3.trans z4
   refine if_no (is_andF (is_in ([Str.ofString "reprice", Str.ofString "cut", Str.ofString "build"]) _ (fun _ _ h => h) (by decide) rfl t4 (by decide +kernel))) fun H5 z5 => ?_
   have t5 := z5 _ _ t4
   have S5 := S4.trans z5
   refine if_no (is_eq0 rfl t5 (by decide +kernel)) fun H6 z6 => ?_
   have t6 := z6 _ _ t5
   have S6 := S5.trans z6
   refine if_is (b := decide ((n.2.length : Int) = 12)) (is_or2 (is_andT (is_eq0 rfl t6 rfl) fun Hy sy => ?_) fun Hy sy => is_andF (is_in ([Str.ofString "build", Str.ofString "cut"]) _ (fun _ _ h => h) (by decide) rfl (sy _ _ t6) (by decide +kernel))) (fun c H7 z7 N => ?_) fun c H7 z7 => ?_
   ·intro Q q
    walk_at "rd"
    exact ⟨n.2, .inl (sy _ _ (S6 _ _ hd)), q _ fun _ _ e => e⟩
   ·walk_at "rd"
    exact qd 3 _ (S6.trans z7) (by decide) (.inr (.inr ⟨rfl, c1.1, c1.2, hin, by have := of_decide_eq_true c; omega⟩))
   ·walk_at "rd"
    exact qn _ (S6.trans z7)
  ·refine if_is (is_andT (is_eq0 rfl t0 rfl) fun Hy sy => nm Hy sy true ⟨fun _ => c1, fun _ => rfl⟩) (fun _ H1 z1 N => ?_) fun y => nomatch y
   walk_at "rd"
   exact qd 0 _ z1 (by decide) (.inl ⟨rfl, c1⟩)
 | go z =>
  obtain ⟨pt, rfl, ht⟩ := hx
  have t0 := ht
  have S0 : Same H H := fun _ _ e => e
  refine if_no (is_andF (is_eq0 rfl t0 (by decide +kernel))) fun H1 z1 => ?_
  have t1 := z1 _ _ t0
  have S1 := S0.trans z1
  refine if_is2 (is_orT (is_eq0 rfl t1 rfl)) fun H2 z2 N hN => ?_
  refine if_is3 (b := !(valV n.2 (Sum.inr z)).isSome) ?_ (fun c H3 z3 => ?_) fun c H3 z3 => ?_
  ·intro Q q
   walk_at "rd"
   exact ⟨_, z2 _ _ t1, _, rfl, n.2, .inl ((S1.trans z2) _ _ hd), Sum.inr z, rfl, q _ fun _ _ e => e⟩
  ·walk_at "rd"
   exact qd 0 _ ((S1.trans z2).trans z3) (by decide) ⟨rfl, fun y => by rw [show (valV n.2 (Sum.inr z)).isSome = true from y] at c; cases c⟩
  ·replace z2 := z2.trans z3
   clear z3
   subst hN
   try dsimp only
   have t2 := z2 _ _ t1
   have S2 := S1.trans z2
   refine if_no (is_andF (is_in ([Str.ofString "come", Str.ofString "move"]) _ (fun _ _ h => h) (by decide) rfl t2 (by decide +kernel))) fun H4 z3 => ?_
   have t3 := z3 _ _ t2
   have S3 := S2.trans z3
   refine if_no (is_orF (is_andF (is_in ([Str.ofString "reprice", Str.ofString "cut"]) _ (fun _ _ h => h) (by decide) rfl t3 (by decide +kernel))) fun Hy sy => is_andF (is_eq0 rfl (sy _ _ t3) (by decide +kernel))) fun H5 z4 => ?_
   have t4 := z4 _ _ t3
   have S4 := S3.trans z4
   refine if_no (is_andF (is_in ([Str.ofString "reprice", Str.ofString "cut", Str.ofString "build"]) _ (fun _ _ h => h) (by decide) rfl t4 (by decide +kernel))) fun H6 z5 => ?_
   have t5 := z5 _ _ t4
   have S5 := S4.trans z5
   refine if_no (is_eq0 rfl t5 (by decide +kernel)) fun H7 z6 => ?_
   have t6 := z6 _ _ t5
   have S6 := S5.trans z6
   refine if_no (is_orF (is_andF (is_eq0 rfl t6 (by decide +kernel))) fun Hy sy => is_andF (is_in ([Str.ofString "build", Str.ofString "cut"]) _ (fun _ _ h => h) (by decide) rfl (sy _ _ t6) (by decide +kernel))) fun H8 z7 => ?_
   have t7 := z7 _ _ t6
   have S7 := S6.trans z7
   walk_at "rd"
   exact qn _ S7
 | move z k =>
  obtain ⟨pt, rfl, ht⟩ := hx
  have t0 := ht
  have S0 : Same H H := fun _ _ e => e
  refine if_no (is_andF (is_eq0 rfl t0 (by decide +kernel))) fun H1 z1 => ?_
  have t1 := z1 _ _ t0
  have S1 := S0.trans z1
  refine if_is2 (is_orF (is_eq0 rfl t1 (by decide +kernel)) fun Hy sy => is_eq0 rfl (sy _ _ t1) rfl) fun H2 z2 N hN => ?_
  refine if_is3 (b := !(valV n.2 (Sum.inr z)).isSome) ?_ (fun c H3 z3 => ?_) fun c H3 z3 => ?_
  ·intro Q q
   walk_at "rd"
   exact ⟨_, z2 _ _ t1, _, rfl, n.2, .inl ((S1.trans z2) _ _ hd), Sum.inr z, rfl, q _ fun _ _ e => e⟩
  ·walk_at "rd"
   exact qd 0 _ ((S1.trans z2).trans z3) (by decide) (.inl ⟨rfl, fun y => by rw [show (valV n.2 (Sum.inr z)).isSome = true from y] at c; cases c⟩)
  ·have hk : hasK n.2 z := by
    unfold hasK
    cases y : (valV n.2 (Sum.inr z)).isSome with
    | true => rfl
    | false => rw [y] at c; cases c
   clear c
   replace z2 := z2.trans z3
   clear z3
   subst hN
   try dsimp only
   have t2 := z2 _ _ t1
   have S2 := S1.trans z2
   refine if_is (b := !decide (0 ≤ k ∧ k ≤ (n.1.length : Int))) (is_andT (is_in ([Str.ofString "come", Str.ofString "move"]) _ (fun _ _ h => h) (by decide) rfl t2 (by decide +kernel)) fun Hy sy => is_not (is_le2 rfl rfl (sy _ _ t2) rfl rfl)) (fun c H4 z3 N => ?_) fun c H4 z3 => ?_
   ·walk_at "rd"
    exact qd 1 _ (S2.trans z3) (by decide) (.inr ⟨rfl, hk, fun y => by rw [decide_eq_true (show 0 ≤ k ∧ k ≤ (n.1.length : Int) from y)] at c; cases c⟩)
   have hin : inT n.1 k := by
    by_cases y : 0 ≤ k ∧ k ≤ (n.1.length : Int)
    ·exact y
    ·rw [decide_eq_false y] at c; cases c
   clear c
   have t3 := z3 _ _ t2
   have S3 := S2.trans z3
   refine if_no (is_orF (is_andF (is_in ([Str.ofString "reprice", Str.ofString "cut"]) _ (fun _ _ h => h) (by decide) rfl t3 (by decide +kernel))) fun Hy sy => is_andF (is_eq0 rfl (sy _ _ t3) (by decide +kernel))) fun H5 z4 => ?_
   have t4 := z4 _ _ t3
   have S4 := S3.trans z4
   refine if_no (is_andF (is_in ([Str.ofString "reprice", Str.ofString "cut", Str.ofString "build"]) _ (fun _ _ h => h) (by decide) rfl t4 (by decide +kernel))) fun H6 z5 => ?_
   have t5 := z5 _ _ t4
   have S5 := S4.trans z5
   refine if_no (is_eq0 rfl t5 (by decide +kernel)) fun H7 z6 => ?_
   have t6 := z6 _ _ t5
   have S6 := S5.trans z6
   refine if_no (is_orF (is_andF (is_eq0 rfl t6 (by decide +kernel))) fun Hy sy => is_andF (is_in ([Str.ofString "build", Str.ofString "cut"]) _ (fun _ _ h => h) (by decide) rfl (sy _ _ t6) (by decide +kernel))) fun H8 z7 => ?_
   have t7 := z7 _ _ t6
   have S7 := S6.trans z7
   walk_at "rd"
   exact qn _ S7
 | reprice k y =>
  obtain ⟨pt, rfl, ht⟩ := hx
  have t0 := ht
  have S0 : Same H H := fun _ _ e => e
  refine if_no (is_andF (is_eq0 rfl t0 (by decide +kernel))) fun H1 z1 => ?_
  have t1 := z1 _ _ t0
  have S1 := S0.trans z1
  refine if_no (is_orF (is_eq0 rfl t1 (by decide +kernel)) fun Hy sy => (is_eq0 rfl (sy _ _ t1) (by decide +kernel))) fun H2 z2 => ?_
  have t2 := z2 _ _ t1
  have S2 := S1.trans z2
  refine if_no (is_andF (is_in ([Str.ofString "come", Str.ofString "move"]) _ (fun _ _ h => h) (by decide) rfl t2 (by decide +kernel))) fun H3 z3 => ?_
  have t3 := z3 _ _ t2
  have S3 := S2.trans z3
  refine if_is (b := !decide (1 ≤ k ∧ k ≤ (n.1.length : Int))) (is_or2 (is_andT (is_in ([Str.ofString "reprice", Str.ofString "cut"]) _ (fun _ _ h => h) (by decide) rfl t3 (by decide +kernel)) fun Hy sy => is_not (is_le2 rfl rfl (sy _ _ t3) rfl rfl)) fun Hy sy => is_andF (is_eq0 rfl (sy _ _ t3) (by decide +kernel))) (fun c H4 z4 N => ?_) fun c H4 z4 => ?_
  ·walk_at "rd"
   exact qd 1 _ (S3.trans z4) (by decide) (.inl ⟨rfl, fun y => by rw [decide_eq_true (show 1 ≤ k ∧ k ≤ (n.1.length : Int) from y)] at c; cases c⟩)
  have hin : inR n.1 k := by
   by_cases y : 1 ≤ k ∧ k ≤ (n.1.length : Int)
   ·exact y
   ·rw [decide_eq_false y] at c; cases c
  clear c
  have t4 := z4 _ _ t3
  have S4 := S3.trans z4
  have pr : ∀ b : Bool, (b = true ↔ ¬ PrP H y) → ∀ Hy, Same H Hy → IsT (tNot (tB (tCall sp_isprice [] E0 (tCons (tOp rIxT2 (tVar 0) (tC (V.int 2))) tNil)))) [some (V.ref pt), some (V.ref p), some (V.ref d), some (V.int (n.1.length : Int)), none] Hy b := by
   intro b hb Hy sy Q q
   walk_at "rd"
   refine ⟨_, sy _ _ ht, _, rfl, y, rfl, thing_same sy hO.1, fun r hr2 => ⟨r, rfl, ?_⟩⟩
   rw [show (!r) = b from ?_]
   ·exact q _ fun _ _ e => e
   ·exact bool_not (hr2.trans (prp_iff hO.1 sy)) hb
  by_cases c2 : PrP H y
  rotate_left
  ·refine if_is (is_andT (is_in ([Str.ofString "reprice", Str.ofString "cut", Str.ofString "build"]) _ (fun _ _ h => h) (by decide) rfl t4 (by decide +kernel)) fun Hy sy => pr true ⟨fun _ => c2, fun _ => rfl⟩ Hy (S4.trans sy)) (fun _ H5 z5 N => ?_) fun y => nomatch y
   walk_at "rd"
   exact qd 2 _ (S4.trans z5) (by decide) (.inr ⟨rfl, hin, c2⟩)
  refine if_no (is_andT (is_in ([Str.ofString "reprice", Str.ofString "cut", Str.ofString "build"]) _ (fun _ _ h => h) (by decide) rfl t4 (by decide +kernel)) fun Hy sy => pr false ⟨fun y => (nomatch y), fun y => absurd c2 y⟩ Hy (S4.trans sy)) fun H5 z5 => ?_
  have t5 := z5 _ _ t4
  have S5 := S4.trans z5
  refine if_no (is_eq0 rfl t5 (by decide +kernel)) fun H6 z6 => ?_
  have t6 := z6 _ _ t5
  have S6 := S5.trans z6
  refine if_no (is_orF (is_andF (is_eq0 rfl t6 (by decide +kernel))) fun Hy sy => is_andF (is_in ([Str.ofString "build", Str.ofString "cut"]) _ (fun _ _ h => h) (by decide) rfl (sy _ _ t6) (by decide +kernel))) fun H7 z7 => ?_
  have t7 := z7 _ _ t6
  have S7 := S6.trans z7
  walk_at "rd"
  exact qn _ S7
 | build k y =>
  obtain ⟨pt, rfl, ht⟩ := hx
  have t0 := ht
  have S0 : Same H H := fun _ _ e => e
  refine if_no (is_andF (is_eq0 rfl t0 (by decide +kernel))) fun H1 z1 => ?_
  have t1 := z1 _ _ t0
  have S1 := S0.trans z1
  refine if_no (is_orF (is_eq0 rfl t1 (by decide +kernel)) fun Hy sy => (is_eq0 rfl (sy _ _ t1) (by decide +kernel))) fun H2 z2 => ?_
  have t2 := z2 _ _ t1
  have S2 := S1.trans z2
  refine if_no (is_andF (is_in ([Str.ofString "come", Str.ofString "move"]) _ (fun _ _ h => h) (by decide) rfl t2 (by decide +kernel))) fun H3 z3 => ?_
  have t3 := z3 _ _ t2
  have S3 := S2.trans z3
  refine if_is (b := !decide (0 ≤ k ∧ k ≤ (n.1.length : Int))) (is_orF (is_andF (is_in ([Str.ofString "reprice", Str.ofString "cut"]) _ (fun _ _ h => h) (by decide) rfl t3 (by decide +kernel))) fun Hy sy => is_andT (is_eq0 rfl (sy _ _ t3) rfl) fun Hz sz => is_not (is_le2 rfl rfl ((sy.trans sz) _ _ t3) rfl rfl)) (fun c H4 z4 N => ?_) fun c H4 z4 => ?_
  ·walk_at "rd"
   exact qd 1 _ (S3.trans z4) (by decide) (.inl ⟨rfl, fun y => by rw [decide_eq_true (show 0 ≤ k ∧ k ≤ (n.1.length : Int) from y)] at c; cases c⟩)
  have hin : inT n.1 k := by
   by_cases y : 0 ≤ k ∧ k ≤ (n.1.length : Int)
   ·exact y
   ·rw [decide_eq_false y] at c; cases c
  clear c
  have t4 := z4 _ _ t3
  have S4 := S3.trans z4
  have pr : ∀ b : Bool, (b = true ↔ ¬ PrP H y) → ∀ Hy, Same H Hy → IsT (tNot (tB (tCall sp_isprice [] E0 (tCons (tOp rIxT2 (tVar 0) (tC (V.int 2))) tNil)))) [some (V.ref pt), some (V.ref p), some (V.ref d), some (V.int (n.1.length : Int)), none] Hy b := by
   intro b hb Hy sy Q q
   walk_at "rd"
   refine ⟨_, sy _ _ ht, _, rfl, y, rfl, thing_same sy hO.1, fun r hr2 => ⟨r, rfl, ?_⟩⟩
   rw [show (!r) = b from ?_]
   ·exact q _ fun _ _ e => e
   ·exact bool_not (hr2.trans (prp_iff hO.1 sy)) hb
  by_cases c2 : PrP H y
  rotate_left
  ·refine if_is (is_andT (is_in ([Str.ofString "reprice", Str.ofString "cut", Str.ofString "build"]) _ (fun _ _ h => h) (by decide) rfl t4 (by decide +kernel)) fun Hy sy => pr true ⟨fun _ => c2, fun _ => rfl⟩ Hy (S4.trans sy)) (fun _ H5 z5 N => ?_) fun y => nomatch y
   walk_at "rd"
   exact qd 2 _ (S4.trans z5) (by decide) (.inr (.inl ⟨rfl, hin, c2⟩))
  refine if_no (is_andT (is_in ([Str.ofString "reprice", Str.ofString "cut", Str.ofString "build"]) _ (fun _ _ h => h) (by decide) rfl t4 (by decide +kernel)) fun Hy sy => pr false ⟨fun y => (nomatch y), fun y => absurd c2 y⟩ Hy (S4.trans sy)) fun H5 z5 => ?_
  have t5 := z5 _ _ t4
  have S5 := S4.trans z5
  refine if_no (is_eq0 rfl t5 (by decide +kernel)) fun H6 z6 => ?_
  have t6 := z6 _ _ t5
  have S6 := S5.trans z6
  refine if_is (b := decide ((n.1.length : Int) = 40)) (is_orF (is_andF (is_eq0 rfl t6 (by decide +kernel))) fun Hy sy => is_andT (is_in ([Str.ofString "build", Str.ofString "cut"]) _ (fun _ _ h => h) (by decide) rfl (sy _ _ t6) (by decide +kernel)) fun Hz sz => ?_) (fun c H7 z7 N => ?_) fun c H7 z7 => ?_
  ·intro Q q
   walk_at "rd"
   exact q _ fun _ _ e => e
  ·walk_at "rd"
   exact qd 3 _ (S6.trans z7) (by decide) (.inr (.inr ⟨rfl, hin, c2, by have := of_decide_eq_true c; omega⟩))
  ·walk_at "rd"
   exact qn _ (S6.trans z7)
 | cut k y =>
  obtain ⟨pt, rfl, ht⟩ := hx
  have t0 := ht
  have S0 : Same H H := fun _ _ e => e
  refine if_no (is_andF (is_eq0 rfl t0 (by decide +kernel))) fun H1 z1 => ?_
  have t1 := z1 _ _ t0
  have S1 := S0.trans z1
  refine if_no (is_orF (is_eq0 rfl t1 (by decide +kernel)) fun Hy sy => (is_eq0 rfl (sy _ _ t1) (by decide +kernel))) fun H2 z2 => ?_
  have t2 := z2 _ _ t1
  have S2 := S1.trans z2
  refine if_no (is_andF (is_in ([Str.ofString "come", Str.ofString "move"]) _ (fun _ _ h => h) (by decide) rfl t2 (by decide +kernel))) fun H3 z3 => ?_
  have t3 := z3 _ _ t2
  have S3 := S2.trans z3
  refine if_is (b := !decide (1 ≤ k ∧ k ≤ (n.1.length : Int))) (is_or2 (is_andT (is_in ([Str.ofString "reprice", Str.ofString "cut"]) _ (fun _ _ h => h) (by decide) rfl t3 (by decide +kernel)) fun Hy sy => is_not (is_le2 rfl rfl (sy _ _ t3) rfl rfl)) fun Hy sy => is_andF (is_eq0 rfl (sy _ _ t3) (by decide +kernel))) (fun c H4 z4 N => ?_) fun c H4 z4 => ?_
  ·walk_at "rd"
   exact qd 1 _ (S3.trans z4) (by decide) (.inl ⟨rfl, fun y => by rw [decide_eq_true (show 1 ≤ k ∧ k ≤ (n.1.length : Int) from y)] at c; cases c⟩)
  have hin : inR n.1 k := by
   by_cases y : 1 ≤ k ∧ k ≤ (n.1.length : Int)
   ·exact y
   ·rw [decide_eq_false y] at c; cases c
  clear c
  have t4 := z4 _ _ t3
  have S4 := S3.trans z4
  have pr : ∀ b : Bool, (b = true ↔ ¬ PrP H y) → ∀ Hy, Same H Hy → IsT (tNot (tB (tCall sp_isprice [] E0 (tCons (tOp rIxT2 (tVar 0) (tC (V.int 2))) tNil)))) [some (V.ref pt), some (V.ref p), some (V.ref d), some (V.int (n.1.length : Int)), none] Hy b := by
   intro b hb Hy sy Q q
   walk_at "rd"
   refine ⟨_, sy _ _ ht, _, rfl, y, rfl, thing_same sy hO.1, fun r hr2 => ⟨r, rfl, ?_⟩⟩
   rw [show (!r) = b from ?_]
   ·exact q _ fun _ _ e => e
   ·exact bool_not (hr2.trans (prp_iff hO.1 sy)) hb
  by_cases c2 : PrP H y
  rotate_left
  ·refine if_is (is_andT (is_in ([Str.ofString "reprice", Str.ofString "cut", Str.ofString "build"]) _ (fun _ _ h => h) (by decide) rfl t4 (by decide +kernel)) fun Hy sy => pr true ⟨fun _ => c2, fun _ => rfl⟩ Hy (S4.trans sy)) (fun _ H5 z5 N => ?_) fun y => nomatch y
   walk_at "rd"
   exact qd 2 _ (S4.trans z5) (by decide) (.inr (.inl ⟨rfl, hin, c2⟩))
  refine if_no (is_andT (is_in ([Str.ofString "reprice", Str.ofString "cut", Str.ofString "build"]) _ (fun _ _ h => h) (by decide) rfl t4 (by decide +kernel)) fun Hy sy => pr false ⟨fun y => (nomatch y), fun y => absurd c2 y⟩ Hy (S4.trans sy)) fun H5 z5 => ?_
  have t5 := z5 _ _ t4
  have S5 := S4.trans z5
  obtain ⟨t, hyt, hnt⟩ := rat_prp c2
  obtain ⟨j, rfl⟩ : ∃ j : Nat, k = (j : Int) + 1 := ⟨(k - 1).toNat, by have := hin.1; omega⟩
  have hj : j < n.1.length := by have := hin.2; omega
  have hxj : j < rx.length := by rw [hR.1]; exact hj
  refine if_is2 (is_eq0 rfl t5 rfl) fun H6 z6 N hN => ?_
  have S6 := S5.trans z6
  have t6 := z6 _ _ t5
  obtain ⟨rp, ry, erx, hrp, hry⟩ := (hR.same S6).2 j _ _ (List.getElem?_eq_getElem hxj) (List.getElem?_eq_getElem hj)
  have hat : atI rx ((j : Int) + 1 - 1) = some (.ref rp) := by
   rw [show (j : Int) + 1 - 1 = (j : Int) by omega, ← erx]
   exact atI_nat (List.getElem?_eq_getElem hxj)
  obtain ⟨wp, rfl, hwp⟩ := hry
  obtain ⟨yp, rfl, hyp⟩ := hyt
  have zr := (hN0.1.2.2 _ (List.getElem_mem hj)).1
  have zt := hO.2 t ⟨yp, rfl, hyp⟩
  refine seq_go fun B3 hB3 => ?_
  walk_at "rd"
  refine ⟨_, t6, _, rfl, _, rfl, _, S6 _ _ hp, _, hat, rp, rfl, _, hrp, _, rfl, ?_⟩
  subst hB3
  try dsimp only
  refine if_is3 (b := decide (n.1[j].2 < t)) ?_ (fun c H7 z7 => ?_) fun c H7 z7 => ?_
  ·intro Q q
   walk_at "rd"
   have hyp' := S6 _ _ hyp
   refine ⟨_, hwp, _, rfl, _, t6, _, rfl, yp, rfl, _, hyp', _, rfl, _, rfl, _, rfl, mulOk zr.1 (den_lt zt) (by decide), _, t6, _, rfl, yp, rfl, _, hyp', _, rfl, _, hwp, _, rfl, _, rfl, _, rfl, mulOk zt.1 (den_lt zr) (by decide), ?_⟩
   rw [← decide_eq_decide.mpr (lt_cross n.1[j].2 t)]
   exact q _ fun _ _ e => e
  ·walk_at "rd"
   exact qd 2 _ (S6.trans z7) (by decide) (.inr (.inr ⟨hin, j, _, t, rfl, List.getElem?_eq_getElem hj, ⟨yp, rfl, hyp⟩, hnt, .inl ⟨rfl, of_decide_eq_true c⟩⟩))
  have t7 := z7 _ _ t6
  have S7 := S6.trans z7
  subst hN
  try dsimp only
  refine if_is (b := decide ((n.1.length : Int) = 40)) (is_orF (is_andF (is_eq0 rfl t7 (by decide +kernel))) fun Hy sy => is_andT (is_in ([Str.ofString "build", Str.ofString "cut"]) _ (fun _ _ h => h) (by decide) rfl (sy _ _ t7) (by decide +kernel)) fun Hz sz => ?_) (fun c H8 z8 N => ?_) fun c H8 z8 => ?_
  ·intro Q q
   walk_at "rd"
   exact q _ fun _ _ e => e
  ·walk_at "rd"
   exact qd 3 _ (S7.trans z8) (by decide) (.inr (.inr ⟨hin, j, _, t, rfl, List.getElem?_eq_getElem hj, ⟨yp, rfl, hyp⟩, hnt, .inr ⟨rfl, of_decide_eq_false ‹_›, by have := of_decide_eq_true c; omega⟩⟩))
  ·walk_at "rd"
   exact qn _ (S7.trans z8)
end
theorem cell_fits {ns : List Int} (h : ∀ n ∈ ns, Fits n) (k : Nat) (hk : k < 100) : Fits (cellOf ns k) := by
 unfold cellOf
 rw [List.getD_eq_getElem?_getD]
 cases e : ns[k]? with
 | some n => exact h n (List.mem_of_getElem? e)
 | none =>
  show Fits (2 * (k : Int) + 1)
  exact bits_lt (n := 1048576) (Nat.lt_of_lt_of_le (m := 2 ^ 20) (by omega) (Nat.pow_le_pow_right (by decide) (by decide)))
theorem off_tups {ex : List Addr} {CS CT : Addr} {H : Hp} {a ps : Addr} {rs : List (Nat × Rat)} {kvs : Kvs} {past : List Now} (h : ShireV ex CS CT H a ps rs kvs past) (b : Addr) (ys : List V) (e : H b = some (.tup ys)) : off ex a ps H b = some (.tup ys) := by
 obtain ⟨dx, tr, ds, pv, h1, h2, _, _, _, h6, _⟩ := h
 exact off_some.mpr ⟨ne_of e h1 (by intro z; cases z), ne_of e h2 (by intro z; cases z), fun z => (by obtain ⟨zs, q⟩ := h6 b z; rw [e] at q; cases q), e⟩
theorem off_fresh {ex : List Addr} {CS CT : Addr} {H H' : Hp} {a ps b : Addr} {o : HO} {rs : List (Nat × Rat)} {kvs : Kvs} {past : List Now} (h : ShireV ex CS CT H a ps rs kvs past) (hb : H b = none) (e : H' b = some o) : off ex a ps H' b = some o := by
 obtain ⟨dx, tr, ds, pv, h1, h2, _, _, _, h6, _⟩ := h
 exact off_new hb h1 h2 h6 e
section
variable {P : Program} {w : World} {K : PySem.W.Frag} {mg : Str → Option Value} {base : Heap} {f : Addr} {fd : FuncData} {CT CS CNN CNP CNR CTM : Addr}
theorem good_raw {H : Hp} {x : V} {dd : Deed} {n : Now} {ex : List Addr} {a ps : Addr} {past : List Now} {Q : VK} {E : XK} (hD : DeedV H x dd) (hG : DeedG n dd) (hN : NowG n) (hS : ShireV ex CS CT H a ps n.1 n.2 past) (hl : past.length < 1000)
  (q : ∀ v H', KeepX a ps H H' → ShireV ex CS CT H' a ps (done dd n).1 (done dd n).2 (past ++ [n]) → Q v H') : ∃ raw, RawV H x raw ∧ rawSp CS CT CNN CNP CNR CTM a H Q E raw := by
 have hkl := hN.2.2.1
 cases dd with
 | come z k =>
  obtain ⟨p, rfl, hp⟩ := hD
  obtain ⟨g1, g2, g3, g4⟩ := hG
  exact ⟨.come z k, ⟨p, rfl, hp⟩, ex, a, ps, n.1, n.2, past, z, k, rfl, hS, hl, by omega, g1.asc, fun c => absurd ⟨g1, g2⟩ c, fun _ _ => ⟨fun c => absurd ⟨by omega, by omega⟩ c, fun _ => ⟨fun c => by omega, fun _ H' k' h' => q _ H' k' h'⟩⟩⟩
 | go z =>
  obtain ⟨p, rfl, hp⟩ := hD
  exact ⟨.go z, ⟨p, rfl, hp⟩, ex, a, ps, n.1, n.2, past, z, rfl, hS, hl, (hN.2.name hG).asc, fun c => absurd ⟨hN.2.name hG, hG⟩ c, fun _ _ H' k' h' => q _ H' k' h'⟩
 | move z k =>
  obtain ⟨p, rfl, hp⟩ := hD
  obtain ⟨g1, g2⟩ := hG
  exact ⟨.move z k, ⟨p, rfl, hp⟩, ex, a, ps, n.1, n.2, past, z, k, rfl, hS, hl, by omega, (hN.2.name g1).asc, fun c => absurd ⟨hN.2.name g1, g1⟩ c, fun _ _ => ⟨fun c => absurd ⟨by omega, by omega⟩ c, fun _ H' k' h' => q _ H' k' h'⟩⟩
 | reprice j t =>
  obtain ⟨p, y, rfl, hp, hy⟩ := hD
  obtain ⟨g1, g2, g3⟩ := hG
  have hp1 := prth_rat hy (g2.mono (by decide))
  refine ⟨.reprice ((j : Int) + 1) y, ⟨p, rfl, hp⟩, ex, a, ps, n.1, n.2, past, _, y, rfl, hS, hl, hp1.1, hN.1.2.1, fun c => absurd ⟨by omega, by omega⟩ c, fun _ => ⟨fun c => absurd (prp_rat hy g3) c, fun j' t' e1 e2 e3 => ?_⟩⟩
  have e4 : j' = j := by omega
  subst e4
  have e5 := e2.uniq hy
  subst e5
  have hD' := done_g hN (show DeedG n (.reprice j' t') from ⟨g1, g2, g3⟩)
  exact ⟨hD'.1.1, fun r hr => (hD'.1.2.2 r hr).2, fun H' k' h' => q _ H' k' h'⟩
 | build to t =>
  obtain ⟨p, y, rfl, hp, hy⟩ := hD
  obtain ⟨g1, g2, g3, g4⟩ := hG
  have hp1 := prth_rat hy (g2.mono (by decide))
  refine ⟨.build (to : Int) y, ⟨p, rfl, hp⟩, ex, a, ps, n.1, n.2, past, _, y, rfl, hS, hl, hp1.1, fun c => absurd ⟨by omega, by omega⟩ c, fun _ => ⟨fun c => absurd (prp_rat hy g3) c, fun _ => ⟨fun c => absurd g4 c, fun _ j' t' e1 e2 e3 => ?_⟩⟩⟩
  have e4 : j' = to := by omega
  subst e4
  have e5 := e2.uniq hy
  subst e5
  have hD' := done_g hN (show DeedG n (.build j' t') from ⟨g1, g2, g3, g4⟩)
  exact ⟨hD'.1.1, fun r hr => (hD'.1.2.2 r hr).2, fun H' k' h' => q _ H' k' h'⟩
 | cut j t =>
  obtain ⟨p, y, rfl, hp, hy⟩ := hD
  obtain ⟨r, g0, g1, g2, g3, g4, g5, g6⟩ := hG
  have hj := (List.getElem?_eq_some_iff.mp g0).1
  have hp1 := prth_rat hy (g1.mono (by decide))
  refine ⟨.cut ((j : Int) + 1) y, ⟨p, rfl, hp⟩, ex, a, ps, n.1, n.2, past, _, y, rfl, hS, hl, hp1.1, fun r hr => (hN.1.2.2 r hr).1.mono (by decide), hp1.2, fun c => absurd ⟨by omega, by omega⟩ c, fun _ => ⟨fun c => absurd (prp_rat hy g2) c, fun j' r' t' e1 e2 e3 e4 => ?_⟩⟩
  have e5 : j' = j := by omega
  subst e5
  have e6 := e3.uniq hy
  subst e6
  rw [g0] at e2
  cases e2
  have hD' := done_g hN (show DeedG n (.cut j' t') from ⟨r, g0, g1, g2, g3, g4, g5, g6⟩)
  have hr1 : r.1 ≤ n.1.length := by
   obtain ⟨rank, _, _, hr⟩ := hN.1.1
   exact (hr j' r g0).1
  have hD2 := done_g hN (show DeedG n (.build r.1 t') from ⟨hr1, g1, g2, g6⟩)
  exact ⟨fun c => absurd c g3, fun _ => ⟨fun c => absurd g6 c, fun _ => ⟨hD2.1.1, fun u hu => (hD2.1.2.2 u hu).2, hD'.1.1, fun u hu => (hD'.1.2.2 u hu).2, fun H' k' h' => q _ H' k' h'⟩⟩⟩
end
theorem name399 : ∀ k : Fin 12, 1 ≤ (nameZ ((k : Nat) : Int) 399).length ∧ (nameZ ((k : Nat) : Int) 399).length ≤ 8 ∧ ∀ d ∈ (nameZ ((k : Nat) : Int) 399).cps.toList, 97 ≤ d ∧ d ≤ 122 := by decide +kernel
def qInt (k : Nat) : Rat := ⟨(k : Int), 1, by decide, by simp⟩
def FillD (r0 : Nat) (nc : Nat) (i : Nat) : Deed → Prop
 | .come z k => NameOk z ∧ k ≤ r0 ∧ i < nc
 | .build to t => nc ≤ i ∧ to ≤ r0 + (i - nc) ∧ SzQ 98 t ∧ 0 ≤ t.num
 | _ => False
def FillV (r0 nc : Nat) (H : Hp) (xs : List V) : Prop := ∀ (i : Nat) x, xs[i]? = some x → ∃ dd, DeedV H x dd ∧ FillD r0 nc i dd
section
variable {P : Program} {w : World} {K : PySem.W.Frag} {mg : Str → Option Value} {base : Heap} {f : Addr} {fd : FuncData} {CT CS CNN CNP CNR CTM : Addr}
def sp_filled (CS CT : Addr) : Sp := fun vs H Q _ => ∃ (a ps p d : Addr) (rx : List V) (n : Now) (past : List Now) (c : Int), vs = [.ref a, .ref p, .ref d, .int c] ∧ 0 ≤ c ∧ ShireV [] CS CT H a ps n.1 n.2 past ∧ off [] a ps H p = some (.lst rx) ∧ RoadsV (off [] a ps H) rx n.1 ∧ off [] a ps H d = some (.dK n.2) ∧ NowG n ∧ n.2.length ≤ 6 ∧ n.1.length ≤ 30 ∧ past.length ≤ 100 ∧
 ∀ t p' d' rx' n' past' H', Same (off [] a ps H) (off [] a ps H') → ShireV [] CS CT H' a ps n'.1 n'.2 past' → H' t = some (.tup [.ref p', .ref d']) → off [] a ps H' p' = some (.lst rx') → RoadsV (off [] a ps H') rx' n'.1 → off [] a ps H' d' = some (.dK n'.2) → NowG n' → past'.length ≤ 200 → Q (.ref t) H'
def Pf1 (H0 : Hp) (a p d l : Addr) (c : Int) (r0 nc h0 : Nat) (i : Nat) (σ : St) (H : Hp) : Prop := ∃ (xs : List V) (o5 o6 : Option V), σ = [some (.ref a), some (.ref p), some (.ref d), some (.int c), some (.ref l), o5, o6] ∧ Same H0 H ∧ H l = some (.lst xs) ∧ xs.length = i ∧ FillV r0 nc H xs
def Pf3 (CS CT a ps l : Addr) (c : Int) (O0 : Hp) (n : Now) (past : List Now) (nc : Nat) (i : Nat) (σ : St) (H : Hp) : Prop := ∃ (p d : Addr) (rx : List V) (n' : Now) (past' : List Now) (o5 o6 : Option V), σ = [some (.ref a), some (.ref p), some (.ref d), some (.int c), some (.ref l), o5, o6] ∧ ShireV [] CS CT H a ps n'.1 n'.2 past' ∧ Same O0 (off [] a ps H) ∧ off [] a ps H p = some (.lst rx) ∧ RoadsV (off [] a ps H) rx n'.1 ∧ off [] a ps H d = some (.dK n'.2) ∧ NowG n' ∧ past'.length ≤ past.length + i ∧ (i ≤ nc → n'.2.length ≤ n.2.length + i ∧ n'.1.length = n.1.length) ∧ (nc ≤ i → n'.1.length = n.1.length + (i - nc))
theorem ok_filled (F : Fun K "_law_filled" "_law_filled" s_law_filled f fd) (n_len : mg "len" = none) (n_range : mg "range" = none) (F_law_name : Fn P w K mg base CX0 1 "_law_name" ["_law_k", "_law_seed"] sp_nameX) (F_law_do : Fn P w K mg base CX0 10 "_law_do" ["_law_shire", "_law_deed"] (fun vs H Q _ => sp_doX CS CT CNN CNP CNR CTM vs H Q E0)) (F_law_done : Fn P w K mg base CX0 3 "_law_done" ["_law_deed", "_law_roads", "_law_homes"] sp_done) : FnOk P w K mg base CX0 11 f fd ["_law_shire", "_law_roads", "_law_homes", "_law_cell"] (sp_filled CS CT) := by
 refine okQ F sc_law_filled (fun vs H Q E h => ?_) (fun cdv A outer s H vs Q E hr h => ?_)
 ·obtain ⟨a, ps, p, d, rx, n, past, c, rfl, _⟩ := h; rfl
 obtain ⟨a, ps, p, d, rx, n, past, c, rfl, hc, hS, hp, hR, hd, hN, h6, h30, hpl, q⟩ := h
 refine ⟨_, (b_cons (s_set 4 sc_law_filled.nd (q_lst a_nil))
   (b_cons (s_for PassesOwn.never (i_rng2 rfl n_range (a_c (q_lenD rfl n_len (a_c (q_v 2) a_nil)) (a_c (q_sub q_int (q_mod (q_v 3) q_int)) a_nil))) (g_name 5 sc_law_filled.nd) (b_one (s_expr (q_app (q_v 4) (a_c (q_tup (a_c q_str (a_c (q_fn F_law_name hr (by decide) rfl (a_c (q_v 5) (a_c q_int a_nil))) (a_c (q_mod (q_fdiv (q_v 3) q_int) (q_add (q_len rfl n_len (a_c (q_v 1) a_nil)) q_int)) a_nil)))) a_nil)))))
   (b_cons (s_for PassesOwn.never (i_rng2 rfl n_range (a_c (q_len rfl n_len (a_c (q_v 1) a_nil)) (a_c (q_sub q_int (q_mod (q_fdiv (q_v 3) q_int) q_int)) a_nil))) (g_name 5 sc_law_filled.nd) (b_one (s_expr (q_app (q_v 4) (a_c (q_tup (a_c q_str (a_c (q_mod (q_add (q_v 3) (q_v 5)) (q_add (q_v 5) q_int)) (a_c (q_tup (a_c (q_v 5) (a_c q_int a_nil))) a_nil)))) a_nil)))))
   (b_cons (s_for PassesOwn.never (i_list (q_v 4)) (g_name 6 sc_law_filled.nd) (b_one (s_if (t_w (w_or (t_ne (q_ixT (q_v 6) q_int) q_str) (w_or1 (t_ninD (hu_of hr) (q_ixT (q_v 6) q_int) (q_v 2))))) (b_cons (s_expr (q_fn F_law_do hr (by decide) rfl (a_c (q_v 0) (a_c (q_v 6) a_nil))))
   (b_one (s_asg (q_fn F_law_done hr (by decide) rfl (a_c (q_v 6) (a_c (q_v 1) (a_c (q_v 2) a_nil)))) (g_tup (n := 2) (gs_cons (g_name 1 sc_law_filled.nd) (gs_cons (g_name 2 sc_law_filled.nd) gs_nil)))))) b_nil)))
   (b_one (s_ret (q_tup (a_c (q_v 1) (a_c (q_v 2) a_nil))))))))), ?_⟩
 rw [show start ["_law_shire", "_law_roads", "_law_homes", "_law_cell", "_law_deeds", "_law_k", "_law_deed"] [.ref a, .ref p, .ref d, .int c] = [some (.ref a), some (.ref p), some (.ref d), some (.int c), none, none, none] from rfl]
 have hrl := hR.1
 refine seq_go fun B hB => ?_
 walk_at "rd"
 intro l H1 hl s1 e1
 subst hB
 try dsimp only
 refine seq_go fun B hB => ?_
 rw [tFor_rng2]
 walk_at "rd"
 refine ⟨n.2, .inl (s1 _ _ (off_sub _ _ hd)), ?_⟩
 refine ⟨by omega, by omega, by omega, by omega, ?_⟩
 obtain ⟨nc, enc, hnc⟩ : ∃ nc : Nat, (12 - c % 2 - (n.2.length : Int)).toNat = nc ∧ n.2.length + nc ≤ 12 := ⟨_, rfl, by omega⟩
 rw [enc]
 have fsnoc : ∀ {H' : Hp} {xs : List V} {x : V} {dd : Deed}, FillV n.1.length nc H' xs → DeedV H' x dd → FillD n.1.length nc xs.length dd → FillV n.1.length nc H' (xs ++ [x]) := by
  intro H' xs x dd h1 h2 h3 i y hy
  by_cases c : i < xs.length
  ·rw [List.getElem?_append_left c] at hy
   exact h1 i y hy
  ·rw [List.getElem?_append_right (by omega)] at hy
   have : i - xs.length = 0 := by
    have := (List.getElem?_eq_some_iff.mp hy).1
    simp at this
    omega
   rw [this] at hy
   cases hy
   have : i = xs.length := by omega
   subst this
   exact ⟨dd, h2, h3⟩
 have fkeep : ∀ {H' H'' : Hp} {xs : List V}, FillV n.1.length nc H' xs → (∀ b ys, H' b = some (.tup ys) → H'' b = some (.tup ys)) → FillV n.1.length nc H'' xs := fun h1 h2 i y hy => by
  obtain ⟨dd, h3, h4⟩ := h1 i y hy
  exact ⟨dd, h3.keep h2, h4⟩
 refine rngK_of (Pf1 H a p d l c n.1.length nc n.2.length) ⟨[], none, none, rfl, s1, e1, rfl, fun i x h => by simp at h⟩ (fun i σ H2 hi hP => ?_) (fun σ H2 hP => ?_)
 ·obtain ⟨xs, o5, o6, rfl, s2, e2, hxl, hF⟩ := hP
  walk_at "rd"
  refine ⟨⟨_, e2⟩, _, _, rfl, by omega, by omega, by decide, by decide, _, .inl (s2 _ _ (off_sub _ _ hp)), by omega, fun t H3 ht s3 e3 => ⟨_, s3 _ _ e2, by omega, ?_⟩⟩
  have nt : ∀ b ys, H3 b = some (.tup ys) → upd H3 l (.lst (xs ++ [.ref t])) b = some (.tup ys) := fun b ys e => by rw [upd_ne (ne_of e (s3 _ _ e2) (by intro z; cases z))]; exact e
  have hz : NameOk (nameZ ((n.2.length : Int) + (i : Int)) 399) := by
   rw [show (n.2.length : Int) + (i : Int) = ((n.2.length + i : Nat) : Int) by omega]
   exact name399 ⟨n.2.length + i, by omega⟩
  obtain ⟨kN, ekN, hkN⟩ : ∃ kN : Nat, c / 7 % ((rx.length : Int) + 1) = (kN : Int) ∧ kN ≤ n.1.length := by
   have m0 := Int.emod_nonneg (c / 7) (b := (rx.length : Int) + 1) (by omega)
   have m1 := Int.emod_lt_of_pos (c / 7) (b := (rx.length : Int) + 1) (by omega)
   exact ⟨(c / 7 % ((rx.length : Int) + 1)).toNat, by omega, by omega⟩
  rw [ekN] at e3
  refine ⟨_, _, _, rfl, same_upd hl (s2.trans s3), upd_same, by simp; omega, fsnoc (fkeep (fkeep hF fun b ys e => s3 _ _ e) nt) (dd := .come _ kN) ⟨t, rfl, nt _ _ e3⟩ ⟨hz, hkN, by omega⟩⟩
 obtain ⟨xs, o5, o6, rfl, s2, e2, hxl, hF⟩ := hP
 subst hB
 try dsimp only
 refine seq_go fun B hB => ?_
 rw [tFor_rng2]
 walk_at "rd"
 refine ⟨_, .inl (s2 _ _ (off_sub _ _ hp)), ?_⟩
 rw [hrl]
 refine ⟨by omega, by omega, by omega, by omega, ?_⟩
 obtain ⟨nb, enb, hnb⟩ : ∃ nb : Nat, (40 - c / 2 % 2 - (n.1.length : Int)).toNat = nb ∧ n.1.length + nb ≤ 40 := ⟨_, rfl, by omega⟩
 rw [enb]
 refine rngK_of (fun i => Pf1 H a p d l c n.1.length nc n.2.length (nc + i)) ⟨xs, o5, o6, rfl, s2, e2, hxl, hF⟩ (fun i σ H3 hi hP => ?_) (fun σ H3 hP => ?_)
 ·obtain ⟨xs, o5, o6, rfl, s3, e3, hxl, hF⟩ := hP
  walk_at "rd"
  refine ⟨⟨_, e3⟩, by omega, fun t1 H4 ht1 s4 e4 t H5 ht s5 e5 => ⟨_, (s4.trans s5) _ _ e3, by omega, ?_⟩⟩
  have e35 := (s4.trans s5) _ _ e3
  have nt : ∀ b ys, H5 b = some (.tup ys) → upd H5 l (.lst (xs ++ [.ref t])) b = some (.tup ys) := fun b ys e => by rw [upd_ne (ne_of e e35 (by intro z; cases z))]; exact e
  obtain ⟨kN, ekN, hkN⟩ : ∃ kN : Nat, (c + ((n.1.length : Int) + (i : Int))) % ((n.1.length : Int) + (i : Int) + 1) = (kN : Int) ∧ kN ≤ n.1.length + i := by
   have m0 := Int.emod_nonneg (c + ((n.1.length : Int) + (i : Int))) (b := (n.1.length : Int) + (i : Int) + 1) (by omega)
   have m1 := Int.emod_lt_of_pos (c + ((n.1.length : Int) + (i : Int))) (b := (n.1.length : Int) + (i : Int) + 1) (by omega)
   exact ⟨((c + ((n.1.length : Int) + (i : Int))) % ((n.1.length : Int) + (i : Int) + 1)).toNat, by omega, by omega⟩
  rw [ekN] at e5
  have e4' : H4 t1 = some (.tup [.int (qInt (n.1.length + i)).num, .int ((qInt (n.1.length + i)).den : Int)]) := by
   rw [e4, show (qInt (n.1.length + i)).num = (n.1.length : Int) + (i : Int) from by show ((n.1.length + i : Nat) : Int) = _; omega]
   rfl
  refine ⟨_, _, _, rfl, same_upd hl (s3.trans (s4.trans s5)), upd_same, by simp; omega, fsnoc (fkeep (fkeep hF fun b ys e => (s4.trans s5) _ _ e) nt) (dd := .build kN (qInt (n.1.length + i))) ⟨t, .ref t1, rfl, nt _ _ e5, t1, rfl, nt _ _ (s5 _ _ e4')⟩ ⟨by omega, by omega, ⟨?_, ?_⟩, ?_⟩⟩
  ·show ((n.1.length + i : Nat) : Int).natAbs < 2 ^ 98
   have : (2 : Nat) ^ 98 = 316912650057057350374175801344 := by decide
   rw [this]
   omega
  ·show 1 < 2 ^ 98
   decide
  ·show 0 ≤ ((n.1.length + i : Nat) : Int)
   omega
 obtain ⟨xs, o5, o6, rfl, s3, e3, hxl, hF⟩ := hP
 subst hB
 try dsimp only
 have hS3 := hS.same s3
 have O3 : Same (off [] a ps H) (off [] a ps H3) := off_same s3
 obtain ⟨_, _, _, _, q1, q2, _⟩ := id hS
 have ol : off [] a ps H3 l = some (.lst xs) := off_some.mpr ⟨fun z => (by rw [z, q1] at hl; cases hl), fun z => (by rw [z, q2] at hl; cases hl), (by simp), e3⟩
 refine seq_go fun B hB => ?_
 rw [tFor_list]
 walk_at "rd"
 refine listK_of (xs := xs) (Pf3 CS CT a ps l c (off [] a ps H3) n past nc) ⟨p, d, rx, n, past, _, _, rfl, hS3, fun _ _ e => e, O3 _ _ hp, hR.same O3, O3 _ _ hd, hN, Nat.le_refl _, fun _ => ⟨Nat.le_refl _, rfl⟩, fun z => by omega⟩ (fun i σ H4 hi hP => ?_) (fun i x σ H4 hi hP => ?_) (fun σ H4 hP => ?_)
 ·obtain ⟨p, d, rx, n', past', o5, o6, rfl, hS4, s4, _⟩ := hP
  exact .of (off_sub _ _ (s4 _ _ ol))
 ·obtain ⟨p, d, rx, n', past', o5, o6, rfl, hS4, s4, hp4, hR4, hd4, hN4, hpl4, hb1, hb2⟩ := hP
  have hil := (List.getElem?_eq_some_iff.mp hi).1
  obtain ⟨dd, hD, hFD⟩ := hF i x hi
  have hD4 : DeedV H4 x dd := hD.keep fun b ys e => off_sub _ _ (s4 _ _ (off_tups hS3 b ys e))
  refine if_go fun A1 hA1 C1 hC1 => ?_
  have hdo : ∀ o5, DeedG n' dd → (i + 1 ≤ nc → (done dd n').2.length ≤ n.2.length + (i + 1) ∧ (done dd n').1.length = n.1.length) → (nc ≤ i + 1 → (done dd n').1.length = n.1.length + (i + 1 - nc)) → A1 [some (V.ref a), some (V.ref p), some (V.ref d), some (V.int c), some (V.ref l), o5, some x] H4 := by
   intro o5 hG hc1 hc2
   subst hA1
   try dsimp only
   refine seq_go fun B2 hB2 => ?_
   walk_at "rd"
   obtain ⟨raw, hraw, hrs⟩ := good_raw (CNN := CNN) (CNP := CNP) (CNR := CNR) (CTM := CTM) (Q := fun _ H5 => B2 [some (V.ref a), some (V.ref p), some (V.ref d), some (V.int c), some (V.ref l), o5, some x] H5) (E := E0) hD4 hG hN4 hS4 (by omega) (fun v H5 k5 hS5 => by
    have so5 := k5.off (ex := [])
    have hD5 : DeedV H5 x dd := hD4.keep fun b ys e => off_sub _ _ (so5 _ _ (off_tups hS4 b ys e))
    subst hB2
    try dsimp only
    walk_at "rd"
    refine ⟨x, p, d, rx, dd, n', rfl, hD5, off_sub _ _ (so5 _ _ hp4), (hR4.same so5).same off_sub, off_sub _ _ (so5 _ _ hd4), hN4, hG, fun t' p' d' rx' H6 ht' hp' hd' s6 et' ep' hR' ed' => ?_⟩
    refine ⟨t', rfl, _, et', rfl, _, _, rfl, _, _, rfl, rfl, ?_⟩
    have so6 := so5.trans (off_same (ex := []) (a := a) (p := ps) s6)
    have hS6 := hS5.same s6
    exact ⟨p', d', rx', done dd n', past' ++ [n'], _, _, rfl, hS6, s4.trans so6, off_fresh hS5 hp' ep', hR'.keep (off_tups hS6), off_fresh hS5 hd' ed', done_g hN4 hG, by simp; omega, hc1, hc2⟩)
   exact ⟨[], a, ps, x, n', past', raw, rfl, hS4, hraw, hrs⟩
  cases dd with
  | come z k =>
   obtain ⟨g1, g2, g3⟩ := hFD
   obtain ⟨pt, rfl, ht⟩ := hD4
   obtain ⟨b1, b2⟩ := hb1 (by omega)
   walk_at "rd"
   refine ⟨_, ht, _, rfl, rfl, ?_⟩
   rw [if_neg (fun z => z rfl)]
   refine ⟨_, ht, _, rfl, n'.2, .inl (off_sub _ _ hd4), Sum.inr z, rfl, ite2 (fun c1 => ?_) (fun c1 => ?_)⟩
   ·refine hdo _ ⟨g1, fun y => ?_, by omega, by omega⟩ (fun _ => ⟨Nat.le_trans (length_putK _ _ _) (by omega), b2⟩) (fun _ => ?_)
    ·rw [show (valV n'.2 (Sum.inr z)).isSome = true from y] at c1; cases c1
    ·show n'.1.length = _
     omega
   ·subst hC1
    refine next_go ?_
    exact ⟨p, d, rx, n', past', _, _, rfl, hS4, s4, hp4, hR4, hd4, hN4, by omega, fun _ => ⟨by omega, b2⟩, fun _ => by omega⟩
  | build to t =>
   obtain ⟨g1, g2, g3, g4⟩ := hFD
   obtain ⟨pt, y, rfl, ht, hy⟩ := hD4
   have b2 := hb2 g1
   walk_at "rd"
   refine ⟨_, ht, _, rfl, rfl, ?_⟩
   rw [if_pos (by decide +kernel)]
   refine hdo _ ⟨by omega, g3, g4, by omega⟩ (fun _ => by omega) (fun _ => ?_)
   show (n'.1 ++ [(to, t)]).length = _
   simp
   omega
  | go z => exact hFD.elim
  | move z k => exact hFD.elim
  | reprice j t => exact hFD.elim
  | cut j t => exact hFD.elim
 ·obtain ⟨p, d, rx, n', past', o5, o6, rfl, hS4, s4, hp4, hR4, hd4, hN4, hpl4, hb1, hb2⟩ := hP
  subst hB
  try dsimp only
  walk_at "rd"
  intro t H5 ht s5 e5
  have so5 := off_same (ex := []) (a := a) (p := ps) s5
  exact q t p d rx n' past' H5 (O3.trans (s4.trans so5)) (hS4.same s5) e5 (so5 _ _ hp4) (hR4.same so5) (so5 _ _ hd4) hN4 (by omega)
end
section
variable {P : Program} {w : World} {K : PySem.W.Frag} {mg : Str → Option Value} {base : Heap} {f : Addr} {fd : FuncData} {CT CNP CS CND : Addr}
def sp_backX (CS CT CND : Addr) : Sp := fun vs H Q E => ∃ (ex : List Addr) (a ps : Addr) (rs : List (Nat × Rat)) (kvs : Kvs) (past : List Now), vs = [.ref a] ∧ ShireV ex CS CT H a ps rs kvs past ∧ past.length < 1000 ∧ (∀ past0 n, past = past0 ++ [n] → DoneQ ex CS CT a ps H n.1 n.2 past0 (Q .non)) ∧ (past = [] → E (.ref CND) none H)
theorem ok_backX (F : FunD K "back" "Shire.back" s_Shire_back .none f fd) (m_NoDeed : mg "NoDeed" = some (.ref CND)) (ec_NoDeed : ErrC K CND) (cls_Shire : Cls K CS) (nf_land : NoAttr K CS "land") (nf_places : NoAttr K CS "places") (nf_past : NoAttr K CS "past") : FnOk P w K mg base (CX1 P w) 1 f fd ["self"] (sp_backX CS CT CND) := by
 refine okX F sc_Shire_back (fun vs H Q E h => ?_) (fun cdv A outer s H vs Q E hr h => ?_)
 ·obtain ⟨ex, a, ps, rs, kvs, past, rfl, _⟩ := h; rfl
 obtain ⟨ex, a, ps, rs, kvs, past, rfl, hS, hpl, q, qE⟩ := h
 obtain ⟨dx, tr, ds, pv, h1, h2, h3, h4, h5, hx, hpx⟩ := id hS
 refine ⟨_, (b_cons (s_if (t_not (t_tru (q_fld (q_v 0)))) (b_one (s_raise goes_of m_NoDeed ec_NoDeed rfl (a_c q_str a_nil))) b_nil)
   (b_cons (s_set 1 sc_Shire_back.nd (q_popL (q_fld (q_v 0))))
   (b_cons (s_fld (q_v 0) (q_ixT (q_v 1) q_int))
   (b_one (s_fld (q_v 0) (q_ixT (q_v 1) q_int)))))), ?_⟩
 rw [show start ["self", "ahead"] [.ref a] = [some (.ref a), none] from rfl]
 have na : ps ≠ a := fun z => by rw [z, h1] at h2; cases h2
 by_cases c : past = []
 ·subst c
  have hpv : pv = [] := List.eq_nil_of_length_eq_zero h5.1
  subst hpv
  walk_at "rd"
  refine ⟨CS, dx, _, h1, cls_Shire, nf_past, .ref ps, rfl, false, .inl ⟨_, .of h2, rfl⟩, ?_⟩
  rw [if_pos rfl]
  exact qE rfl
 obtain ⟨past0, n, rfl⟩ : ∃ past0 n, past = past0 ++ [n] := ⟨past.dropLast, past.getLast c, (List.dropLast_concat_getLast _).symm⟩
 have q := q past0 n rfl
 have hlen : pv.length = past0.length + 1 := by rw [h5.1]; simp
 obtain ⟨pv', v, rfl⟩ : ∃ pv' v, pv = pv' ++ [v] := ⟨pv.dropLast, pv.getLast (by intro z; rw [z] at hlen; simp at hlen), (List.dropLast_concat_getLast _).symm⟩
 have hl' : pv'.length = past0.length := by simpa using hlen
 obtain ⟨p, tr0, ds0, rfl, g1, g2, g3⟩ := h5.2 past0.length v n (by rw [← hl']; simp) (by simp)
 have h5' : ListV (PastR CT) (off ex a ps H) pv' past0 := ⟨hl', fun i x m e1 e2 => h5.2 i x m (by rw [List.getElem?_append_left (List.getElem?_eq_some_iff.mp e1).1]; exact e1) (by rw [List.getElem?_append_left (List.getElem?_eq_some_iff.mp e2).1]; exact e2)⟩
 walk_at "rd"
 refine ⟨CS, dx, _, h1, cls_Shire, nf_past, .ref ps, rfl, true, .inl ⟨_, .of h2, by simp⟩, ?_⟩
 rw [if_neg (by decide)]
 have hdl : (pv' ++ [V.ref p]).dropLast = pv' := by simp
 have g1' := off_some.mp g1
 have np : p ≠ ps := g1'.2.1
 have npa : p ≠ a := g1'.1
 refine ⟨CS, dx, _, h1, cls_Shire, nf_past, .ref ps, rfl, ps, rfl, _, h2, .ref p, by simp, p, rfl, _, by rw [upd_ne np]; exact g1'.2.2.2, _, rfl, CS, dx, _, by rw [upd_ne (Ne.symm na)]; exact h1, cls_Shire, nf_land, (by show (3 : Nat) < 1000; decide), p, rfl, _, by rw [upd_ne npa, upd_ne np]; exact g1'.2.2.2, _, rfl, CS, dx, _, upd_same, cls_Shire, nf_places, (by show (3 : Nat) < 1000; decide), ?_⟩
 rw [hdl]
 have k2 := (KeepX.of (a := a) (p := ps) (fun (b : Addr) (o : HO) (e : H b = some o) => e)).upd (o := .lst pv') (.inr rfl)
 have k3 := k2.upd (o := .ins CS dx (putF (Str.ofString "land") tr0 [(Str.ofString "land", tr), (Str.ofString "places", V.ref ds), (Str.ofString "past", V.ref ps)])) (.inl rfl)
 have k4 := k3.upd (o := .ins CS dx (putF (Str.ofString "places") (V.ref ds0) (putF (Str.ofString "land") tr0 [(Str.ofString "land", tr), (Str.ofString "places", V.ref ds), (Str.ofString "past", V.ref ps)]))) (.inl rfl)
 have s4 := k4.off (ex := ex)
 have nax : a ∉ ex := fun z => by obtain ⟨zs, q⟩ := hx a z; rw [h1] at q; cases q
 refine q _ k4 ⟨dx, tr0, ds0, pv', ?_, ?_, g2.same s4, s4 _ _ g3, h5'.mono fun v m g => g.same s4, k4.lists hx nax hpx, hpx⟩
 ·rw [upd_same]
  rfl
 ·rw [upd_ne na, upd_ne na, upd_same]
end
section
variable {P : Program} {w : World} {K : PySem.W.Frag} {mg : Str → Option Value} {base : Heap} {f : Addr} {fd : FuncData} {CT CS CNN CNP CNR CTM CND CNF CNS CNX CNT CSE : Addr}
structure ErrF (K : PySem.W.Frag) (CNN CNP CNR CTM CND CNF CNS CNX CNT CSE : Addr) : Prop where
 wc : ∀ j, j < 4 → WordC K CNN CNP CNR CTM CND CNF CNS CNX CNT (errC CNN CNP CNR CTM j) j
 ex : ∀ j, j < 4 → PySem.W.exmOne K (.ref (errC CNN CNP CNR CTM j)) (.ref CSE) = some true
theorem errF (h0 : WordC K CNN CNP CNR CTM CND CNF CNS CNX CNT CNN 0) (h1 : WordC K CNN CNP CNR CTM CND CNF CNS CNX CNT CNP 1) (h2 : WordC K CNN CNP CNR CTM CND CNF CNS CNX CNT CNR 2) (h3 : WordC K CNN CNP CNR CTM CND CNF CNS CNX CNT CTM 3)
  (e0 : PySem.W.exmOne K (.ref CNN) (.ref CSE) = some true) (e1 : PySem.W.exmOne K (.ref CNP) (.ref CSE) = some true) (e2 : PySem.W.exmOne K (.ref CNR) (.ref CSE) = some true) (e3 : PySem.W.exmOne K (.ref CTM) (.ref CSE) = some true) : ErrF K CNN CNP CNR CTM CND CNF CNS CNX CNT CSE :=
 ⟨fun j hj => match j, hj with | 0, _ => h0 | 1, _ => h1 | 2, _ => h2 | 3, _ => h3, fun j hj => match j, hj with | 0, _ => e0 | 1, _ => e1 | 2, _ => e2 | 3, _ => e3⟩
theorem word_ne {j : Nat} (hj : j < 4) : wordOf j ≠ Str.ofString "none" := by
 match j, hj with
 | 0, _ => decide +kernel
 | 1, _ => decide +kernel
 | 2, _ => decide +kernel
 | 3, _ => decide +kernel
theorem DueB.same {H H' : Hp} {n : Now} {raw : Raw} {j : Nat} (h : DueB H n raw j) (hO : RawOk H raw) (s : Same H H') : DueB H' n raw j := by
 cases raw with
 | come z k => exact h
 | go z => exact h
 | move z k => exact h
 | reprice k y => exact h.imp id (fun ⟨h1, h2, h3⟩ => ⟨h1, h2, fun z => h3 ((prp_iff hO.1 s).mp z)⟩)
 | build k y => exact h.imp id (Or.imp (fun ⟨h1, h2, h3⟩ => ⟨h1, h2, fun z => h3 ((prp_iff hO.1 s).mp z)⟩) fun ⟨h1, h2, h3, h4⟩ => ⟨h1, h2, (prp_iff hO.1 s).mpr h3, h4⟩)
 | cut k y => exact h.imp id (Or.imp (fun ⟨h1, h2, h3⟩ => ⟨h1, h2, fun z => h3 ((prp_iff hO.1 s).mp z)⟩) fun ⟨h1, i, r, t, h2, h3, h4, h5⟩ => ⟨h1, i, r, t, h2, h3, h4.same s, h5⟩)
def sp_law (K : PySem.W.Frag) : Sp := fun vs H Q _ => ∃ (a : Addr) (ns : List Int), vs = [.ref a] ∧ SqL K H a (ns.map V.int) ∧ (∀ n ∈ ns, Fits n) ∧ ∀ H', Q (.bl true) H'
def Pl1 (CS CT s0 a ps : Addr) (O0 : Hp) (i : Nat) (σ : St) (H : Hp) : Prop := ∃ (p d : Addr) (rx : List V) (n : Now) (past : List Now) (o4 o5 : Option V), σ = [some (.ref s0), some (.ref p), some (.ref a), some (.ref d), o4, o5, none, none, none] ∧
 ShireV [] CS CT H a ps n.1 n.2 past ∧ Same O0 (off [] a ps H) ∧ off [] a ps H p = some (.lst rx) ∧ RoadsV (off [] a ps H) rx n.1 ∧ off [] a ps H d = some (.dK n.2) ∧ NowOk (3 + i) n ∧ past.length ≤ i
def Pl2 (CS CT s0 a ps p d t : Addr) (c : Int) (O1 : Hp) (n : Now) (past : List Now) (i : Nat) (σ : St) (H : Hp) : Prop := ∃ (o4 o5 o8 : Option V), σ = [some (.ref s0), some (.ref p), some (.ref a), some (.ref d), o4, o5, some (.int c), some (.ref t), o8] ∧ ShireV [] CS CT H a ps n.1 n.2 past ∧ Same O1 (off [] a ps H)
theorem ok_law (F : Fun K "law" "law" s_law f fd) (n_list : mg "list" = none) (n_len : mg "len" = none) (n_range : mg "range" = none) (n_max : mg "max" = none) (n_min : mg "min" = none) (n_abs : mg "abs" = none) (F_law_cell_at : Fn P w K mg base CX0 1 "_law_cell_at" ["_law_script", "_law_k"] (sp_cell K))
  (F_law_roads_by : Fn P w K mg base CX0 4 "_law_roads_by" ["_law_cell", "_law_most"] sp_roadsE) (F_law_numbers : Fn P w K mg base CX0 2 "_law_numbers" ["_law_cell", "_law_many"] sp_numbersE) (F_law_deed_by : Fn P w K mg base CX0 3 "_law_deed_by" ["_law_v", "_law_roads", "_law_homes", "_law_k"] sp_deedBy) (F_law_do : Fn P w K mg base CX0 10 "_law_do" ["_law_shire", "_law_deed"] (fun vs H Q _ => sp_doX CS CT CNN CNP CNR CTM vs H Q E0)) (F_law_done : Fn P w K mg base CX0 3 "_law_done" ["_law_deed", "_law_roads", "_law_homes"] sp_done)
  (F_law_filled : Fn P w K mg base CX0 11 "_law_filled" ["_law_shire", "_law_roads", "_law_homes", "_law_cell"] (sp_filled CS CT)) (F_law_faulty : Fn P w K mg base CX0 4 "_law_faulty" ["_law_v", "_law_roads", "_law_homes"] sp_faulty) (F_law_due : Fn P w K mg base CX0 3 "_law_due" ["_law_deed", "_law_roads", "_law_homes"] (sp_due K)) (F_law_got : Fn P w K mg base CX0 11 "_law_got" ["_law_shire", "_law_deed"] (sp_got K CS CT CNN CNP CNR CTM CND CNF CNS CNX CNT CSE)) (ef : ErrF K CNN CNP CNR CTM CND CNF CNS CNX CNT CSE)
  (F_law_stands : Fn P w K mg base CX0 2 "_law_stands" ["_law_shire", "_law_roads", "_law_homes"] (sp_stands CS CT)) (K_Tree : Mkr P w K mg base CX0 6 CT "Tree" ["self", "roads"] (sp_init CT)) (K_Shire : Mkr P w K mg base CX0 1 CS "Shire" ["self", "tree"] (sp_initS CS CT)) (M_back : Mth P w K mg base CX0 1 CS "back" ["self"] (fun vs H Q _ => sp_backX CS CT CND vs H Q E0)) : FnOk P w K mg base CX0 13 f fd ["_law_script"] (sp_law K) := by
 refine okQ F sc_law (fun vs H Q E h => ?_) (fun cdv A outer s H vs Q E hr h => ?_)
 ·obtain ⟨a, ns, rfl, _⟩ := h; rfl
 obtain ⟨s0, ns, rfl, hS, hF, q⟩ := h
 refine ⟨_, (b_cons (s_set 1 sc_law.nd (q_fn F_law_roads_by hr (by decide) rfl (a_c (q_fn F_law_cell_at hr (by decide) rfl (a_c (q_v 0) (a_c q_int a_nil))) (a_c q_int a_nil))))
   (b_cons (s_set 2 sc_law.nd (q_make K_Shire hr (by decide) rfl (a_c (q_make K_Tree hr (by decide) rfl (a_c (q_list rfl n_list (a_c (q_v 1) a_nil)) a_nil)) a_nil)))
   (b_cons (s_set 3 sc_law.nd q_dnew)
   (b_cons (s_for PassesOwn.never (i_rng2 rfl n_range (a_c q_int (a_c (q_max rfl n_max (a_c q_int (a_c (q_min rfl n_min (a_c (q_lenS rfl n_len (a_c (q_v 0) a_nil)) (a_c q_int a_nil))) a_nil))) a_nil))) (g_name 4 sc_law.nd) (b_cons (s_set 5 sc_law.nd (q_fn F_law_deed_by hr (by decide) rfl (a_c (q_fn F_law_numbers hr (by decide) rfl (a_c (q_fn F_law_cell_at hr (by decide) rfl (a_c (q_v 0) (a_c (q_v 4) a_nil))) (a_c q_int a_nil))) (a_c (q_v 1) (a_c (q_v 3) (a_c (q_v 4) a_nil))))))
   (b_cons (s_expr (q_fn F_law_do hr (by decide) rfl (a_c (q_v 2) (a_c (q_v 5) a_nil))))
   (b_one (s_asg (q_fn F_law_done hr (by decide) rfl (a_c (q_v 5) (a_c (q_v 1) (a_c (q_v 3) a_nil)))) (g_tup (n := 2) (gs_cons (g_name 1 sc_law.nd) (gs_cons (g_name 3 sc_law.nd) gs_nil))))))))
   (b_cons (s_set 6 sc_law.nd (q_abs rfl n_abs (a_c (q_fn F_law_cell_at hr (by decide) rfl (a_c (q_v 0) (a_c q_int a_nil))) a_nil)))
   (b_cons (s_if (t_eq (q_mod (q_v 6) q_int) q_int) (b_one (s_asg (q_fn F_law_filled hr (by decide) rfl (a_c (q_v 2) (a_c (q_v 1) (a_c (q_v 3) (a_c (q_fdiv (q_v 6) q_int) a_nil))))) (g_tup (n := 2) (gs_cons (g_name 1 sc_law.nd) (gs_cons (g_name 3 sc_law.nd) gs_nil))))) b_nil)
   (b_cons (s_set 7 sc_law.nd (q_tup (a_c (q_v 1) (a_c (q_v 3) a_nil))))
   (b_cons (s_expr (q_fn F_law_do hr (by decide) rfl (a_c (q_v 2) (a_c (q_ifE (t_lt (q_len rfl n_len (a_c (q_v 1) a_nil)) q_int) (q_tup (a_c q_str (a_c q_int (a_c (q_tup (a_c q_int (a_c q_int a_nil))) a_nil)))) (q_tup (a_c q_str (a_c q_int (a_c (q_tup (a_c q_int (a_c q_int a_nil))) a_nil))))) a_nil))))
   (b_cons (s_asg (q_fn F_law_done hr (by decide) rfl (a_c (q_ifE (t_lt (q_len rfl n_len (a_c (q_v 1) a_nil)) q_int) (q_tup (a_c q_str (a_c q_int (a_c (q_tup (a_c q_int (a_c q_int a_nil))) a_nil)))) (q_tup (a_c q_str (a_c q_int (a_c (q_tup (a_c q_int (a_c q_int a_nil))) a_nil))))) (a_c (q_v 1) (a_c (q_v 3) a_nil)))) (g_tup (n := 2) (gs_cons (g_name 1 sc_law.nd) (gs_cons (g_name 3 sc_law.nd) gs_nil))))
   (b_cons (s_for PassesOwn.never (i_rng2 rfl n_range (a_c q_int (a_c (q_max rfl n_max (a_c q_int (a_c (q_min rfl n_min (a_c (q_lenS rfl n_len (a_c (q_v 0) a_nil)) (a_c q_int a_nil))) a_nil))) a_nil))) (g_name 4 sc_law.nd) (b_cons (s_set 5 sc_law.nd (q_fn F_law_faulty hr (by decide) rfl (a_c (q_fn F_law_numbers hr (by decide) rfl (a_c (q_fn F_law_cell_at hr (by decide) rfl (a_c (q_v 0) (a_c (q_v 4) a_nil))) (a_c q_int a_nil))) (a_c (q_v 1) (a_c (q_v 3) a_nil)))))
   (b_cons (s_set 8 sc_law.nd (q_fn F_law_due hr (by decide) rfl (a_c (q_v 5) (a_c (q_v 1) (a_c (q_v 3) a_nil)))))
   (b_one (s_if (t_ne (q_v 8) q_str) (b_one (s_if (t_w (w_or (t_ne (q_fn F_law_got hr (by decide) rfl (a_c (q_v 2) (a_c (q_v 5) a_nil))) (q_v 8)) (w_or1 (t_not (t_val (q_fn F_law_stands hr (by decide) rfl (a_c (q_v 2) (a_c (q_v 1) (a_c (q_v 3) a_nil))))))))) (b_one (s_ret q_bl)) b_nil)) b_nil)))))
   (b_cons (s_expr (q_meth0 M_back hr (by decide) (q_v 2)))
   (b_one (s_ret (q_fn F_law_stands hr (by decide) rfl (a_c (q_v 2) (a_c (q_ixT (q_v 7) q_int) (a_c (q_ixT (q_v 7) q_int) a_nil))))))))))))))))), ?_⟩
 rw [show start ["_law_script", "_law_roads", "_law_shire", "_law_homes", "_law_k", "_law_deed", "_law_cell", "_law_ahead", "_law_due_here"] [.ref s0] = [some (.ref s0), none, none, none, none, none, none, none, none] from rfl]
 refine seq_go fun B hB => ?_
 walk_at "rd"
 refine ⟨s0, ns, 0, rfl, hS, _, _, rfl, cell_fits hF 0 (by decide), by decide, by decide, fun p H1 rx rs hp s1 e1 hR hT hl hn => ?_⟩
 subst hB
 try dsimp only
 refine seq_go fun B hB => ?_
 walk_at "rd"
 refine ⟨p, rx, rfl, .inl (.of e1), fun l2 H2 hl2 s2 e2 tf dt htf hdt hne => ?_⟩
 have old : ∀ b o, H2 b = some o → upd (upd H2 dt (.own tf)) tf (.ins CT dt []) b = some o := fun b o e => by rw [upd_ne (ne_of_none e htf), upd_ne (ne_of_none e hdt)]; exact e
 refine ⟨tf, dt, l2, rx, rs, rfl, upd_same, old _ _ e2, (hR.same s2).keep fun b ys e => old b _ e, hT, by omega, fun r hr => (hn r hr).2, fun H3 k3 hT3 _ => ⟨rfl, ?_⟩⟩
 have s3 : Same H2 H3 := fun b o e => k3 b o (ne_of_none e htf) (old b o e)
 clear old k3
 have s13 := s2.trans s3
 intro a da ha hda hne2
 have old : ∀ b o, H3 b = some o → upd (upd H3 da (.own a)) a (.ins CS da []) b = some o := fun b o e => by rw [upd_ne (ne_of_none e ha), upd_ne (ne_of_none e hda)]; exact e
 refine ⟨a, da, .ref tf, rs, rfl, upd_same, hT3.same fun b o e => old b o e, fun H4 ps k4 hps hS4 => ⟨rfl, ?_⟩⟩
 have s4 : Same H3 H4 := fun b o e => k4 b o (ne_of_none e ha) (old b o e)
 have hps3 : H3 ps = none := by
  cases z : H3 ps with
  | none => rfl
  | some o => rw [old _ _ z] at hps; cases hps
 clear old k4
 have s04 : Same H H4 := s1.trans (s13.trans s4)
 subst hB
 try dsimp only
 refine seq_go fun B hB => ?_
 have hNow0 : NowOk 3 (rs, []) := ⟨⟨hT, by omega, hn⟩, by simp, by simp, fun kv hk => by simp at hk⟩
 walk_at "rd"
 intro d H6 hd s6 e6
 have hS6 := hS4.same s6
 have nps : ∀ {b : Addr} {o : HO}, H3 b = some o → b ≠ ps := fun e => ne_of_none e hps3
 have na : ∀ {b : Addr} {o : HO}, H3 b = some o → b ≠ a := fun e => ne_of_none e ha
 have s36 := s4.trans s6
 have s37 : Same H3 (off [] a ps H6) := fun b o e => off_some.mpr ⟨na e, nps e, by simp, s36 _ _ e⟩
 have od : off [] a ps H6 d = some (.dK []) := off_fresh hS4 hd e6
 have op : off [] a ps H6 p = some (.lst rx) := s37 _ _ (s13 _ _ e1)
 have oR : RoadsV (off [] a ps H6) rx rs := hR.same (s13.trans s37)
 have oS : SqL K (off [] a ps H6) s0 (ns.map V.int) := (s1.trans (s13.trans s37)).seq hS
 subst hB
 try dsimp only
 refine seq_go fun B hB => ?_
 rw [tFor_rng2]
 walk_at "rd"
 refine ⟨_, .inl (off_sub.seq oS), ?_⟩
 obtain ⟨M, eM, hM⟩ : ∃ M : Int, (if 6 < if 11 < ((List.map V.int ns).length : Int) then 11 else ((List.map V.int ns).length : Int) then (if 11 < ((List.map V.int ns).length : Int) then 11 else ((List.map V.int ns).length : Int)) else 6) = M ∧ 6 ≤ M ∧ M ≤ 11 := ⟨_, rfl, by (repeat' split) <;> omega, by (repeat' split) <;> omega⟩
 rw [eM]
 refine ⟨by omega, by omega, ?_⟩
 refine rngK_of (Pl1 CS CT s0 a ps (off [] a ps H6)) ⟨p, d, rx, (rs, []), [], none, none, rfl, hS6, fun _ _ e => e, op, oR, od, hNow0, Nat.le_refl _⟩ (fun i σ H8 hi hP => ?_) (fun σ H8 hP => ?_)
 ·obtain ⟨p, d, rx, n, past, o4, o5, rfl, hS8, s8, hp8, hR8, hd8, hN8, hpl8⟩ := hP
  have hi15 : 3 + i < 11 := by omega
  have ek : (3 : Int) + (i : Int) = ((3 + i : Nat) : Int) := by omega
  refine seq_go fun B hB => ?_
  walk_at "rd"
  rw [ek]
  refine ⟨s0, ns, 3 + i, rfl, off_sub.seq (s8.seq oS), _, _, rfl, by decide, by decide, fun pv H9 xs hpv s9 e9 hxl hxb => ?_⟩
  have hxl5 : xs.length = 5 := by omega
  refine ⟨pv, p, d, xs, rx, n, 3 + i, rfl, e9, hxl5, hxb, s9 _ _ (off_sub _ _ hp8), (hR8.same off_sub).same s9, s9 _ _ (off_sub _ _ hd8), hN8, by omega, fun x dd H10 s10 hD hO => ?_⟩
  have s810 := s9.trans s10
  have hS10 := hS8.same s810
  have so10 : Same (off [] a ps H8) (off [] a ps H10) := off_same s810
  have hG := hO.g hN8 (show 3 + i < 23 by omega)
  have hNg := hN8.g (show 3 + i ≤ 23 by omega)
  subst hB
  try dsimp only
  refine seq_go fun B hB => ?_
  walk_at "rd"
  obtain ⟨raw, hraw, hrs⟩ := good_raw (CNN := CNN) (CNP := CNP) (CNR := CNR) (CTM := CTM) (Q := fun _ H5 => B [some (V.ref s0), some (V.ref p), some (V.ref a), some (V.ref d), some (V.int ((3 + i : Nat) : Int)), some x, none, none, none] H5) (E := E0) hD hG hNg hS10 (by omega) (fun v H15 k15 hS15 => by
   have so15 := so10.trans (k15.off (ex := []))
   have hD15 : DeedV H15 x dd := hD.keep fun b ys e => off_sub _ _ (k15.off (ex := []) _ _ (off_tups hS10 b ys e))
   subst hB
   try dsimp only
   walk_at "rd"
   refine ⟨x, p, d, rx, dd, n, rfl, hD15, off_sub _ _ (so15 _ _ hp8), (hR8.same so15).same off_sub, off_sub _ _ (so15 _ _ hd8), hNg, hG, fun t' p' d' rx' H16 ht' hp' hd' s16 et' ep' hR' ed' => ?_⟩
   refine ⟨t', rfl, _, et', rfl, _, _, rfl, _, _, rfl, rfl, ?_⟩
   have so16 := so15.trans (off_same (ex := []) (a := a) (p := ps) s16)
   have hS16 := hS15.same s16
   exact ⟨p', d', rx', done dd n, past ++ [n], _, _, rfl, hS16, s8.trans so16, off_fresh hS15 hp' ep', hR'.keep (off_tups hS16), off_fresh hS15 hd' ed', done_ok (show 3 + i < 23 by omega) hN8 hO, by simp; omega⟩)
  exact ⟨[], a, ps, x, n, past, raw, rfl, hS10, hraw, hrs⟩
 obtain ⟨p, d, rx, n, past, o4, o5, rfl, hS8, s8, hp8, hR8, hd8, hN8, hpl8⟩ := hP
 have hJ : ((M - 3).toNat : Int) = M - 3 := Int.toNat_of_nonneg (by omega)
 replace hpl8 : past.length ≤ 8 := by omega
 have hNg := hN8.g (show 3 + (M - 3).toNat ≤ 23 by omega)
 have h6 := hN8.2.2.1
 have h28 := hN8.1.2.1
 subst hB
 try dsimp only
 refine seq_go fun B hB => ?_
 walk_at "rd"
 refine ⟨s0, ns, 2, rfl, off_sub.seq (s8.seq oS), _, rfl, ?_⟩
 have hc0 : 0 ≤ (if cellOf ns 2 < 0 then -cellOf ns 2 else cellOf ns 2) := by split <;> omega
 generalize (if cellOf ns 2 < 0 then -cellOf ns 2 else cellOf ns 2) = c at hc0 ⊢
 subst hB
 try dsimp only
 refine seq_go fun B hB => ?_
 have rest : ∀ (p d : Addr) (rx : List V) (n : Now) (past : List Now) (H9 : Hp), ShireV [] CS CT H9 a ps n.1 n.2 past → Same (off [] a ps H8) (off [] a ps H9) → off [] a ps H9 p = some (.lst rx) → RoadsV (off [] a ps H9) rx n.1 → off [] a ps H9 d = some (.dK n.2) → NowG n → past.length ≤ 200 →
   B [some (V.ref s0), some (V.ref p), some (V.ref a), some (V.ref d), o4, o5, some (V.int c), none, none] H9 := by
  clear hp8 hR8 hd8 hN8 hNg hpl8 h6 h28 hS8 op oR od
  intro p d rx n past H9 hS9 s9 hp9 hR9 hd9 hN hpl
  subst hB
  try dsimp only
  refine seq_go fun B hB => ?_
  walk_at "rd"
  intro t H10 ht s10 e10
  have so10 := off_same (ex := []) (a := a) (p := ps) s10
  have hS10 := hS9.same s10
  have ot : off [] a ps H10 t = some (.tup [.ref p, .ref d]) := off_tups hS10 _ _ e10
  have s810 := s9.trans so10
  have hp10 := so10 _ _ hp9
  have hR10 := hR9.same so10
  have hd10 := so10 _ _ hd9
  clear hS9 s9 hp9 hR9 hd9 ht s10 so10 e10
  subst hB
  try dsimp only
  refine seq_go fun B hB => ?_
  have hmid : ∃ dd, DeedG n dd ∧ ∀ (H' : Hp) (Q' : VK), (∀ x H'', Same H' H'' → DeedV H'' x dd → Q' x H'') → H' p = some (.lst rx) → (if (rx.length : Int) < 40 then ∀ (p_1 : Addr) (H2 : Hp), H' p_1 = none → Same H' H2 → H2 p_1 = some (HO.tup [V.int 1, V.int 1]) → ∀ (p : Addr) (H2_1 : Hp), H2 p = none → Same H2 H2_1 → H2_1 p = some (HO.tup [V.str (Str.ofString "build"), V.int 0, V.ref p_1]) → Q' (V.ref p) H2_1
    else ∀ (p_1 : Addr) (H2 : Hp), H' p_1 = none → Same H' H2 → H2 p_1 = some (HO.tup [V.int 1, V.int 1]) → ∀ (p : Addr) (H2_1 : Hp), H2 p = none → Same H2 H2_1 → H2_1 p = some (HO.tup [V.str (Str.ofString "reprice"), V.int 1, V.ref p_1]) → Q' (V.ref p) H2_1) := by
   have z1 : SzQ 98 (qInt 1) := ⟨by decide, by decide⟩
   have hrl := hR10.1
   by_cases c4 : n.1.length < 40
   ·refine ⟨.build 0 (qInt 1), ⟨Nat.zero_le _, z1, by decide, c4⟩, fun H' Q' q' hp' => ?_⟩
    rw [if_pos (by omega)]
    exact fun p1 H1 hp1 s1 e1 p2 H2 hp2 s2 e2 => q' _ _ (s1.trans s2) ⟨p2, .ref p1, rfl, e2, p1, rfl, s2 _ _ e1⟩
   ·refine ⟨.reprice 0 (qInt 1), ⟨by omega, z1, by decide⟩, fun H' Q' q' hp' => ?_⟩
    rw [if_neg (by omega)]
    exact fun p1 H1 hp1 s1 e1 p2 H2 hp2 s2 e2 => q' _ _ (s1.trans s2) ⟨p2, .ref p1, rfl, e2, p1, rfl, s2 _ _ e1⟩
  obtain ⟨dd, hG, hmid⟩ := hmid
  walk_at "rd"
  refine ⟨rx, .inl (off_sub _ _ hp10), hmid H10 (fun x H' => sp_doX CS CT CNN CNP CNR CTM [V.ref a, x] H' (fun _ H1 => B [some (V.ref s0), some (V.ref p), some (V.ref a), some (V.ref d), o4, o5, some (V.int c), some (V.ref t), none] H1) E0) (fun x H11 s11 hD => ?_) (off_sub _ _ hp10)⟩
  have hS11 := hS10.same s11
  have so11 := off_same (ex := []) (a := a) (p := ps) s11
  obtain ⟨raw, hraw, hrs⟩ := good_raw (CNN := CNN) (CNP := CNP) (CNR := CNR) (CTM := CTM) (Q := fun _ H1 => B [some (V.ref s0), some (V.ref p), some (V.ref a), some (V.ref d), o4, o5, some (V.int c), some (V.ref t), none] H1) (E := E0) hD hG hN hS11 (by omega) (fun v H12 k12 hS12 => by
   have so12 := so11.trans (k12.off (ex := []))
   clear hD
   subst hB
   try dsimp only
   refine seq_go fun B hB => ?_
   walk_at "rd"
   refine ⟨rx, .inl (off_sub _ _ (so12 _ _ hp10)), hmid H12 (fun x H' => sp_done [x, V.ref p, V.ref d] H' _ E0) (fun x H13 s13 hD => ?_) (off_sub _ _ (so12 _ _ hp10))⟩
   have so13 := so12.trans (off_same (ex := []) (a := a) (p := ps) s13)
   have hS13 := hS12.same s13
   refine ⟨x, p, d, rx, dd, n, rfl, hD, off_sub _ _ (so13 _ _ hp10), (hR10.same so13).same off_sub, off_sub _ _ (so13 _ _ hd10), hN, hG, fun t' p' d' rx' H14 ht' hp' hd' s14 et' ep' hR' ed' => ?_⟩
   refine ⟨t', rfl, _, et', rfl, _, _, rfl, _, _, rfl, rfl, ?_⟩
   have so14 := so13.trans (off_same (ex := []) (a := a) (p := ps) s14)
   have hS14 := hS13.same s14
   have op' := off_fresh hS13 hp' ep'
   have oR' := hR'.keep (off_tups hS14)
   have od' := off_fresh hS13 hd' ed'
   have hN' := done_g hN hG
   generalize hn' : done dd n = n' at hS14 oR' od' hN'
   clear hmid hD hS11 hS12 hS13 ht' hp' hd' et' ep' hR' ed' s14 s11 k12 so11 so12 so13
   subst hB
   try dsimp only
   refine seq_go fun B hB => ?_
   rw [tFor_rng2]
   walk_at "rd"
   refine ⟨_, .inl (off_sub.seq (so14.seq (s810.seq (s8.seq oS)))), ?_⟩
   obtain ⟨M2, eM2, hM2⟩ : ∃ M : Int, (if 14 < if 23 < ((List.map V.int ns).length : Int) then 23 else ((List.map V.int ns).length : Int) then (if 23 < ((List.map V.int ns).length : Int) then 23 else ((List.map V.int ns).length : Int)) else 14) = M ∧ 14 ≤ M ∧ M ≤ 23 := ⟨_, rfl, by (repeat' split) <;> omega, by (repeat' split) <;> omega⟩
   rw [eM2]
   refine ⟨by omega, by omega, ?_⟩
   refine rngK_of (Pl2 CS CT s0 a ps p' d' t c (off [] a ps H14) n' (past ++ [n])) ⟨_, _, _, rfl, hS14, fun _ _ e => e⟩ (fun i σ H15 hi hP => ?_) (fun σ H15 hP => ?_)
   ·obtain ⟨o4, o5, o8, rfl, hS15, so15⟩ := hP
    have hi23 : 11 + i < 23 := by omega
    have ek : (11 : Int) + (i : Int) = ((11 + i : Nat) : Int) := by omega
    refine seq_go fun B hB => ?_
    walk_at "rd"
    rw [ek]
    refine ⟨s0, ns, 11 + i, rfl, off_sub.seq (so15.seq (so14.seq (s810.seq (s8.seq oS)))), _, _, rfl, by decide, by decide, fun pv H16 xs hpv s16 e16 hxl hxb => ?_⟩
    have hxl6 : xs.length = 6 := by omega
    have hS16 := hS15.same s16
    have so16 := so15.trans (off_same (ex := []) (a := a) (p := ps) s16)
    refine ⟨pv, p', d', xs, rx', n', rfl, e16, hxl6, hxb, off_sub _ _ (so16 _ _ op'), (oR'.same so16).same off_sub, off_sub _ _ (so16 _ _ od'), hN', fun x raw H17 s17 hRV hRO => ?_⟩
    have hS17 := hS16.same s17
    have so17 := so16.trans (off_same (ex := []) (a := a) (p := ps) s17)
    subst hB
    try dsimp only
    refine seq_go fun B hB => ?_
    walk_at "rd"
    refine ⟨x, p', d', rx', raw, n', rfl, hRV, hRO, off_sub _ _ (so17 _ _ op'), (oR'.same so17).same off_sub, off_sub _ _ (so17 _ _ od'), hN', fun H18 s18 => ?_, fun j H18 s18 hj hdue => ?_⟩
    ·subst hB
     try dsimp only
     walk_at "rd"
     exact ⟨_, _, _, rfl, hS17.same s18, so17.trans (off_same s18)⟩
    ·have hS18 := hS17.same s18
     have so18 := so17.trans (off_same (ex := []) (a := a) (p := ps) s18)
     subst hB
     try dsimp only
     walk_at "rd"
     rw [if_pos (word_ne hj)]
     refine ⟨[], a, ps, x, n', past ++ [n], raw, _, j, rfl, hS18, hRV.same s18, ef.wc j hj, hj, ef.ex j hj, due_raw (hdue.same hRO s18) hN' (hRO.same s18) hS18 (by simp; omega), fun H19 s19 => ⟨rfl, ?_⟩⟩
     rw [if_neg (fun z => z rfl)]
     have hS19 := hS18.same s19
     have so19 := so18.trans (off_same (ex := []) (a := a) (p := ps) s19)
     refine ⟨[], a, ps, p', d', rx', n', past ++ [n], rfl, hS19, off_sub _ _ (so19 _ _ op'), (oR'.same so19).same off_sub, off_sub _ _ (so19 _ _ od'), hN'.2, fun H20 s20 => ⟨true, rfl, ?_⟩⟩
     rw [if_neg (by decide)]
     exact ⟨_, _, _, rfl, hS19.same s20, so19.trans (off_same s20)⟩
   ·obtain ⟨o4, o5, o8, rfl, hS15, so15⟩ := hP
    subst hB
    try dsimp only
    refine seq_go fun B hB => ?_
    walk_at "rd"
    obtain ⟨dx, _, _, _, f1, _⟩ := id hS15
    refine ⟨dx, _, f1, rfl, [], a, ps, n'.1, n'.2, past ++ [n], rfl, hS15, by simp; omega, fun past1 n1 e => ?_, fun z => absurd z (by simp)⟩
    obtain ⟨rfl, ez⟩ := List.append_inj' e rfl
    clear e
    cases ez
    intro H16 k16 hS16
    have so16 := (so14.trans so15).trans (k16.off (ex := []))
    subst hB
    try dsimp only
    walk_at "rd"
    have et := off_sub _ _ (so16 _ _ ot)
    exact ⟨_, et, _, rfl, _, et, _, rfl, [], a, ps, p, d, rx, n, past, rfl, hS16, off_sub _ _ (so16 _ _ hp10), (hR10.same so16).same off_sub, off_sub _ _ (so16 _ _ hd10), hN.2, fun H17 s17 => q _⟩)
  exact ⟨[], a, ps, x, n, past, raw, rfl, hS11, hraw, hrs⟩
 walk_at "rd"
 refine ite2 (fun c1 => ?_) (fun c1 => rest p d rx n past H8 hS8 (fun _ _ e => e) hp8 hR8 hd8 hNg (by omega))
 refine ⟨a, ps, p, d, rx, n, past, c / 6, rfl, by omega, hS8, hp8, hR8, hd8, hNg, h6, by omega, by omega, fun t p' d' rx' n' past' H9 s9 hS9 e9 hp9 hR9 hd9 hN9 hpl9 => ?_⟩
 refine ⟨t, rfl, _, e9, rfl, _, _, rfl, _, _, rfl, rfl, ?_⟩
 exact rest p' d' rx' n' past' H9 hS9 s9 hp9 hR9 hd9 hN9 (by omega)
end
theorem len1 {Pr : List Value → Prop} (us : List Value) (h : us.length = 1) (k : ∀ a, Pr [a]) : Pr us := by
 match us, h with
 | [a], _ => exact k a
theorem len2 {Pr : List Value → Prop} (us : List Value) (h : us.length = 2) (k : ∀ a b, Pr [a, b]) : Pr us := by
 match us, h with
 | [a, b], _ => exact k a b
theorem len3 {Pr : List Value → Prop} (us : List Value) (h : us.length = 3) (k : ∀ a b c, Pr [a, b, c]) : Pr us := by
 match us, h with
 | [a, b, c], _ => exact k a b c
theorem len4 {Pr : List Value → Prop} (us : List Value) (h : us.length = 4) (k : ∀ a b c d, Pr [a, b, c, d]) : Pr us := by
 match us, h with
 | [a, b, c, d], _ => exact k a b c d
theorem fn_mk {P : Program} {w : World} {K : PySem.W.Frag} {mg : Str → Option Value} {base h : Heap} {k : Nat} {x : Str} {ps : List Str} {sp : Sp} {f : Addr} {fd : FuncData} (X : K.In h) (G : h.Ns mainGlobals mg) (a : PySem.W.nsIn K mainGlobals x = some (some (.ref f)))
  (kp : PySem.W.keepIn K (.ref f) = true) (b : Binds K fd ps []) (o : FnOk P w K mg base CX0 k f fd ps sp) : Fn P w K mg base CX0 k x ps sp := ⟨f, fd, o, b, kp, PySem.W.mg_of X G a⟩
open PySem.W in
theorem fits_of {ns : List Int} (h : WData.layable (.list (ns.map .int)) = true) : ∀ n ∈ ns, Fits n := by
 intro n hn
 unfold WData.layable at h
 simp only [Bool.and_eq_true, decide_eq_true_eq] at h
 have h2 : WData.weight (.list (ns.map .int)) ≤ 2 ^ 20 := h.2
 have key : ∀ l : List Int, n ∈ l → Builtin.Int.intBits n ≤ WData.weightAll (l.map WData.int) := by
  intro l
  induction l with
  | nil => intro h; cases h
  | cons m l ih =>
   intro h
   rw [List.map_cons]
   unfold WData.weightAll
   rcases List.mem_cons.mp h with rfl | h
   ·have : WData.weight (.int n) = Builtin.Int.intBits n := by unfold WData.weight Builtin.Int.intBits; rfl
    omega
   ·have := ih h
    omega
 have h3 := key ns hn
 unfold WData.weight at h2
 exact Nat.le_trans h3 h2
open PySem.W PySem.Calls Att in
theorem attach_fits {l : OpenLaw} {n : Nat} {q : Program} {loose : List Str} {XP : (Str → Option Value) → Heap → Prop} {YP : World → Heap → Prop} {d : DefRec}
  (hn : l.most = some n) (hdf : d.params.defaults = [])
  (call : ∀ (w : World) (s₀ s₁ : Shared) (mg mb : Str → Option Value) (fa : Addr) (o : Obj) (pm cd doc : Value) (a : Addr) (vs : List Value) (ns : List Int),
   Ground q loose [] XP w s₀ mg mb s₁.heap → YP w s₁.heap →
   s₁.heap.get? fa = some o → o.data = .func (docDef d.name d.params d.body d.scope pm cd doc) → s₁.heap.CodeRec cd d.name → mg d.name = some (.ref fa) →
   s₁.heap.get? a = some { cls := .type "list", data := .seq vs.toArray } → IntsAre vs ns → ns.length ≤ n → (∀ m ∈ ns, Fits m) → s₁.gens = #[] →
   codeAny (model l.prog w) callerA (.call (.ref fa) ⟨[.ref a], []⟩) (fun r s' => r = .ok (.ret (.bool true)) ∧ OldK s₁.heap s'.heap ∧ s'.os = s₁.os ∧ AllBare s'.gens) s₁) :
  WalkO q loose XP YP l.row.toRowW d [] (fun f vs => PySem.call f vs) := by
 intro w s₀ s₁ mg mb G Y fa o pm cd doc dV kV ho hd hcd hD hmg hg args vals as hpre hlay hrd hwl hlo
 obtain rfl : dV = .none := Dflts.none hD hdf
 obtain rfl : kV = .none := Dflts.noKw hD
 obtain ⟨a, vs, ns, rfl, rfl, hobj, hints, hlen⟩ := script_of hn hpre hwl
 have hfit := fits_of (ns := ns) (by simpa [WData.layableAll] using hlay)
 refine enter_call (codeAny_mono (call w s₀ s₁ mg mb fa o pm cd doc a vs ns G Y ho (fd_plain hd) hcd hmg hobj hints hlen hfit hg) fun r s' hq => ?_)
 obtain ⟨rfl, h2, h3, h4⟩ := hq
 exact ⟨.inl ⟨.bool true, .bool true, [], rfl, fun _ => rfl, .bool true, post_true l _, fun _ => ⟨List.Pairwise.nil, fun _ hm => (nomatch hm)⟩⟩, h2, h3, h4⟩
theorem walk_fits {l : PySem.W.OpenLaw} {n k : Nat} {q : Program} {loose : List Str} {XP : (Str → Option Value) → Heap → Prop} {YP : World → Heap → Prop} {d : DefRec} {K : Params → PySem.W.Frag} {CX : CXT} {sp : PySem.W.Frag → Sp} {x : Str}
  (hn : l.most = some n) (hn2 : n ≤ sizeLine) (hdf : d.params.defaults = []) (hr : Room k callerA)
  (hY : ∀ (w : World) (h : Heap), YP w h → (K w.params).In h)
  (F : ∀ (w : World) (mg : Str → Option Value) (fa : Addr) (h : Heap), (K w.params).In h → h.Ns mainGlobals mg → mg d.name = some (.ref fa) →
   ∃ fd : FuncData, (∀ (s : Shared) (u : Value), BindsTo s fd ⟨[u], []⟩ [(x, u)]) ∧
    ∀ base : Heap, (K w.params).In base → base.Ns mainGlobals mg → FnOk l.prog w (K w.params) mg base CX k fa fd [x] (sp (K w.params)))
  (hsp : ∀ (K : PySem.W.Frag) (H : Hp) (a : Addr) (ns : List Int), ns.length ≤ n → (∀ m ∈ ns, Fits m) → Only H → SqL K H a (ns.map V.int) → sp K [.ref a] H (fun v _ => v = .bl true) fun _ _ _ => False)
  (hCX : ∀ (H : Hp) (s : Shared) (e : Value) (s' : Shared), CX [] H s (fun _ _ _ => False) e s' → False) :
  PySem.W.WalkO q loose XP YP l.row.toRowW d [] (fun f vs => PySem.call f vs) := by
 refine attach_fits hn hdf fun w s₀ s₁ mg mb fa o pm cd doc a vs ns G Y ho hd hcd hmg hobj hints hlen hfit hg => ?_
 have KX := hY w _ Y
 obtain ⟨fd, hb, hF⟩ := F w mg fa _ KX G.T.g hmg
 exact law_call KX G.T.g G.T.b G.T.builtins G.T.nolimit hg hobj hints (Nat.le_trans hlen hn2) hr hF hb (fun H hO hS => hsp (K w.params) H a ns hlen hfit hO hS) fun H e s' => hCX H s₁ e s'
theorem all_mk {l : PySem.W.OpenLaw} {w : World} {K : PySem.W.Frag} {h : Heap} {mg : Str → Option Value} {fa : Addr} {f0 : Addr} {od0 an0 : Option Addr} {sl0 : Array (Option Value)} {oc0 kV0 dc0 pm0 cd0 ct0 : Value} {f1 : Addr} {od1 an1 : Option Addr} {sl1 : Array (Option Value)} {oc1 kV1 dc1 pm1 cd1 ct1 : Value} {f2 : Addr} {od2 an2 : Option Addr} {sl2 : Array (Option Value)} {oc2 kV2 dc2 pm2 cd2 ct2 : Value} {f3 : Addr} {od3 an3 : Option Addr} {sl3 : Array (Option Value)} {oc3 kV3 dc3 pm3 cd3 ct3 : Value} {T3 tn3 : Nat} {tc3 : Value} {td3 : Option Addr} {ts3 : Array (Option Value)} {tk3_0 : Tok} {f4 : Addr} {od4 an4 : Option Addr} {sl4 : Array (Option Value)} {oc4 kV4 dc4 pm4 cd4 ct4 : Value} {f5 : Addr} {od5 an5 : Option Addr} {sl5 : Array (Option Value)} {oc5 kV5 dc5 pm5 cd5 ct5 : Value} {tk_MOST_LETTERS : Tok} {tk_LETTERS : Tok} {f8 : Addr} {od8 an8 : Option Addr} {sl8 : Array (Option Value)} {oc8 kV8 dc8 pm8 cd8 ct8 : Value} {f9 : Addr} {od9 an9 : Option Addr} {sl9 : Array (Option Value)} {oc9 kV9 dc9 pm9 cd9 ct9 : Value} {f10 : Addr} {od10 an10 : Option Addr} {sl10 : Array (Option Value)} {oc10 kV10 dc10 pm10 cd10 ct10 : Value} {tk_MOST_ROADS : Tok} {cSE : Addr} {cNN : Addr} {cNP : Addr} {cNR : Addr} {cTM : Addr} {cNT : Addr} {cND : Addr} {cNF : Addr} {cNS : Addr} {cNX : Addr} {clsd0 clsd1 clsd2 clsd3 : ClassData} {f98 : Addr} {od98 an98 : Option Addr} {sl98 : Array (Option Value)} {oc98 kV98 dc98 pm98 cd98 ct98 : Value} {f99 : Addr} {od99 an99 : Option Addr} {sl99 : Array (Option Value)} {oc99 kV99 dc99 pm99 cd99 ct99 : Value} {cTree : Addr} {f107 : Addr} {od107 an107 : Option Addr} {sl107 : Array (Option Value)} {oc107 kV107 dc107 pm107 cd107 ct107 : Value} {f115 : Addr} {od115 an115 : Option Addr} {sl115 : Array (Option Value)} {oc115 kV115 dc115 pm115 cd115 ct115 : Value} {f116 : Addr} {od116 an116 : Option Addr} {sl116 : Array (Option Value)} {oc116 kV116 dc116 pm116 cd116 ct116 : Value} {f117 : Addr} {od117 an117 : Option Addr} {sl117 : Array (Option Value)} {oc117 kV117 dc117 pm117 cd117 ct117 : Value} {f118 : Addr} {od118 an118 : Option Addr} {sl118 : Array (Option Value)} {oc118 kV118 dc118 pm118 cd118 ct118 : Value} {f119 : Addr} {od119 an119 : Option Addr} {sl119 : Array (Option Value)} {oc119 kV119 dc119 pm119 cd119 ct119 : Value} {f120 : Addr} {od120 an120 : Option Addr} {sl120 : Array (Option Value)} {oc120 kV120 dc120 pm120 cd120 ct120 : Value} {tk_MOST_VILLAGES : Tok} {f122 : Addr} {od122 an122 : Option Addr} {sl122 : Array (Option Value)} {oc122 kV122 dc122 pm122 cd122 ct122 : Value} {f123 : Addr} {od123 an123 : Option Addr} {sl123 : Array (Option Value)} {oc123 kV123 dc123 pm123 cd123 ct123 : Value} {f124 : Addr} {od124 an124 : Option Addr} {sl124 : Array (Option Value)} {oc124 kV124 dc124 pm124 cd124 ct124 : Value} {f125 : Addr} {od125 an125 : Option Addr} {sl125 : Array (Option Value)} {oc125 kV125 dc125 pm125 cd125 ct125 : Value} {cShire : Addr} {f127 : Addr} {od127 an127 : Option Addr} {sl127 : Array (Option Value)} {oc127 kV127 dc127 pm127 cd127 ct127 : Value} {f128 : Addr} {od128 an128 : Option Addr} {sl128 : Array (Option Value)} {oc128 kV128 dc128 pm128 cd128 ct128 : Value} {f129 : Addr} {od129 an129 : Option Addr} {sl129 : Array (Option Value)} {oc129 kV129 dc129 pm129 cd129 ct129 : Value} {f130 : Addr} {od130 an130 : Option Addr} {sl130 : Array (Option Value)} {oc130 kV130 dc130 pm130 cd130 ct130 : Value} {f131 : Addr} {od131 an131 : Option Addr} {sl131 : Array (Option Value)} {oc131 kV131 dc131 pm131 cd131 ct131 : Value} {f132 : Addr} {od132 an132 : Option Addr} {sl132 : Array (Option Value)} {oc132 kV132 dc132 pm132 cd132 ct132 : Value} {f133 : Addr} {od133 an133 : Option Addr} {sl133 : Array (Option Value)} {oc133 kV133 dc133 pm133 cd133 ct133 : Value} {f134 : Addr} {od134 an134 : Option Addr} {sl134 : Array (Option Value)} {oc134 kV134 dc134 pm134 cd134 ct134 : Value} {f135 : Addr} {od135 an135 : Option Addr} {sl135 : Array (Option Value)} {oc135 kV135 dc135 pm135 cd135 ct135 : Value} {f136 : Addr} {od136 an136 : Option Addr} {sl136 : Array (Option Value)} {oc136 kV136 dc136 pm136 cd136 ct136 : Value} {f137 : Addr} {od137 an137 : Option Addr} {sl137 : Array (Option Value)} {oc137 kV137 dc137 pm137 cd137 ct137 : Value} {f138 : Addr} {od138 an138 : Option Addr} {sl138 : Array (Option Value)} {oc138 kV138 dc138 pm138 cd138 ct138 : Value} {f139 : Addr} {od139 an139 : Option Addr} {sl139 : Array (Option Value)} {oc139 kV139 dc139 pm139 cd139 ct139 : Value} {f140 : Addr} {od140 an140 : Option Addr} {sl140 : Array (Option Value)} {oc140 kV140 dc140 pm140 cd140 ct140 : Value} {f141 : Addr} {od141 an141 : Option Addr} {sl141 : Array (Option Value)} {oc141 kV141 dc141 pm141 cd141 ct141 : Value} {f142 : Addr} {od142 an142 : Option Addr} {sl142 : Array (Option Value)} {oc142 kV142 dc142 pm142 cd142 ct142 : Value} {f143 : Addr} {od143 an143 : Option Addr} {sl143 : Array (Option Value)} {oc143 kV143 dc143 pm143 cd143 ct143 : Value} {f144 : Addr} {od144 an144 : Option Addr} {sl144 : Array (Option Value)} {oc144 kV144 dc144 pm144 cd144 ct144 : Value} {f145 : Addr} {od145 an145 : Option Addr} {sl145 : Array (Option Value)} {oc145 kV145 dc145 pm145 cd145 ct145 : Value} {f146 : Addr} {od146 an146 : Option Addr} {sl146 : Array (Option Value)} {oc146 kV146 dc146 pm146 cd146 ct146 : Value} {f147 : Addr} {od147 an147 : Option Addr} {sl147 : Array (Option Value)} {oc147 kV147 dc147 pm147 cd147 ct147 : Value} {f148 : Addr} {od148 an148 : Option Addr} {sl148 : Array (Option Value)} {oc148 kV148 dc148 pm148 cd148 ct148 : Value} {f149 : Addr} {od149 an149 : Option Addr} {sl149 : Array (Option Value)} {oc149 kV149 dc149 pm149 cd149 ct149 : Value} {f150 : Addr} {od150 an150 : Option Addr} {sl150 : Array (Option Value)} {oc150 kV150 dc150 pm150 cd150 ct150 : Value} {f151 : Addr} {od151 an151 : Option Addr} {sl151 : Array (Option Value)} {oc151 kV151 dc151 pm151 cd151 ct151 : Value} {f152 : Addr} {od152 an152 : Option Addr} {sl152 : Array (Option Value)} {oc152 kV152 dc152 pm152 cd152 ct152 : Value} {f153 : Addr} {od153 an153 : Option Addr} {sl153 : Array (Option Value)} {oc153 kV153 dc153 pm153 cd153 ct153 : Value} {f154 : Addr} {od154 an154 : Option Addr} {sl154 : Array (Option Value)} {oc154 kV154 dc154 pm154 cd154 ct154 : Value} {f155 : Addr} {od155 an155 : Option Addr} {sl155 : Array (Option Value)} {oc155 kV155 dc155 pm155 cd155 ct155 : Value} {f156 : Addr} {od156 an156 : Option Addr} {sl156 : Array (Option Value)} {oc156 kV156 dc156 pm156 cd156 ct156 : Value} {f157 : Addr} {od157 an157 : Option Addr} {sl157 : Array (Option Value)} {oc157 kV157 dc157 pm157 cd157 ct157 : Value} {f158 : Addr} {od158 an158 : Option Addr} {sl158 : Array (Option Value)} {oc158 kV158 dc158 pm158 cd158 ct158 : Value} {f159 : Addr} {od159 an159 : Option Addr} {sl159 : Array (Option Value)} {oc159 kV159 dc159 pm159 cd159 ct159 : Value} {f160 : Addr} {od160 an160 : Option Addr} {sl160 : Array (Option Value)} {oc160 kV160 dc160 pm160 cd160 ct160 : Value} {f161 : Addr} {od161 an161 : Option Addr} {sl161 : Array (Option Value)} {oc161 kV161 dc161 pm161 cd161 ct161 : Value}
  (X : K.In h) (G : h.Ns mainGlobals mg) (hfa : mg "law" = some (.ref fa))
  (a0 : PySem.W.nsIn K mainGlobals "is_whole" = some (some (.ref f0)))
  (l0 : K.lookup f0 = some ⟨oc0, od0, .func (PySem.W.fnOf "is_whole" "is_whole" (defArgs s_is_whole) (defBody s_is_whole) (defScope s_is_whole) .none kV0 dc0 pm0 an0 cd0 ct0), sl0⟩)
  (c0 : PySem.W.codeIn K cd0 "is_whole" = true)
  (k0 : PySem.W.keepIn K (.ref f0) = true)
  (a1 : PySem.W.nsIn K mainGlobals "greatest_divisor" = some (some (.ref f1)))
  (l1 : K.lookup f1 = some ⟨oc1, od1, .func (PySem.W.fnOf "greatest_divisor" "greatest_divisor" (defArgs s_greatest_divisor) (defBody s_greatest_divisor) (defScope s_greatest_divisor) .none kV1 dc1 pm1 an1 cd1 ct1), sl1⟩)
  (c1 : PySem.W.codeIn K cd1 "greatest_divisor" = true)
  (k1 : PySem.W.keepIn K (.ref f1) = true)
  (a2 : PySem.W.nsIn K mainGlobals "is_ratio" = some (some (.ref f2)))
  (l2 : K.lookup f2 = some ⟨oc2, od2, .func (PySem.W.fnOf "is_ratio" "is_ratio" (defArgs s_is_ratio) (defBody s_is_ratio) (defScope s_is_ratio) .none kV2 dc2 pm2 an2 cd2 ct2), sl2⟩)
  (c2 : PySem.W.codeIn K cd2 "is_ratio" = true)
  (k2 : PySem.W.keepIn K (.ref f2) = true)
  (a3 : PySem.W.nsIn K mainGlobals "ratio" = some (some (.ref f3)))
  (l3 : K.lookup f3 = some ⟨oc3, od3, .func (PySem.W.fnOf "ratio" "ratio" (defArgs s_ratio) (defBody s_ratio) (defScope s_ratio) (.ref T3) kV3 dc3 pm3 an3 cd3 ct3), sl3⟩)
  (c3 : PySem.W.codeIn K cd3 "ratio" = true)
  (k3 : PySem.W.keepIn K (.ref f3) = true)
  (t3 : K.lookup T3 = some ⟨tc3, td3, .seq #[.int 1 tk3_0] tn3, ts3⟩)
  (a4 : PySem.W.nsIn K mainGlobals "rest_of" = some (some (.ref f4)))
  (l4 : K.lookup f4 = some ⟨oc4, od4, .func (PySem.W.fnOf "rest_of" "rest_of" (defArgs s_rest_of) (defBody s_rest_of) (defScope s_rest_of) .none kV4 dc4 pm4 an4 cd4 ct4), sl4⟩)
  (c4 : PySem.W.codeIn K cd4 "rest_of" = true)
  (k4 : PySem.W.keepIn K (.ref f4) = true)
  (a5 : PySem.W.nsIn K mainGlobals "is_less" = some (some (.ref f5)))
  (l5 : K.lookup f5 = some ⟨oc5, od5, .func (PySem.W.fnOf "is_less" "is_less" (defArgs s_is_less) (defBody s_is_less) (defScope s_is_less) .none kV5 dc5 pm5 an5 cd5 ct5), sl5⟩)
  (c5 : PySem.W.codeIn K cd5 "is_less" = true)
  (k5 : PySem.W.keepIn K (.ref f5) = true)
  (a_MOST_LETTERS : PySem.W.nsIn K mainGlobals "MOST_LETTERS" = some (some (.int 8 tk_MOST_LETTERS)))
  (a_LETTERS : PySem.W.nsIn K mainGlobals "LETTERS" = some (some (.str "abcdefghijklmnopqrstuvwxyz" tk_LETTERS)))
  (a8 : PySem.W.nsIn K mainGlobals "is_name" = some (some (.ref f8)))
  (l8 : K.lookup f8 = some ⟨oc8, od8, .func (PySem.W.fnOf "is_name" "is_name" (defArgs s_is_name) (defBody s_is_name) (defScope s_is_name) .none kV8 dc8 pm8 an8 cd8 ct8), sl8⟩)
  (c8 : PySem.W.codeIn K cd8 "is_name" = true)
  (k8 : PySem.W.keepIn K (.ref f8) = true)
  (a9 : PySem.W.nsIn K mainGlobals "is_price" = some (some (.ref f9)))
  (l9 : K.lookup f9 = some ⟨oc9, od9, .func (PySem.W.fnOf "is_price" "is_price" (defArgs s_is_price) (defBody s_is_price) (defScope s_is_price) .none kV9 dc9 pm9 an9 cd9 ct9), sl9⟩)
  (c9 : PySem.W.codeIn K cd9 "is_price" = true)
  (k9 : PySem.W.keepIn K (.ref f9) = true)
  (a10 : PySem.W.nsIn K mainGlobals "is_road" = some (some (.ref f10)))
  (l10 : K.lookup f10 = some ⟨oc10, od10, .func (PySem.W.fnOf "is_road" "is_road" (defArgs s_is_road) (defBody s_is_road) (defScope s_is_road) .none kV10 dc10 pm10 an10 cd10 ct10), sl10⟩)
  (c10 : PySem.W.codeIn K cd10 "is_road" = true)
  (k10 : PySem.W.keepIn K (.ref f10) = true)
  (a_MOST_ROADS : PySem.W.nsIn K mainGlobals "MOST_ROADS" = some (some (.int 40 tk_MOST_ROADS)))
  (a_ShareError : PySem.W.nsIn K mainGlobals "ShareError" = some (some (.ref cSE)))
  (a_NoName : PySem.W.nsIn K mainGlobals "NoName" = some (some (.ref cNN)))
  (a_NoPlace : PySem.W.nsIn K mainGlobals "NoPlace" = some (some (.ref cNP)))
  (a_NoPrice : PySem.W.nsIn K mainGlobals "NoPrice" = some (some (.ref cNR)))
  (a_TooMany : PySem.W.nsIn K mainGlobals "TooMany" = some (some (.ref cTM)))
  (a_NoTree : PySem.W.nsIn K mainGlobals "NoTree" = some (some (.ref cNT)))
  (a_NoDeed : PySem.W.nsIn K mainGlobals "NoDeed" = some (some (.ref cND)))
  (a_NoFraction : PySem.W.nsIn K mainGlobals "NoFraction" = some (some (.ref cNF)))
  (a_NoSharing : PySem.W.nsIn K mainGlobals "NoSharing" = some (some (.ref cNS)))
  (a_NoText : PySem.W.nsIn K mainGlobals "NoText" = some (some (.ref cNX)))
  (x4 : PySem.W.specialIn K (.builtin "object.__class__") "__get__" = some (some (.builtin "getset_descriptor.__get__")))
  (x5 : PySem.W.takesIn K (.builtin "object.__class__") = some true)
  (ec0 : PySem.W.excIn K cNN [.type "ValueError", .type "Exception", .type "BaseException", .type "object"] "ValueError.__new__" = true)
  (x00 : PySem.W.clsIn K cNN = some clsd0)
  (x10 : PySem.W.findIn K (.ref cNN) "__getattribute__" = some (some (.builtin "BaseException.__getattribute__")))
  (x20 : PySem.W.findIn K (.ref cNN) "__getattr__" = some none)
  (x30 : PySem.W.findIn K (.ref cNN) "__class__" = some (some (.builtin "object.__class__")))
  (x60 : PySem.W.mroIn K cNN (.type "object") = some true)
  (x70 : PySem.W.mroIn K cNN (.type "BaseException") = some true)
  (ee0 : PySem.W.exmOne K (.ref cNN) (.ref cSE) = some true)
  (kk00 : PySem.W.kitOne K (.ref cNN) (.ref cNN) = some true)
  (kk01 : PySem.W.kitOne K (.ref cNN) (.ref cNP) = some false)
  (kk02 : PySem.W.kitOne K (.ref cNN) (.ref cNR) = some false)
  (kk03 : PySem.W.kitOne K (.ref cNN) (.ref cTM) = some false)
  (ka0 : PySem.W.kitAny K (.ref cNN) [.ref cND, .ref cNF, .ref cNS, .ref cNX, .ref cNT] = some false)
  (kv0 : PySem.W.kitOne K (.ref cNN) (.type "ValueError") = some true)
  (ec1 : PySem.W.excIn K cNP [.type "ValueError", .type "Exception", .type "BaseException", .type "object"] "ValueError.__new__" = true)
  (x01 : PySem.W.clsIn K cNP = some clsd1)
  (x11 : PySem.W.findIn K (.ref cNP) "__getattribute__" = some (some (.builtin "BaseException.__getattribute__")))
  (x21 : PySem.W.findIn K (.ref cNP) "__getattr__" = some none)
  (x31 : PySem.W.findIn K (.ref cNP) "__class__" = some (some (.builtin "object.__class__")))
  (x61 : PySem.W.mroIn K cNP (.type "object") = some true)
  (x71 : PySem.W.mroIn K cNP (.type "BaseException") = some true)
  (ee1 : PySem.W.exmOne K (.ref cNP) (.ref cSE) = some true)
  (kk10 : PySem.W.kitOne K (.ref cNP) (.ref cNN) = some false)
  (kk11 : PySem.W.kitOne K (.ref cNP) (.ref cNP) = some true)
  (kk12 : PySem.W.kitOne K (.ref cNP) (.ref cNR) = some false)
  (kk13 : PySem.W.kitOne K (.ref cNP) (.ref cTM) = some false)
  (ka1 : PySem.W.kitAny K (.ref cNP) [.ref cND, .ref cNF, .ref cNS, .ref cNX, .ref cNT] = some false)
  (kv1 : PySem.W.kitOne K (.ref cNP) (.type "ValueError") = some true)
  (ec2 : PySem.W.excIn K cNR [.type "ValueError", .type "Exception", .type "BaseException", .type "object"] "ValueError.__new__" = true)
  (x02 : PySem.W.clsIn K cNR = some clsd2)
  (x12 : PySem.W.findIn K (.ref cNR) "__getattribute__" = some (some (.builtin "BaseException.__getattribute__")))
  (x22 : PySem.W.findIn K (.ref cNR) "__getattr__" = some none)
  (x32 : PySem.W.findIn K (.ref cNR) "__class__" = some (some (.builtin "object.__class__")))
  (x62 : PySem.W.mroIn K cNR (.type "object") = some true)
  (x72 : PySem.W.mroIn K cNR (.type "BaseException") = some true)
  (ee2 : PySem.W.exmOne K (.ref cNR) (.ref cSE) = some true)
  (kk20 : PySem.W.kitOne K (.ref cNR) (.ref cNN) = some false)
  (kk21 : PySem.W.kitOne K (.ref cNR) (.ref cNP) = some false)
  (kk22 : PySem.W.kitOne K (.ref cNR) (.ref cNR) = some true)
  (kk23 : PySem.W.kitOne K (.ref cNR) (.ref cTM) = some false)
  (ka2 : PySem.W.kitAny K (.ref cNR) [.ref cND, .ref cNF, .ref cNS, .ref cNX, .ref cNT] = some false)
  (kv2 : PySem.W.kitOne K (.ref cNR) (.type "ValueError") = some true)
  (ec3 : PySem.W.excIn K cTM [.type "ValueError", .type "Exception", .type "BaseException", .type "object"] "ValueError.__new__" = true)
  (x03 : PySem.W.clsIn K cTM = some clsd3)
  (x13 : PySem.W.findIn K (.ref cTM) "__getattribute__" = some (some (.builtin "BaseException.__getattribute__")))
  (x23 : PySem.W.findIn K (.ref cTM) "__getattr__" = some none)
  (x33 : PySem.W.findIn K (.ref cTM) "__class__" = some (some (.builtin "object.__class__")))
  (x63 : PySem.W.mroIn K cTM (.type "object") = some true)
  (x73 : PySem.W.mroIn K cTM (.type "BaseException") = some true)
  (ee3 : PySem.W.exmOne K (.ref cTM) (.ref cSE) = some true)
  (kk30 : PySem.W.kitOne K (.ref cTM) (.ref cNN) = some false)
  (kk31 : PySem.W.kitOne K (.ref cTM) (.ref cNP) = some false)
  (kk32 : PySem.W.kitOne K (.ref cTM) (.ref cNR) = some false)
  (kk33 : PySem.W.kitOne K (.ref cTM) (.ref cTM) = some true)
  (ka3 : PySem.W.kitAny K (.ref cTM) [.ref cND, .ref cNF, .ref cNS, .ref cNX, .ref cNT] = some false)
  (kv3 : PySem.W.kitOne K (.ref cTM) (.type "ValueError") = some true)
  (et0 : PySem.W.excIn K cNT [.type "ValueError", .type "Exception", .type "BaseException", .type "object"] "ValueError.__new__" = true)
  (ed0 : PySem.W.excIn K cND [.type "ValueError", .type "Exception", .type "BaseException", .type "object"] "ValueError.__new__" = true)
  (a98 : PySem.W.nsIn K mainGlobals "look_roads" = some (some (.ref f98)))
  (l98 : K.lookup f98 = some ⟨oc98, od98, .func (PySem.W.fnOf "look_roads" "look_roads" (defArgs s_look_roads) (defBody s_look_roads) (defScope s_look_roads) .none kV98 dc98 pm98 an98 cd98 ct98), sl98⟩)
  (c98 : PySem.W.codeIn K cd98 "look_roads" = true)
  (k98 : PySem.W.keepIn K (.ref f98) = true)
  (a99 : PySem.W.nsIn K mainGlobals "way_from" = some (some (.ref f99)))
  (l99 : K.lookup f99 = some ⟨oc99, od99, .func (PySem.W.fnOf "way_from" "way_from" (defArgs s_way_from) (defBody s_way_from) (defScope s_way_from) .none kV99 dc99 pm99 an99 cd99 ct99), sl99⟩)
  (c99 : PySem.W.codeIn K cd99 "way_from" = true)
  (k99 : PySem.W.keepIn K (.ref f99) = true)
  (a_Tree : PySem.W.nsIn K mainGlobals "Tree" = some (some (.ref cTree)))
  (pg_Tree : PySem.W.plainGet K cTree Str.empty = true)
  (hd_Tree : PySem.W.hasDictIn K cTree = true)
  (po_Tree : PySem.W.plainOver K cTree = true)
  (sa_Tree : PySem.W.findIn K (.ref cTree) "__setattr__" = some (some (.builtin "object.__setattr__")))
  (nf_lanes : PySem.W.findIn K (.ref cTree) "lanes" = some none)
  (nf_ways : PySem.W.findIn K (.ref cTree) "ways" = some none)
  (oa_Tree : PySem.W.findIn K (.ref cTree) "__class__" = some (some (.builtin "object.__class__")))
  (ob_Tree : PySem.W.specialIn K (.builtin "object.__class__") "__get__" = some (some (.builtin "getset_descriptor.__get__")))
  (ot_Tree : PySem.W.takesIn K (.builtin "object.__class__") = some true)
  (om_Tree : PySem.W.mroIn K cTree (.type "object") = some true)
  (ok_Tree : PySem.W.kitOne K (.ref cTree) (.ref cTree) = some true)
  (a107 : PySem.W.findIn K (.ref cTree) "__init__" = some (some (.ref f107)))
  (l107 : K.lookup f107 = some ⟨oc107, od107, .func (PySem.W.fnOf "__init__" "Tree.__init__" (defArgs s_Tree___init__) (defBody s_Tree___init__) (defScope s_Tree___init__) .none kV107 dc107 pm107 an107 cd107 ct107), sl107⟩)
  (c107 : PySem.W.codeIn K cd107 "Tree.__init__" = true)
  (k107 : PySem.W.keepIn K (.ref f107) = true)
  (i107 : PySem.W.isFn K (.ref f107) = true)
  (mk107 : PySem.W.makesIn K cTree = true)
  (kc107 : PySem.W.keepIn K (.ref cTree) = true)
  (a115 : PySem.W.findIn K (.ref cTree) "roads" = some (some (.ref f115)))
  (l115 : K.lookup f115 = some ⟨oc115, od115, .func (PySem.W.fnOf "roads" "Tree.roads" (defArgs s_Tree_roads) (defBody s_Tree_roads) (defScope s_Tree_roads) .none kV115 dc115 pm115 an115 cd115 ct115), sl115⟩)
  (c115 : PySem.W.codeIn K cd115 "Tree.roads" = true)
  (k115 : PySem.W.keepIn K (.ref f115) = true)
  (i115 : PySem.W.isFn K (.ref f115) = true)
  (a116 : PySem.W.findIn K (.ref cTree) "many" = some (some (.ref f116)))
  (l116 : K.lookup f116 = some ⟨oc116, od116, .func (PySem.W.fnOf "many" "Tree.many" (defArgs s_Tree_many) (defBody s_Tree_many) (defScope s_Tree_many) .none kV116 dc116 pm116 an116 cd116 ct116), sl116⟩)
  (c116 : PySem.W.codeIn K cd116 "Tree.many" = true)
  (k116 : PySem.W.keepIn K (.ref f116) = true)
  (i116 : PySem.W.isFn K (.ref f116) = true)
  (a117 : PySem.W.findIn K (.ref cTree) "look_crossing" = some (some (.ref f117)))
  (l117 : K.lookup f117 = some ⟨oc117, od117, .func (PySem.W.fnOf "look_crossing" "Tree.look_crossing" (defArgs s_Tree_look_crossing) (defBody s_Tree_look_crossing) (defScope s_Tree_look_crossing) .none kV117 dc117 pm117 an117 cd117 ct117), sl117⟩)
  (c117 : PySem.W.codeIn K cd117 "Tree.look_crossing" = true)
  (k117 : PySem.W.keepIn K (.ref f117) = true)
  (i117 : PySem.W.isFn K (.ref f117) = true)
  (a118 : PySem.W.findIn K (.ref cTree) "look_road" = some (some (.ref f118)))
  (l118 : K.lookup f118 = some ⟨oc118, od118, .func (PySem.W.fnOf "look_road" "Tree.look_road" (defArgs s_Tree_look_road) (defBody s_Tree_look_road) (defScope s_Tree_look_road) .none kV118 dc118 pm118 an118 cd118 ct118), sl118⟩)
  (c118 : PySem.W.codeIn K cd118 "Tree.look_road" = true)
  (k118 : PySem.W.keepIn K (.ref f118) = true)
  (i118 : PySem.W.isFn K (.ref f118) = true)
  (a119 : PySem.W.findIn K (.ref cTree) "leads_to" = some (some (.ref f119)))
  (l119 : K.lookup f119 = some ⟨oc119, od119, .func (PySem.W.fnOf "leads_to" "Tree.leads_to" (defArgs s_Tree_leads_to) (defBody s_Tree_leads_to) (defScope s_Tree_leads_to) .none kV119 dc119 pm119 an119 cd119 ct119), sl119⟩)
  (c119 : PySem.W.codeIn K cd119 "Tree.leads_to" = true)
  (k119 : PySem.W.keepIn K (.ref f119) = true)
  (i119 : PySem.W.isFn K (.ref f119) = true)
  (a120 : PySem.W.findIn K (.ref cTree) "price" = some (some (.ref f120)))
  (l120 : K.lookup f120 = some ⟨oc120, od120, .func (PySem.W.fnOf "price" "Tree.price" (defArgs s_Tree_price) (defBody s_Tree_price) (defScope s_Tree_price) .none kV120 dc120 pm120 an120 cd120 ct120), sl120⟩)
  (c120 : PySem.W.codeIn K cd120 "Tree.price" = true)
  (k120 : PySem.W.keepIn K (.ref f120) = true)
  (i120 : PySem.W.isFn K (.ref f120) = true)
  (a_MOST_VILLAGES : PySem.W.nsIn K mainGlobals "MOST_VILLAGES" = some (some (.int 12 tk_MOST_VILLAGES)))
  (a122 : PySem.W.nsIn K mainGlobals "look_price" = some (some (.ref f122)))
  (l122 : K.lookup f122 = some ⟨oc122, od122, .func (PySem.W.fnOf "look_price" "look_price" (defArgs s_look_price) (defBody s_look_price) (defScope s_look_price) .none kV122 dc122 pm122 an122 cd122 ct122), sl122⟩)
  (c122 : PySem.W.codeIn K cd122 "look_price" = true)
  (k122 : PySem.W.keepIn K (.ref f122) = true)
  (a123 : PySem.W.nsIn K mainGlobals "look_room" = some (some (.ref f123)))
  (l123 : K.lookup f123 = some ⟨oc123, od123, .func (PySem.W.fnOf "look_room" "look_room" (defArgs s_look_room) (defBody s_look_room) (defScope s_look_room) .none kV123 dc123 pm123 an123 cd123 ct123), sl123⟩)
  (c123 : PySem.W.codeIn K cd123 "look_room" = true)
  (k123 : PySem.W.keepIn K (.ref f123) = true)
  (a124 : PySem.W.nsIn K mainGlobals "with_road" = some (some (.ref f124)))
  (l124 : K.lookup f124 = some ⟨oc124, od124, .func (PySem.W.fnOf "with_road" "with_road" (defArgs s_with_road) (defBody s_with_road) (defScope s_with_road) .none kV124 dc124 pm124 an124 cd124 ct124), sl124⟩)
  (c124 : PySem.W.codeIn K cd124 "with_road" = true)
  (k124 : PySem.W.keepIn K (.ref f124) = true)
  (a125 : PySem.W.nsIn K mainGlobals "with_one_more" = some (some (.ref f125)))
  (l125 : K.lookup f125 = some ⟨oc125, od125, .func (PySem.W.fnOf "with_one_more" "with_one_more" (defArgs s_with_one_more) (defBody s_with_one_more) (defScope s_with_one_more) .none kV125 dc125 pm125 an125 cd125 ct125), sl125⟩)
  (c125 : PySem.W.codeIn K cd125 "with_one_more" = true)
  (k125 : PySem.W.keepIn K (.ref f125) = true)
  (a_Shire : PySem.W.nsIn K mainGlobals "Shire" = some (some (.ref cShire)))
  (pg_Shire : PySem.W.plainGet K cShire Str.empty = true)
  (hd_Shire : PySem.W.hasDictIn K cShire = true)
  (po_Shire : PySem.W.plainOver K cShire = true)
  (sa_Shire : PySem.W.findIn K (.ref cShire) "__setattr__" = some (some (.builtin "object.__setattr__")))
  (nf_land : PySem.W.findIn K (.ref cShire) "land" = some none)
  (nf_places : PySem.W.findIn K (.ref cShire) "places" = some none)
  (nf_past : PySem.W.findIn K (.ref cShire) "past" = some none)
  (a127 : PySem.W.findIn K (.ref cShire) "__init__" = some (some (.ref f127)))
  (l127 : K.lookup f127 = some ⟨oc127, od127, .func (PySem.W.fnOf "__init__" "Shire.__init__" (defArgs s_Shire___init__) (defBody s_Shire___init__) (defScope s_Shire___init__) .none kV127 dc127 pm127 an127 cd127 ct127), sl127⟩)
  (c127 : PySem.W.codeIn K cd127 "Shire.__init__" = true)
  (k127 : PySem.W.keepIn K (.ref f127) = true)
  (i127 : PySem.W.isFn K (.ref f127) = true)
  (mk127 : PySem.W.makesIn K cShire = true)
  (kc127 : PySem.W.keepIn K (.ref cShire) = true)
  (a128 : PySem.W.findIn K (.ref cShire) "do" = some (some (.ref f128)))
  (l128 : K.lookup f128 = some ⟨oc128, od128, .func (PySem.W.fnOf "do" "Shire.do" (defArgs s_Shire_do) (defBody s_Shire_do) (defScope s_Shire_do) .none kV128 dc128 pm128 an128 cd128 ct128), sl128⟩)
  (c128 : PySem.W.codeIn K cd128 "Shire.do" = true)
  (k128 : PySem.W.keepIn K (.ref f128) = true)
  (i128 : PySem.W.isFn K (.ref f128) = true)
  (a129 : PySem.W.findIn K (.ref cShire) "place" = some (some (.ref f129)))
  (l129 : K.lookup f129 = some ⟨oc129, od129, .func (PySem.W.fnOf "place" "Shire.place" (defArgs s_Shire_place) (defBody s_Shire_place) (defScope s_Shire_place) .none kV129 dc129 pm129 an129 cd129 ct129), sl129⟩)
  (c129 : PySem.W.codeIn K cd129 "Shire.place" = true)
  (k129 : PySem.W.keepIn K (.ref f129) = true)
  (i129 : PySem.W.isFn K (.ref f129) = true)
  (a130 : PySem.W.findIn K (.ref cShire) "look_village" = some (some (.ref f130)))
  (l130 : K.lookup f130 = some ⟨oc130, od130, .func (PySem.W.fnOf "look_village" "Shire.look_village" (defArgs s_Shire_look_village) (defBody s_Shire_look_village) (defScope s_Shire_look_village) .none kV130 dc130 pm130 an130 cd130 ct130), sl130⟩)
  (c130 : PySem.W.codeIn K cd130 "Shire.look_village" = true)
  (k130 : PySem.W.keepIn K (.ref f130) = true)
  (i130 : PySem.W.isFn K (.ref f130) = true)
  (a131 : PySem.W.findIn K (.ref cShire) "come" = some (some (.ref f131)))
  (l131 : K.lookup f131 = some ⟨oc131, od131, .func (PySem.W.fnOf "come" "Shire.come" (defArgs s_Shire_come) (defBody s_Shire_come) (defScope s_Shire_come) .none kV131 dc131 pm131 an131 cd131 ct131), sl131⟩)
  (c131 : PySem.W.codeIn K cd131 "Shire.come" = true)
  (k131 : PySem.W.keepIn K (.ref f131) = true)
  (i131 : PySem.W.isFn K (.ref f131) = true)
  (a132 : PySem.W.findIn K (.ref cShire) "go" = some (some (.ref f132)))
  (l132 : K.lookup f132 = some ⟨oc132, od132, .func (PySem.W.fnOf "go" "Shire.go" (defArgs s_Shire_go) (defBody s_Shire_go) (defScope s_Shire_go) .none kV132 dc132 pm132 an132 cd132 ct132), sl132⟩)
  (c132 : PySem.W.codeIn K cd132 "Shire.go" = true)
  (k132 : PySem.W.keepIn K (.ref f132) = true)
  (i132 : PySem.W.isFn K (.ref f132) = true)
  (a133 : PySem.W.findIn K (.ref cShire) "move" = some (some (.ref f133)))
  (l133 : K.lookup f133 = some ⟨oc133, od133, .func (PySem.W.fnOf "move" "Shire.move" (defArgs s_Shire_move) (defBody s_Shire_move) (defScope s_Shire_move) .none kV133 dc133 pm133 an133 cd133 ct133), sl133⟩)
  (c133 : PySem.W.codeIn K cd133 "Shire.move" = true)
  (k133 : PySem.W.keepIn K (.ref f133) = true)
  (i133 : PySem.W.isFn K (.ref f133) = true)
  (a134 : PySem.W.findIn K (.ref cShire) "reprice" = some (some (.ref f134)))
  (l134 : K.lookup f134 = some ⟨oc134, od134, .func (PySem.W.fnOf "reprice" "Shire.reprice" (defArgs s_Shire_reprice) (defBody s_Shire_reprice) (defScope s_Shire_reprice) .none kV134 dc134 pm134 an134 cd134 ct134), sl134⟩)
  (c134 : PySem.W.codeIn K cd134 "Shire.reprice" = true)
  (k134 : PySem.W.keepIn K (.ref f134) = true)
  (i134 : PySem.W.isFn K (.ref f134) = true)
  (a135 : PySem.W.findIn K (.ref cShire) "build" = some (some (.ref f135)))
  (l135 : K.lookup f135 = some ⟨oc135, od135, .func (PySem.W.fnOf "build" "Shire.build" (defArgs s_Shire_build) (defBody s_Shire_build) (defScope s_Shire_build) .none kV135 dc135 pm135 an135 cd135 ct135), sl135⟩)
  (c135 : PySem.W.codeIn K cd135 "Shire.build" = true)
  (k135 : PySem.W.keepIn K (.ref f135) = true)
  (i135 : PySem.W.isFn K (.ref f135) = true)
  (a136 : PySem.W.findIn K (.ref cShire) "cut" = some (some (.ref f136)))
  (l136 : K.lookup f136 = some ⟨oc136, od136, .func (PySem.W.fnOf "cut" "Shire.cut" (defArgs s_Shire_cut) (defBody s_Shire_cut) (defScope s_Shire_cut) .none kV136 dc136 pm136 an136 cd136 ct136), sl136⟩)
  (c136 : PySem.W.codeIn K cd136 "Shire.cut" = true)
  (k136 : PySem.W.keepIn K (.ref f136) = true)
  (i136 : PySem.W.isFn K (.ref f136) = true)
  (a137 : PySem.W.findIn K (.ref cShire) "back" = some (some (.ref f137)))
  (l137 : K.lookup f137 = some ⟨oc137, od137, .func (PySem.W.fnOf "back" "Shire.back" (defArgs s_Shire_back) (defBody s_Shire_back) (defScope s_Shire_back) .none kV137 dc137 pm137 an137 cd137 ct137), sl137⟩)
  (c137 : PySem.W.codeIn K cd137 "Shire.back" = true)
  (k137 : PySem.W.keepIn K (.ref f137) = true)
  (i137 : PySem.W.isFn K (.ref f137) = true)
  (a138 : PySem.W.findIn K (.ref cShire) "tree" = some (some (.ref f138)))
  (l138 : K.lookup f138 = some ⟨oc138, od138, .func (PySem.W.fnOf "tree" "Shire.tree" (defArgs s_Shire_tree) (defBody s_Shire_tree) (defScope s_Shire_tree) .none kV138 dc138 pm138 an138 cd138 ct138), sl138⟩)
  (c138 : PySem.W.codeIn K cd138 "Shire.tree" = true)
  (k138 : PySem.W.keepIn K (.ref f138) = true)
  (i138 : PySem.W.isFn K (.ref f138) = true)
  (a139 : PySem.W.findIn K (.ref cShire) "homes" = some (some (.ref f139)))
  (l139 : K.lookup f139 = some ⟨oc139, od139, .func (PySem.W.fnOf "homes" "Shire.homes" (defArgs s_Shire_homes) (defBody s_Shire_homes) (defScope s_Shire_homes) .none kV139 dc139 pm139 an139 cd139 ct139), sl139⟩)
  (c139 : PySem.W.codeIn K cd139 "Shire.homes" = true)
  (k139 : PySem.W.keepIn K (.ref f139) = true)
  (i139 : PySem.W.isFn K (.ref f139) = true)
  (a140 : PySem.W.nsIn K mainGlobals "_law_cell_at" = some (some (.ref f140)))
  (l140 : K.lookup f140 = some ⟨oc140, od140, .func (PySem.W.fnOf "_law_cell_at" "_law_cell_at" (defArgs s_law_cell_at) (defBody s_law_cell_at) (defScope s_law_cell_at) .none kV140 dc140 pm140 an140 cd140 ct140), sl140⟩)
  (c140 : PySem.W.codeIn K cd140 "_law_cell_at" = true)
  (k140 : PySem.W.keepIn K (.ref f140) = true)
  (a141 : PySem.W.nsIn K mainGlobals "_law_whole" = some (some (.ref f141)))
  (l141 : K.lookup f141 = some ⟨oc141, od141, .func (PySem.W.fnOf "_law_whole" "_law_whole" (defArgs s_law_whole) (defBody s_law_whole) (defScope s_law_whole) .none kV141 dc141 pm141 an141 cd141 ct141), sl141⟩)
  (c141 : PySem.W.codeIn K cd141 "_law_whole" = true)
  (k141 : PySem.W.keepIn K (.ref f141) = true)
  (a142 : PySem.W.nsIn K mainGlobals "_law_divisor" = some (some (.ref f142)))
  (l142 : K.lookup f142 = some ⟨oc142, od142, .func (PySem.W.fnOf "_law_divisor" "_law_divisor" (defArgs s_law_divisor) (defBody s_law_divisor) (defScope s_law_divisor) .none kV142 dc142 pm142 an142 cd142 ct142), sl142⟩)
  (c142 : PySem.W.codeIn K cd142 "_law_divisor" = true)
  (k142 : PySem.W.keepIn K (.ref f142) = true)
  (a143 : PySem.W.nsIn K mainGlobals "_law_low" = some (some (.ref f143)))
  (l143 : K.lookup f143 = some ⟨oc143, od143, .func (PySem.W.fnOf "_law_low" "_law_low" (defArgs s_law_low) (defBody s_law_low) (defScope s_law_low) .none kV143 dc143 pm143 an143 cd143 ct143), sl143⟩)
  (c143 : PySem.W.codeIn K cd143 "_law_low" = true)
  (k143 : PySem.W.keepIn K (.ref f143) = true)
  (a144 : PySem.W.nsIn K mainGlobals "_law_numbers" = some (some (.ref f144)))
  (l144 : K.lookup f144 = some ⟨oc144, od144, .func (PySem.W.fnOf "_law_numbers" "_law_numbers" (defArgs s_law_numbers) (defBody s_law_numbers) (defScope s_law_numbers) .none kV144 dc144 pm144 an144 cd144 ct144), sl144⟩)
  (c144 : PySem.W.codeIn K cd144 "_law_numbers" = true)
  (k144 : PySem.W.keepIn K (.ref f144) = true)
  (a145 : PySem.W.nsIn K mainGlobals "_law_name" = some (some (.ref f145)))
  (l145 : K.lookup f145 = some ⟨oc145, od145, .func (PySem.W.fnOf "_law_name" "_law_name" (defArgs s_law_name) (defBody s_law_name) (defScope s_law_name) .none kV145 dc145 pm145 an145 cd145 ct145), sl145⟩)
  (c145 : PySem.W.codeIn K cd145 "_law_name" = true)
  (k145 : PySem.W.keepIn K (.ref f145) = true)
  (a146 : PySem.W.nsIn K mainGlobals "_law_price_by" = some (some (.ref f146)))
  (l146 : K.lookup f146 = some ⟨oc146, od146, .func (PySem.W.fnOf "_law_price_by" "_law_price_by" (defArgs s_law_price_by) (defBody s_law_price_by) (defScope s_law_price_by) .none kV146 dc146 pm146 an146 cd146 ct146), sl146⟩)
  (c146 : PySem.W.codeIn K cd146 "_law_price_by" = true)
  (k146 : PySem.W.keepIn K (.ref f146) = true)
  (a147 : PySem.W.nsIn K mainGlobals "_law_roads_by" = some (some (.ref f147)))
  (l147 : K.lookup f147 = some ⟨oc147, od147, .func (PySem.W.fnOf "_law_roads_by" "_law_roads_by" (defArgs s_law_roads_by) (defBody s_law_roads_by) (defScope s_law_roads_by) .none kV147 dc147 pm147 an147 cd147 ct147), sl147⟩)
  (c147 : PySem.W.codeIn K cd147 "_law_roads_by" = true)
  (k147 : PySem.W.keepIn K (.ref f147) = true)
  (a148 : PySem.W.nsIn K mainGlobals "_law_deed_by" = some (some (.ref f148)))
  (l148 : K.lookup f148 = some ⟨oc148, od148, .func (PySem.W.fnOf "_law_deed_by" "_law_deed_by" (defArgs s_law_deed_by) (defBody s_law_deed_by) (defScope s_law_deed_by) .none kV148 dc148 pm148 an148 cd148 ct148), sl148⟩)
  (c148 : PySem.W.codeIn K cd148 "_law_deed_by" = true)
  (k148 : PySem.W.keepIn K (.ref f148) = true)
  (a149 : PySem.W.nsIn K mainGlobals "_law_done" = some (some (.ref f149)))
  (l149 : K.lookup f149 = some ⟨oc149, od149, .func (PySem.W.fnOf "_law_done" "_law_done" (defArgs s_law_done) (defBody s_law_done) (defScope s_law_done) .none kV149 dc149 pm149 an149 cd149 ct149), sl149⟩)
  (c149 : PySem.W.codeIn K cd149 "_law_done" = true)
  (k149 : PySem.W.keepIn K (.ref f149) = true)
  (a150 : PySem.W.nsIn K mainGlobals "_law_do" = some (some (.ref f150)))
  (l150 : K.lookup f150 = some ⟨oc150, od150, .func (PySem.W.fnOf "_law_do" "_law_do" (defArgs s_law_do) (defBody s_law_do) (defScope s_law_do) .none kV150 dc150 pm150 an150 cd150 ct150), sl150⟩)
  (c150 : PySem.W.codeIn K cd150 "_law_do" = true)
  (k150 : PySem.W.keepIn K (.ref f150) = true)
  (a151 : PySem.W.nsIn K mainGlobals "_law_stands" = some (some (.ref f151)))
  (l151 : K.lookup f151 = some ⟨oc151, od151, .func (PySem.W.fnOf "_law_stands" "_law_stands" (defArgs s_law_stands) (defBody s_law_stands) (defScope s_law_stands) .none kV151 dc151 pm151 an151 cd151 ct151), sl151⟩)
  (c151 : PySem.W.codeIn K cd151 "_law_stands" = true)
  (k151 : PySem.W.keepIn K (.ref f151) = true)
  (a152 : PySem.W.nsIn K mainGlobals "_law_bad_name" = some (some (.ref f152)))
  (l152 : K.lookup f152 = some ⟨oc152, od152, .func (PySem.W.fnOf "_law_bad_name" "_law_bad_name" (defArgs s_law_bad_name) (defBody s_law_bad_name) (defScope s_law_bad_name) .none kV152 dc152 pm152 an152 cd152 ct152), sl152⟩)
  (c152 : PySem.W.codeIn K cd152 "_law_bad_name" = true)
  (k152 : PySem.W.keepIn K (.ref f152) = true)
  (a153 : PySem.W.nsIn K mainGlobals "_law_bad_price" = some (some (.ref f153)))
  (l153 : K.lookup f153 = some ⟨oc153, od153, .func (PySem.W.fnOf "_law_bad_price" "_law_bad_price" (defArgs s_law_bad_price) (defBody s_law_bad_price) (defScope s_law_bad_price) .none kV153 dc153 pm153 an153 cd153 ct153), sl153⟩)
  (c153 : PySem.W.codeIn K cd153 "_law_bad_price" = true)
  (k153 : PySem.W.keepIn K (.ref f153) = true)
  (a154 : PySem.W.nsIn K mainGlobals "_law_faulty" = some (some (.ref f154)))
  (l154 : K.lookup f154 = some ⟨oc154, od154, .func (PySem.W.fnOf "_law_faulty" "_law_faulty" (defArgs s_law_faulty) (defBody s_law_faulty) (defScope s_law_faulty) .none kV154 dc154 pm154 an154 cd154 ct154), sl154⟩)
  (c154 : PySem.W.codeIn K cd154 "_law_faulty" = true)
  (k154 : PySem.W.keepIn K (.ref f154) = true)
  (a155 : PySem.W.nsIn K mainGlobals "_law_is_price" = some (some (.ref f155)))
  (l155 : K.lookup f155 = some ⟨oc155, od155, .func (PySem.W.fnOf "_law_is_price" "_law_is_price" (defArgs s_law_is_price) (defBody s_law_is_price) (defScope s_law_is_price) .none kV155 dc155 pm155 an155 cd155 ct155), sl155⟩)
  (c155 : PySem.W.codeIn K cd155 "_law_is_price" = true)
  (k155 : PySem.W.keepIn K (.ref f155) = true)
  (a156 : PySem.W.nsIn K mainGlobals "_law_is_name" = some (some (.ref f156)))
  (l156 : K.lookup f156 = some ⟨oc156, od156, .func (PySem.W.fnOf "_law_is_name" "_law_is_name" (defArgs s_law_is_name) (defBody s_law_is_name) (defScope s_law_is_name) .none kV156 dc156 pm156 an156 cd156 ct156), sl156⟩)
  (c156 : PySem.W.codeIn K cd156 "_law_is_name" = true)
  (k156 : PySem.W.keepIn K (.ref f156) = true)
  (a157 : PySem.W.nsIn K mainGlobals "_law_due" = some (some (.ref f157)))
  (l157 : K.lookup f157 = some ⟨oc157, od157, .func (PySem.W.fnOf "_law_due" "_law_due" (defArgs s_law_due) (defBody s_law_due) (defScope s_law_due) .none kV157 dc157 pm157 an157 cd157 ct157), sl157⟩)
  (c157 : PySem.W.codeIn K cd157 "_law_due" = true)
  (k157 : PySem.W.keepIn K (.ref f157) = true)
  (a158 : PySem.W.nsIn K mainGlobals "_law_word" = some (some (.ref f158)))
  (l158 : K.lookup f158 = some ⟨oc158, od158, .func (PySem.W.fnOf "_law_word" "_law_word" (defArgs s_law_word) (defBody s_law_word) (defScope s_law_word) .none kV158 dc158 pm158 an158 cd158 ct158), sl158⟩)
  (c158 : PySem.W.codeIn K cd158 "_law_word" = true)
  (k158 : PySem.W.keepIn K (.ref f158) = true)
  (a159 : PySem.W.nsIn K mainGlobals "_law_got" = some (some (.ref f159)))
  (l159 : K.lookup f159 = some ⟨oc159, od159, .func (PySem.W.fnOf "_law_got" "_law_got" (defArgs s_law_got) (defBody s_law_got) (defScope s_law_got) .none kV159 dc159 pm159 an159 cd159 ct159), sl159⟩)
  (c159 : PySem.W.codeIn K cd159 "_law_got" = true)
  (k159 : PySem.W.keepIn K (.ref f159) = true)
  (a160 : PySem.W.nsIn K mainGlobals "_law_filled" = some (some (.ref f160)))
  (l160 : K.lookup f160 = some ⟨oc160, od160, .func (PySem.W.fnOf "_law_filled" "_law_filled" (defArgs s_law_filled) (defBody s_law_filled) (defScope s_law_filled) .none kV160 dc160 pm160 an160 cd160 ct160), sl160⟩)
  (c160 : PySem.W.codeIn K cd160 "_law_filled" = true)
  (k160 : PySem.W.keepIn K (.ref f160) = true)
  (a161 : PySem.W.nsIn K mainGlobals "law" = some (some (.ref f161)))
  (l161 : K.lookup f161 = some ⟨oc161, od161, .func (PySem.W.fnOf "law" "law" (defArgs s_law) (defBody s_law) (defScope s_law) .none kV161 dc161 pm161 an161 cd161 ct161), sl161⟩)
  (c161 : PySem.W.codeIn K cd161 "law" = true)
  (k161 : PySem.W.keepIn K (.ref f161) = true)
  (z_isinstance : PySem.W.nsIn K mainGlobals "isinstance" = some none)
  (z_int : PySem.W.nsIn K mainGlobals "int" = some none)
  (z_bool : PySem.W.nsIn K mainGlobals "bool" = some none)
  (z_abs : PySem.W.nsIn K mainGlobals "abs" = some none)
  (z_tuple : PySem.W.nsIn K mainGlobals "tuple" = some none)
  (z_len : PySem.W.nsIn K mainGlobals "len" = some none)
  (z_str : PySem.W.nsIn K mainGlobals "str" = some none)
  (z_all : PySem.W.nsIn K mainGlobals "all" = some none)
  (z_list : PySem.W.nsIn K mainGlobals "list" = some none)
  (z_range : PySem.W.nsIn K mainGlobals "range" = some none)
  (z_dict : PySem.W.nsIn K mainGlobals "dict" = some none)
  (z_min : PySem.W.nsIn K mainGlobals "min" = some none)
  (z_max : PySem.W.nsIn K mainGlobals "max" = some none)
  (z_sorted : PySem.W.nsIn K mainGlobals "sorted" = some none)
  (z_ValueError : PySem.W.nsIn K mainGlobals "ValueError" = some none)
  : ∃ fd : FuncData, (∀ (s : Shared) (v : Value), BindsTo s fd ⟨[v], []⟩ [("_law_script", v)]) ∧ ∀ base : Heap, K.In base → base.Ns mainGlobals mg → FnOk l.prog w K mg base CX0 13 fa fd ["_law_script"] (sp_law K) := by
 have e := hfa.symm.trans (PySem.W.mg_of X G a161)
 cases e
 have n_ValueError := PySem.W.mg_none_of X G z_ValueError
 have n_sorted := PySem.W.mg_none_of X G z_sorted
 have n_max := PySem.W.mg_none_of X G z_max
 have n_min := PySem.W.mg_none_of X G z_min
 have n_dict := PySem.W.mg_none_of X G z_dict
 have n_range := PySem.W.mg_none_of X G z_range
 have n_list := PySem.W.mg_none_of X G z_list
 have n_all := PySem.W.mg_none_of X G z_all
 have n_str := PySem.W.mg_none_of X G z_str
 have n_len := PySem.W.mg_none_of X G z_len
 have n_tuple := PySem.W.mg_none_of X G z_tuple
 have n_abs := PySem.W.mg_none_of X G z_abs
 have n_bool := PySem.W.mg_none_of X G z_bool
 have n_int := PySem.W.mg_none_of X G z_int
 have n_isinstance := PySem.W.mg_none_of X G z_isinstance
 have U0 := fun_mk (st := s_is_whole) l0 c0 k0
 have b0 := U0.binds (ps := ["thing"]) fun _ _ _ _ _ _ us hl => len1 (Pr := fun us => bindArgs _ ⟨us, []⟩ = pure (List.zip _ us)) us hl fun _ => rfl
 have U1 := fun_mk (st := s_greatest_divisor) l1 c1 k1
 have b1 := U1.binds (ps := ["one", "other"]) fun _ _ _ _ _ _ us hl => len2 (Pr := fun us => bindArgs _ ⟨us, []⟩ = pure (List.zip _ us)) us hl fun _ _ => rfl
 have U2 := fun_mk (st := s_is_ratio) l2 c2 k2
 have b2 := U2.binds (ps := ["thing"]) fun _ _ _ _ _ _ us hl => len1 (Pr := fun us => bindArgs _ ⟨us, []⟩ = pure (List.zip _ us)) us hl fun _ => rfl
 have U3 := fund_mk (st := s_ratio) l3 c3 k3
 have b3 : Binds K (PySem.W.fnOf "ratio" "ratio" (defArgs s_ratio) (defBody s_ratio) (defScope s_ratio) (.ref T3) kV3 dc3 pm3 an3 cd3 ct3) ["top", "bottom"] [] := fun s us Y hl => match us, hl with | [_, _], _ => BindsTo.of_defaults (T := T3) rfl (Y _ _ t3) rfl rfl rfl
 have b3_1 : Binds K (PySem.W.fnOf "ratio" "ratio" (defArgs s_ratio) (defBody s_ratio) (defScope s_ratio) (.ref T3) kV3 dc3 pm3 an3 cd3 ct3) ["top", "bottom"] [.int 1 tk3_0] := fun s us Y hl => by
  have hl2 : us.length = 1 := by simpa using hl
  exact match us, hl2 with | [_], _ => BindsTo.of_defaults (T := T3) rfl (Y _ _ t3) rfl rfl rfl
 have U4 := fun_mk (st := s_rest_of) l4 c4 k4
 have b4 := U4.binds (ps := ["one", "other"]) fun _ _ _ _ _ _ us hl => len2 (Pr := fun us => bindArgs _ ⟨us, []⟩ = pure (List.zip _ us)) us hl fun _ _ => rfl
 have U5 := fun_mk (st := s_is_less) l5 c5 k5
 have b5 := U5.binds (ps := ["one", "other"]) fun _ _ _ _ _ _ us hl => len2 (Pr := fun us => bindArgs _ ⟨us, []⟩ = pure (List.zip _ us)) us hl fun _ _ => rfl
 have g_MOST_LETTERS := PySem.W.mg_of X G a_MOST_LETTERS
 have g_LETTERS := PySem.W.mg_of X G a_LETTERS
 have U8 := fun_mk (st := s_is_name) l8 c8 k8
 have b8 := U8.binds (ps := ["thing"]) fun _ _ _ _ _ _ us hl => len1 (Pr := fun us => bindArgs _ ⟨us, []⟩ = pure (List.zip _ us)) us hl fun _ => rfl
 have U9 := fun_mk (st := s_is_price) l9 c9 k9
 have b9 := U9.binds (ps := ["thing"]) fun _ _ _ _ _ _ us hl => len1 (Pr := fun us => bindArgs _ ⟨us, []⟩ = pure (List.zip _ us)) us hl fun _ => rfl
 have U10 := fun_mk (st := s_is_road) l10 c10 k10
 have b10 := U10.binds (ps := ["thing", "many"]) fun _ _ _ _ _ _ us hl => len2 (Pr := fun us => bindArgs _ ⟨us, []⟩ = pure (List.zip _ us)) us hl fun _ _ => rfl
 have g_MOST_ROADS := PySem.W.mg_of X G a_MOST_ROADS
 have m_ShareError := PySem.W.mg_of X G a_ShareError
 have m_NoName := PySem.W.mg_of X G a_NoName
 have m_NoPlace := PySem.W.mg_of X G a_NoPlace
 have m_NoPrice := PySem.W.mg_of X G a_NoPrice
 have m_TooMany := PySem.W.mg_of X G a_TooMany
 have m_NoTree := PySem.W.mg_of X G a_NoTree
 have m_NoDeed := PySem.W.mg_of X G a_NoDeed
 have m_NoFraction := PySem.W.mg_of X G a_NoFraction
 have m_NoSharing := PySem.W.mg_of X G a_NoSharing
 have m_NoText := PySem.W.mg_of X G a_NoText
 have xk0 : ExcK K cNN := ⟨by rw [x00]; rfl, x10, x20, x30, x4, x5, x60, x70⟩
 have wc0 : WordC K cNN cNP cNR cTM cND cNF cNS cNX cNT cNN 0 := ⟨xk0, kk00, kk01, kk02, kk03, ka0, kv0⟩
 have ec_NoName : ErrC K cNN := ec0
 have xk1 : ExcK K cNP := ⟨by rw [x01]; rfl, x11, x21, x31, x4, x5, x61, x71⟩
 have wc1 : WordC K cNN cNP cNR cTM cND cNF cNS cNX cNT cNP 1 := ⟨xk1, kk10, kk11, kk12, kk13, ka1, kv1⟩
 have ec_NoPlace : ErrC K cNP := ec1
 have xk2 : ExcK K cNR := ⟨by rw [x02]; rfl, x12, x22, x32, x4, x5, x62, x72⟩
 have wc2 : WordC K cNN cNP cNR cTM cND cNF cNS cNX cNT cNR 2 := ⟨xk2, kk20, kk21, kk22, kk23, ka2, kv2⟩
 have ec_NoPrice : ErrC K cNR := ec2
 have xk3 : ExcK K cTM := ⟨by rw [x03]; rfl, x13, x23, x33, x4, x5, x63, x73⟩
 have wc3 : WordC K cNN cNP cNR cTM cND cNF cNS cNX cNT cTM 3 := ⟨xk3, kk30, kk31, kk32, kk33, ka3, kv3⟩
 have ec_TooMany : ErrC K cTM := ec3
 have et : ErrC K cNT := et0
 have ed : ErrC K cND := ed0
 have ef : ErrF K cNN cNP cNR cTM cND cNF cNS cNX cNT cSE := errF wc0 wc1 wc2 wc3 ee0 ee1 ee2 ee3
 have U98 := fund_mk (st := s_look_roads) l98 c98 k98
 have b98 : Binds K (PySem.W.fnOf "look_roads" "look_roads" (defArgs s_look_roads) (defBody s_look_roads) (defScope s_look_roads) .none kV98 dc98 pm98 an98 cd98 ct98) ["thing"] [] := Binds.all fun us hl => len1 (Pr := fun us => bindArgs _ ⟨us, []⟩ = pure (List.zip _ us)) us hl fun _ => rfl
 have U99 := fund_mk (st := s_way_from) l99 c99 k99
 have b99 : Binds K (PySem.W.fnOf "way_from" "way_from" (defArgs s_way_from) (defBody s_way_from) (defScope s_way_from) .none kV99 dc99 pm99 an99 cd99 ct99) ["roads", "k"] [] := Binds.all fun us hl => len2 (Pr := fun us => bindArgs _ ⟨us, []⟩ = pure (List.zip _ us)) us hl fun _ _ => rfl
 have m_Tree := PySem.W.mg_of X G a_Tree
 have cls_Tree : Cls K cTree := ⟨pg_Tree, hd_Tree, po_Tree, sa_Tree⟩
 have oc_Tree : OwnCls K cTree := ⟨cls_Tree, oa_Tree, ob_Tree, ot_Tree, om_Tree, ok_Tree⟩
 have U107 := fund_mk (st := s_Tree___init__) l107 c107 k107
 have b107 : Binds K (PySem.W.fnOf "__init__" "Tree.__init__" (defArgs s_Tree___init__) (defBody s_Tree___init__) (defScope s_Tree___init__) .none kV107 dc107 pm107 an107 cd107 ct107) ["self", "roads"] [] := Binds.all fun us hl => len2 (Pr := fun us => bindArgs _ ⟨us, []⟩ = pure (List.zip _ us)) us hl fun _ _ => rfl
 have U115 := fun_mk (st := s_Tree_roads) l115 c115 k115
 have b115 : Binds K (PySem.W.fnOf "roads" "Tree.roads" (defArgs s_Tree_roads) (defBody s_Tree_roads) (defScope s_Tree_roads) .none kV115 dc115 pm115 an115 cd115 ct115) ["self"] [] := Binds.all fun us hl => len1 (Pr := fun us => bindArgs _ ⟨us, []⟩ = pure (List.zip _ us)) us hl fun _ => rfl
 have U116 := fun_mk (st := s_Tree_many) l116 c116 k116
 have b116 : Binds K (PySem.W.fnOf "many" "Tree.many" (defArgs s_Tree_many) (defBody s_Tree_many) (defScope s_Tree_many) .none kV116 dc116 pm116 an116 cd116 ct116) ["self"] [] := Binds.all fun us hl => len1 (Pr := fun us => bindArgs _ ⟨us, []⟩ = pure (List.zip _ us)) us hl fun _ => rfl
 have U117 := fund_mk (st := s_Tree_look_crossing) l117 c117 k117
 have b117 : Binds K (PySem.W.fnOf "look_crossing" "Tree.look_crossing" (defArgs s_Tree_look_crossing) (defBody s_Tree_look_crossing) (defScope s_Tree_look_crossing) .none kV117 dc117 pm117 an117 cd117 ct117) ["self", "k"] [] := Binds.all fun us hl => len2 (Pr := fun us => bindArgs _ ⟨us, []⟩ = pure (List.zip _ us)) us hl fun _ _ => rfl
 have U118 := fund_mk (st := s_Tree_look_road) l118 c118 k118
 have b118 : Binds K (PySem.W.fnOf "look_road" "Tree.look_road" (defArgs s_Tree_look_road) (defBody s_Tree_look_road) (defScope s_Tree_look_road) .none kV118 dc118 pm118 an118 cd118 ct118) ["self", "k"] [] := Binds.all fun us hl => len2 (Pr := fun us => bindArgs _ ⟨us, []⟩ = pure (List.zip _ us)) us hl fun _ _ => rfl
 have U119 := fund_mk (st := s_Tree_leads_to) l119 c119 k119
 have b119 : Binds K (PySem.W.fnOf "leads_to" "Tree.leads_to" (defArgs s_Tree_leads_to) (defBody s_Tree_leads_to) (defScope s_Tree_leads_to) .none kV119 dc119 pm119 an119 cd119 ct119) ["self", "k"] [] := Binds.all fun us hl => len2 (Pr := fun us => bindArgs _ ⟨us, []⟩ = pure (List.zip _ us)) us hl fun _ _ => rfl
 have U120 := fund_mk (st := s_Tree_price) l120 c120 k120
 have b120 : Binds K (PySem.W.fnOf "price" "Tree.price" (defArgs s_Tree_price) (defBody s_Tree_price) (defScope s_Tree_price) .none kV120 dc120 pm120 an120 cd120 ct120) ["self", "k"] [] := Binds.all fun us hl => len2 (Pr := fun us => bindArgs _ ⟨us, []⟩ = pure (List.zip _ us)) us hl fun _ _ => rfl
 have g_MOST_VILLAGES := PySem.W.mg_of X G a_MOST_VILLAGES
 have U122 := fund_mk (st := s_look_price) l122 c122 k122
 have b122 : Binds K (PySem.W.fnOf "look_price" "look_price" (defArgs s_look_price) (defBody s_look_price) (defScope s_look_price) .none kV122 dc122 pm122 an122 cd122 ct122) ["price"] [] := Binds.all fun us hl => len1 (Pr := fun us => bindArgs _ ⟨us, []⟩ = pure (List.zip _ us)) us hl fun _ => rfl
 have U123 := fund_mk (st := s_look_room) l123 c123 k123
 have b123 : Binds K (PySem.W.fnOf "look_room" "look_room" (defArgs s_look_room) (defBody s_look_room) (defScope s_look_room) .none kV123 dc123 pm123 an123 cd123 ct123) ["tree"] [] := Binds.all fun us hl => len1 (Pr := fun us => bindArgs _ ⟨us, []⟩ = pure (List.zip _ us)) us hl fun _ => rfl
 have U124 := fun_mk (st := s_with_road) l124 c124 k124
 have b124 := U124.binds (ps := ["tree", "k", "road"]) fun _ _ _ _ _ _ us hl => len3 (Pr := fun us => bindArgs _ ⟨us, []⟩ = pure (List.zip _ us)) us hl fun _ _ _ => rfl
 have U125 := fun_mk (st := s_with_one_more) l125 c125 k125
 have b125 := U125.binds (ps := ["tree", "road"]) fun _ _ _ _ _ _ us hl => len2 (Pr := fun us => bindArgs _ ⟨us, []⟩ = pure (List.zip _ us)) us hl fun _ _ => rfl
 have m_Shire := PySem.W.mg_of X G a_Shire
 have cls_Shire : Cls K cShire := ⟨pg_Shire, hd_Shire, po_Shire, sa_Shire⟩
 have U127 := fun_mk (st := s_Shire___init__) l127 c127 k127
 have b127 : Binds K (PySem.W.fnOf "__init__" "Shire.__init__" (defArgs s_Shire___init__) (defBody s_Shire___init__) (defScope s_Shire___init__) .none kV127 dc127 pm127 an127 cd127 ct127) ["self", "tree"] [] := Binds.all fun us hl => len2 (Pr := fun us => bindArgs _ ⟨us, []⟩ = pure (List.zip _ us)) us hl fun _ _ => rfl
 have U128 := fun_mk (st := s_Shire_do) l128 c128 k128
 have b128 : Binds K (PySem.W.fnOf "do" "Shire.do" (defArgs s_Shire_do) (defBody s_Shire_do) (defScope s_Shire_do) .none kV128 dc128 pm128 an128 cd128 ct128) ["self", "land", "places"] [] := Binds.all fun us hl => len3 (Pr := fun us => bindArgs _ ⟨us, []⟩ = pure (List.zip _ us)) us hl fun _ _ _ => rfl
 have U129 := fun_mk (st := s_Shire_place) l129 c129 k129
 have b129 : Binds K (PySem.W.fnOf "place" "Shire.place" (defArgs s_Shire_place) (defBody s_Shire_place) (defScope s_Shire_place) .none kV129 dc129 pm129 an129 cd129 ct129) ["self", "name", "k"] [] := Binds.all fun us hl => len3 (Pr := fun us => bindArgs _ ⟨us, []⟩ = pure (List.zip _ us)) us hl fun _ _ _ => rfl
 have U130 := fund_mk (st := s_Shire_look_village) l130 c130 k130
 have b130 : Binds K (PySem.W.fnOf "look_village" "Shire.look_village" (defArgs s_Shire_look_village) (defBody s_Shire_look_village) (defScope s_Shire_look_village) .none kV130 dc130 pm130 an130 cd130 ct130) ["self", "name"] [] := Binds.all fun us hl => len2 (Pr := fun us => bindArgs _ ⟨us, []⟩ = pure (List.zip _ us)) us hl fun _ _ => rfl
 have U131 := fund_mk (st := s_Shire_come) l131 c131 k131
 have b131 : Binds K (PySem.W.fnOf "come" "Shire.come" (defArgs s_Shire_come) (defBody s_Shire_come) (defScope s_Shire_come) .none kV131 dc131 pm131 an131 cd131 ct131) ["self", "name", "k"] [] := Binds.all fun us hl => len3 (Pr := fun us => bindArgs _ ⟨us, []⟩ = pure (List.zip _ us)) us hl fun _ _ _ => rfl
 have U132 := fund_mk (st := s_Shire_go) l132 c132 k132
 have b132 : Binds K (PySem.W.fnOf "go" "Shire.go" (defArgs s_Shire_go) (defBody s_Shire_go) (defScope s_Shire_go) .none kV132 dc132 pm132 an132 cd132 ct132) ["self", "name"] [] := Binds.all fun us hl => len2 (Pr := fun us => bindArgs _ ⟨us, []⟩ = pure (List.zip _ us)) us hl fun _ _ => rfl
 have U133 := fund_mk (st := s_Shire_move) l133 c133 k133
 have b133 : Binds K (PySem.W.fnOf "move" "Shire.move" (defArgs s_Shire_move) (defBody s_Shire_move) (defScope s_Shire_move) .none kV133 dc133 pm133 an133 cd133 ct133) ["self", "name", "k"] [] := Binds.all fun us hl => len3 (Pr := fun us => bindArgs _ ⟨us, []⟩ = pure (List.zip _ us)) us hl fun _ _ _ => rfl
 have U134 := fund_mk (st := s_Shire_reprice) l134 c134 k134
 have b134 : Binds K (PySem.W.fnOf "reprice" "Shire.reprice" (defArgs s_Shire_reprice) (defBody s_Shire_reprice) (defScope s_Shire_reprice) .none kV134 dc134 pm134 an134 cd134 ct134) ["self", "k", "price"] [] := Binds.all fun us hl => len3 (Pr := fun us => bindArgs _ ⟨us, []⟩ = pure (List.zip _ us)) us hl fun _ _ _ => rfl
 have U135 := fund_mk (st := s_Shire_build) l135 c135 k135
 have b135 : Binds K (PySem.W.fnOf "build" "Shire.build" (defArgs s_Shire_build) (defBody s_Shire_build) (defScope s_Shire_build) .none kV135 dc135 pm135 an135 cd135 ct135) ["self", "to", "price"] [] := Binds.all fun us hl => len3 (Pr := fun us => bindArgs _ ⟨us, []⟩ = pure (List.zip _ us)) us hl fun _ _ _ => rfl
 have U136 := fund_mk (st := s_Shire_cut) l136 c136 k136
 have b136 : Binds K (PySem.W.fnOf "cut" "Shire.cut" (defArgs s_Shire_cut) (defBody s_Shire_cut) (defScope s_Shire_cut) .none kV136 dc136 pm136 an136 cd136 ct136) ["self", "k", "price"] [] := Binds.all fun us hl => len3 (Pr := fun us => bindArgs _ ⟨us, []⟩ = pure (List.zip _ us)) us hl fun _ _ _ => rfl
 have U137 := fund_mk (st := s_Shire_back) l137 c137 k137
 have b137 : Binds K (PySem.W.fnOf "back" "Shire.back" (defArgs s_Shire_back) (defBody s_Shire_back) (defScope s_Shire_back) .none kV137 dc137 pm137 an137 cd137 ct137) ["self"] [] := Binds.all fun us hl => len1 (Pr := fun us => bindArgs _ ⟨us, []⟩ = pure (List.zip _ us)) us hl fun _ => rfl
 have U138 := fun_mk (st := s_Shire_tree) l138 c138 k138
 have b138 : Binds K (PySem.W.fnOf "tree" "Shire.tree" (defArgs s_Shire_tree) (defBody s_Shire_tree) (defScope s_Shire_tree) .none kV138 dc138 pm138 an138 cd138 ct138) ["self"] [] := Binds.all fun us hl => len1 (Pr := fun us => bindArgs _ ⟨us, []⟩ = pure (List.zip _ us)) us hl fun _ => rfl
 have U139 := fun_mk (st := s_Shire_homes) l139 c139 k139
 have b139 : Binds K (PySem.W.fnOf "homes" "Shire.homes" (defArgs s_Shire_homes) (defBody s_Shire_homes) (defScope s_Shire_homes) .none kV139 dc139 pm139 an139 cd139 ct139) ["self"] [] := Binds.all fun us hl => len1 (Pr := fun us => bindArgs _ ⟨us, []⟩ = pure (List.zip _ us)) us hl fun _ => rfl
 have U140 := fun_mk (st := s_law_cell_at) l140 c140 k140
 have b140 := U140.binds (ps := ["_law_script", "_law_k"]) fun _ _ _ _ _ _ us hl => len2 (Pr := fun us => bindArgs _ ⟨us, []⟩ = pure (List.zip _ us)) us hl fun _ _ => rfl
 have U141 := fun_mk (st := s_law_whole) l141 c141 k141
 have b141 := U141.binds (ps := ["_law_found"]) fun _ _ _ _ _ _ us hl => len1 (Pr := fun us => bindArgs _ ⟨us, []⟩ = pure (List.zip _ us)) us hl fun _ => rfl
 have U142 := fun_mk (st := s_law_divisor) l142 c142 k142
 have b142 := U142.binds (ps := ["_law_one", "_law_other"]) fun _ _ _ _ _ _ us hl => len2 (Pr := fun us => bindArgs _ ⟨us, []⟩ = pure (List.zip _ us)) us hl fun _ _ => rfl
 have U143 := fun_mk (st := s_law_low) l143 c143 k143
 have b143 := U143.binds (ps := ["_law_top", "_law_bottom"]) fun _ _ _ _ _ _ us hl => len2 (Pr := fun us => bindArgs _ ⟨us, []⟩ = pure (List.zip _ us)) us hl fun _ _ => rfl
 have U144 := fun_mk (st := s_law_numbers) l144 c144 k144
 have b144 := U144.binds (ps := ["_law_cell", "_law_many"]) fun _ _ _ _ _ _ us hl => len2 (Pr := fun us => bindArgs _ ⟨us, []⟩ = pure (List.zip _ us)) us hl fun _ _ => rfl
 have U145 := fun_mk (st := s_law_name) l145 c145 k145
 have b145 := U145.binds (ps := ["_law_k", "_law_seed"]) fun _ _ _ _ _ _ us hl => len2 (Pr := fun us => bindArgs _ ⟨us, []⟩ = pure (List.zip _ us)) us hl fun _ _ => rfl
 have U146 := fun_mk (st := s_law_price_by) l146 c146 k146
 have b146 := U146.binds (ps := ["_law_v", "_law_wide", "_law_cell"]) fun _ _ _ _ _ _ us hl => len3 (Pr := fun us => bindArgs _ ⟨us, []⟩ = pure (List.zip _ us)) us hl fun _ _ _ => rfl
 have U147 := fun_mk (st := s_law_roads_by) l147 c147 k147
 have b147 := U147.binds (ps := ["_law_cell", "_law_most"]) fun _ _ _ _ _ _ us hl => len2 (Pr := fun us => bindArgs _ ⟨us, []⟩ = pure (List.zip _ us)) us hl fun _ _ => rfl
 have U148 := fun_mk (st := s_law_deed_by) l148 c148 k148
 have b148 := U148.binds (ps := ["_law_v", "_law_roads", "_law_homes", "_law_k"]) fun _ _ _ _ _ _ us hl => len4 (Pr := fun us => bindArgs _ ⟨us, []⟩ = pure (List.zip _ us)) us hl fun _ _ _ _ => rfl
 have U149 := fun_mk (st := s_law_done) l149 c149 k149
 have b149 := U149.binds (ps := ["_law_deed", "_law_roads", "_law_homes"]) fun _ _ _ _ _ _ us hl => len3 (Pr := fun us => bindArgs _ ⟨us, []⟩ = pure (List.zip _ us)) us hl fun _ _ _ => rfl
 have U150 := fund_mk (st := s_law_do) l150 c150 k150
 have b150 : Binds K (PySem.W.fnOf "_law_do" "_law_do" (defArgs s_law_do) (defBody s_law_do) (defScope s_law_do) .none kV150 dc150 pm150 an150 cd150 ct150) ["_law_shire", "_law_deed"] [] := Binds.all fun us hl => len2 (Pr := fun us => bindArgs _ ⟨us, []⟩ = pure (List.zip _ us)) us hl fun _ _ => rfl
 have U151 := fun_mk (st := s_law_stands) l151 c151 k151
 have b151 := U151.binds (ps := ["_law_shire", "_law_roads", "_law_homes"]) fun _ _ _ _ _ _ us hl => len3 (Pr := fun us => bindArgs _ ⟨us, []⟩ = pure (List.zip _ us)) us hl fun _ _ _ => rfl
 have U152 := fun_mk (st := s_law_bad_name) l152 c152 k152
 have b152 := U152.binds (ps := ["_law_v", "_law_homes"]) fun _ _ _ _ _ _ us hl => len2 (Pr := fun us => bindArgs _ ⟨us, []⟩ = pure (List.zip _ us)) us hl fun _ _ => rfl
 have U153 := fun_mk (st := s_law_bad_price) l153 c153 k153
 have b153 := U153.binds (ps := ["_law_v", "_law_whole_here"]) fun _ _ _ _ _ _ us hl => len2 (Pr := fun us => bindArgs _ ⟨us, []⟩ = pure (List.zip _ us)) us hl fun _ _ => rfl
 have U154 := fun_mk (st := s_law_faulty) l154 c154 k154
 have b154 := U154.binds (ps := ["_law_v", "_law_roads", "_law_homes"]) fun _ _ _ _ _ _ us hl => len3 (Pr := fun us => bindArgs _ ⟨us, []⟩ = pure (List.zip _ us)) us hl fun _ _ _ => rfl
 have U155 := fun_mk (st := s_law_is_price) l155 c155 k155
 have b155 := U155.binds (ps := ["_law_price"]) fun _ _ _ _ _ _ us hl => len1 (Pr := fun us => bindArgs _ ⟨us, []⟩ = pure (List.zip _ us)) us hl fun _ => rfl
 have U156 := fun_mk (st := s_law_is_name) l156 c156 k156
 have b156 := U156.binds (ps := ["_law_name_here"]) fun _ _ _ _ _ _ us hl => len1 (Pr := fun us => bindArgs _ ⟨us, []⟩ = pure (List.zip _ us)) us hl fun _ => rfl
 have U157 := fun_mk (st := s_law_due) l157 c157 k157
 have b157 := U157.binds (ps := ["_law_deed", "_law_roads", "_law_homes"]) fun _ _ _ _ _ _ us hl => len3 (Pr := fun us => bindArgs _ ⟨us, []⟩ = pure (List.zip _ us)) us hl fun _ _ _ => rfl
 have U158 := fun_mk (st := s_law_word) l158 c158 k158
 have b158 := U158.binds (ps := ["_law_e"]) fun _ _ _ _ _ _ us hl => len1 (Pr := fun us => bindArgs _ ⟨us, []⟩ = pure (List.zip _ us)) us hl fun _ => rfl
 have U159 := fun_mk (st := s_law_got) l159 c159 k159
 have b159 := U159.binds (ps := ["_law_shire", "_law_deed"]) fun _ _ _ _ _ _ us hl => len2 (Pr := fun us => bindArgs _ ⟨us, []⟩ = pure (List.zip _ us)) us hl fun _ _ => rfl
 have U160 := fun_mk (st := s_law_filled) l160 c160 k160
 have b160 := U160.binds (ps := ["_law_shire", "_law_roads", "_law_homes", "_law_cell"]) fun _ _ _ _ _ _ us hl => len4 (Pr := fun us => bindArgs _ ⟨us, []⟩ = pure (List.zip _ us)) us hl fun _ _ _ _ => rfl
 have U161 := fun_mk (st := s_law) l161 c161 k161
 refine ⟨PySem.W.fnOf "law" "law" (defArgs s_law) (defBody s_law) (defScope s_law) .none kV161 dc161 pm161 an161 cd161 ct161, fun s v => .of_eq rfl, fun base _ _ => ?_⟩
 have F_is_whole := fn_mk X G a0 k0 b0 (My.ok_is_whole (P := l.prog) (w := w) (base := base) U0 n_isinstance n_int n_bool)
 have F_greatest_divisor := fn_mk X G a1 k1 b1 (My.ok_gcd (P := l.prog) (w := w) (base := base) U1 n_abs)
 have F_is_ratio := fn_mk X G a2 k2 b2 (My.ok_is_ratio (P := l.prog) (w := w) (base := base) U2 n_isinstance n_tuple n_len F_is_whole F_greatest_divisor)
 have O_ratio := My.ok_ratio (P := l.prog) (w := w) (base := base) U3 F_is_whole F_greatest_divisor
 have F_ratio : Fn l.prog w K mg base CX0 _ "ratio" ["top", "bottom"] _ := ⟨f3, _, O_ratio, b3, k3, PySem.W.mg_of X G a3⟩
 have F_rest_of := fn_mk X G a4 k4 b4 (My.ok_rest (P := l.prog) (w := w) (base := base) U4 F_ratio)
 have F_is_less := fn_mk X G a5 k5 b5 (My.ok_less (P := l.prog) (w := w) (base := base) U5 )
 have F_is_name := fn_mk X G a8 k8 b8 (My.ok_isname (P := l.prog) (w := w) (base := base) U8 n_isinstance n_str n_len n_all g_MOST_LETTERS g_LETTERS)
 have F_is_price := fn_mk X G a9 k9 b9 (My.ok_is_price (P := l.prog) (w := w) (base := base) U9 F_is_ratio)
 have F_is_road := fn_mk X G a10 k10 b10 (My.ok_is_road (P := l.prog) (w := w) (base := base) U10 n_isinstance n_tuple n_len F_is_whole F_is_price)
 have O_look_roads := My.ok_lookX (P := l.prog) (w := w) (base := base) U98 n_isinstance n_list n_len g_MOST_ROADS m_NoTree et F_is_road
 have F_look_roads : Fn l.prog w K mg base (CX1 l.prog w) _ "look_roads" ["thing"] _ := ⟨f98, _, O_look_roads, b98, k98, PySem.W.mg_of X G a98⟩
 have F_look_roads0 : Fn l.prog w K mg base CX0 _ "look_roads" ["thing"] _ := ⟨f98, _, noerr O_look_roads, b98, k98, PySem.W.mg_of X G a98⟩
 have O_way_from := My.ok_wayX (P := l.prog) (w := w) (base := base) U99 n_len m_NoTree et
 have F_way_from : Fn l.prog w K mg base (CX1 l.prog w) _ "way_from" ["roads", "k"] _ := ⟨f99, _, O_way_from, b99, k99, PySem.W.mg_of X G a99⟩
 have F_way_from0 : Fn l.prog w K mg base CX0 _ "way_from" ["roads", "k"] _ := ⟨f99, _, noerr O_way_from, b99, k99, PySem.W.mg_of X G a99⟩
 have O_Tree___init__ := My.ok_initX (P := l.prog) (w := w) (base := base) U107 n_list n_len n_range cls_Tree nf_lanes nf_ways F_look_roads F_way_from
 have K_Tree : Mkr l.prog w K mg base (CX1 l.prog w) _ cTree "Tree" ["self", "roads"] _ := ⟨f107, _, O_Tree___init__, b107, ⟨mk107, a107, i107, kc107⟩, m_Tree⟩
 have O_look0 := (noerr O_look_roads).imp (sp' := sp_look) fun vs H Q E h => look0 h
 have F_look0 : Fn l.prog w K mg base CX0 _ "look_roads" ["thing"] _ := ⟨_, _, O_look0, b98, k98, PySem.W.mg_of X G a98⟩
 have O_wayf0 := (noerr O_way_from).imp (sp' := sp_wayf) fun vs H Q E h => wayf0 h
 have F_wayf0 : Fn l.prog w K mg base CX0 _ "way_from" ["roads", "k"] _ := ⟨_, _, O_wayf0, b99, k99, PySem.W.mg_of X G a99⟩
 have Ug := fun_mk (st := s_Tree___init__) l107 c107 k107
 have O_init0 := My.ok_init (P := l.prog) (w := w) (base := base) Ug n_list n_len n_range cls_Tree nf_lanes nf_ways F_look0 F_wayf0
 have K_Tree0 : Mkr l.prog w K mg base CX0 _ cTree "Tree" ["self", "roads"] _ := ⟨f107, _, O_init0, b107, ⟨mk107, a107, i107, kc107⟩, m_Tree⟩
 have O_Tree_roads := My.ok_roadsM (P := l.prog) (w := w) (base := base) U115 n_list cls_Tree nf_lanes
 have M_roads : Mth l.prog w K mg base CX0 _ cTree "roads" ["self"] _ := ⟨f115, _, O_Tree_roads, b115, ⟨a115, i115, k115⟩, cls_Tree⟩
 have O_Tree_many := My.ok_many (P := l.prog) (w := w) (base := base) U116 n_len cls_Tree nf_ways
 have M_many : Mth l.prog w K mg base CX0 _ cTree "many" ["self"] _ := ⟨f116, _, O_Tree_many, b116, ⟨a116, i116, k116⟩, cls_Tree⟩
 have O_Tree_look_crossing := My.ok_cross (P := l.prog) (w := w) (base := base) U117 m_NoPlace ec_NoPlace F_is_whole M_many
 have M_look_crossing0 : Mth l.prog w K mg base CX0 _ cTree "look_crossing" ["self", "k"] _ := ⟨f117, _, noerr O_Tree_look_crossing, b117, ⟨a117, i117, k117⟩, cls_Tree⟩
 have M_look_crossing : Mth l.prog w K mg base (CX1 l.prog w) _ cTree "look_crossing" ["self", "k"] _ := ⟨f117, _, O_Tree_look_crossing, b117, ⟨a117, i117, k117⟩, cls_Tree⟩
 have O_Tree_look_road := My.ok_lookR (P := l.prog) (w := w) (base := base) U118 m_NoPlace ec_NoPlace M_look_crossing
 have M_look_road0 : Mth l.prog w K mg base CX0 _ cTree "look_road" ["self", "k"] _ := ⟨f118, _, noerr O_Tree_look_road, b118, ⟨a118, i118, k118⟩, cls_Tree⟩
 have M_look_road : Mth l.prog w K mg base (CX1 l.prog w) _ cTree "look_road" ["self", "k"] _ := ⟨f118, _, O_Tree_look_road, b118, ⟨a118, i118, k118⟩, cls_Tree⟩
 have O_Tree_leads_to := My.ok_leads (P := l.prog) (w := w) (base := base) U119 cls_Tree nf_lanes M_look_road
 have M_leads_to0 : Mth l.prog w K mg base CX0 _ cTree "leads_to" ["self", "k"] _ := ⟨f119, _, noerr O_Tree_leads_to, b119, ⟨a119, i119, k119⟩, cls_Tree⟩
 have M_leads_to : Mth l.prog w K mg base (CX1 l.prog w) _ cTree "leads_to" ["self", "k"] _ := ⟨f119, _, O_Tree_leads_to, b119, ⟨a119, i119, k119⟩, cls_Tree⟩
 have O_Tree_price := My.ok_priceM (P := l.prog) (w := w) (base := base) U120 cls_Tree nf_lanes M_look_road
 have M_price0 : Mth l.prog w K mg base CX0 _ cTree "price" ["self", "k"] _ := ⟨f120, _, noerr O_Tree_price, b120, ⟨a120, i120, k120⟩, cls_Tree⟩
 have M_price : Mth l.prog w K mg base (CX1 l.prog w) _ cTree "price" ["self", "k"] _ := ⟨f120, _, O_Tree_price, b120, ⟨a120, i120, k120⟩, cls_Tree⟩
 have O_look_price := My.ok_lookPriceX (P := l.prog) (w := w) (base := base) U122 m_NoPrice ec_NoPrice F_is_price
 have F_look_price : Fn l.prog w K mg base (CX1 l.prog w) _ "look_price" ["price"] _ := ⟨f122, _, O_look_price, b122, k122, PySem.W.mg_of X G a122⟩
 have F_look_price0 : Fn l.prog w K mg base CX0 _ "look_price" ["price"] _ := ⟨f122, _, noerr O_look_price, b122, k122, PySem.W.mg_of X G a122⟩
 have O_look_room := My.ok_lookRoomX (P := l.prog) (w := w) (base := base) U123 g_MOST_ROADS m_TooMany ec_TooMany M_many
 have F_look_room : Fn l.prog w K mg base (CX1 l.prog w) _ "look_room" ["tree"] _ := ⟨f123, _, O_look_room, b123, k123, PySem.W.mg_of X G a123⟩
 have F_look_room0 : Fn l.prog w K mg base CX0 _ "look_room" ["tree"] _ := ⟨f123, _, noerr O_look_room, b123, k123, PySem.W.mg_of X G a123⟩
 have F_with_road := fn_mk X G a124 k124 b124 (My.ok_withRoad (P := l.prog) (w := w) (base := base) U124 M_roads K_Tree0)
 have F_with_one_more := fn_mk X G a125 k125 b125 (My.ok_withMore (P := l.prog) (w := w) (base := base) U125 M_roads K_Tree0)
 have O_Shire___init__ := My.ok_initS (P := l.prog) (w := w) (base := base) U127 (mg := mg) (CT := cTree) cls_Shire nf_land nf_places nf_past
 have K_Shire : Mkr l.prog w K mg base CX0 _ cShire "Shire" ["self", "tree"] _ := ⟨f127, _, O_Shire___init__, b127, ⟨mk127, a127, i127, kc127⟩, m_Shire⟩
 have O_Shire_do := My.ok_do (P := l.prog) (w := w) (base := base) U128 (mg := mg) (CT := cTree) cls_Shire nf_land nf_places nf_past
 have M_do : Mth l.prog w K mg base CX0 _ cShire "do" ["self", "land", "places"] _ := ⟨f128, _, O_Shire_do, b128, ⟨a128, i128, k128⟩, cls_Shire⟩
 have O_Shire_place := My.ok_place (P := l.prog) (w := w) (base := base) U129 n_dict cls_Shire nf_land nf_places M_do
 have M_place : Mth l.prog w K mg base CX0 _ cShire "place" ["self", "name", "k"] _ := ⟨f129, _, O_Shire_place, b129, ⟨a129, i129, k129⟩, cls_Shire⟩
 have O_Shire_look_village := My.ok_lookVX (P := l.prog) (w := w) (base := base) U130 (CT := cTree) m_NoName ec_NoName cls_Shire nf_places F_is_name
 have M_look_village0 : Mth l.prog w K mg base CX0 _ cShire "look_village" ["self", "name"] _ := ⟨f130, _, noerr O_Shire_look_village, b130, ⟨a130, i130, k130⟩, cls_Shire⟩
 have M_look_village : Mth l.prog w K mg base (CX1 l.prog w) _ cShire "look_village" ["self", "name"] _ := ⟨f130, _, O_Shire_look_village, b130, ⟨a130, i130, k130⟩, cls_Shire⟩
 have O_Shire_come := My.ok_comeX (P := l.prog) (w := w) (base := base) U131 n_len g_MOST_VILLAGES m_NoName ec_NoName m_TooMany ec_TooMany cls_Shire nf_land nf_places F_is_name M_look_crossing M_place
 have M_come0 : Mth l.prog w K mg base CX0 _ cShire "come" ["self", "name", "k"] _ := ⟨f131, _, noerr O_Shire_come, b131, ⟨a131, i131, k131⟩, cls_Shire⟩
 have M_come : Mth l.prog w K mg base (CX1 l.prog w) _ cShire "come" ["self", "name", "k"] _ := ⟨f131, _, O_Shire_come, b131, ⟨a131, i131, k131⟩, cls_Shire⟩
 have O_Shire_go := My.ok_goX (P := l.prog) (w := w) (base := base) U132 n_dict cls_Shire nf_land nf_places M_look_village M_do
 have M_go0 : Mth l.prog w K mg base CX0 _ cShire "go" ["self", "name"] _ := ⟨f132, _, noerr O_Shire_go, b132, ⟨a132, i132, k132⟩, cls_Shire⟩
 have M_go : Mth l.prog w K mg base (CX1 l.prog w) _ cShire "go" ["self", "name"] _ := ⟨f132, _, O_Shire_go, b132, ⟨a132, i132, k132⟩, cls_Shire⟩
 have O_Shire_move := My.ok_moveX (P := l.prog) (w := w) (base := base) U133 cls_Shire nf_land M_look_village M_look_crossing M_place
 have M_move0 : Mth l.prog w K mg base CX0 _ cShire "move" ["self", "name", "k"] _ := ⟨f133, _, noerr O_Shire_move, b133, ⟨a133, i133, k133⟩, cls_Shire⟩
 have M_move : Mth l.prog w K mg base (CX1 l.prog w) _ cShire "move" ["self", "name", "k"] _ := ⟨f133, _, O_Shire_move, b133, ⟨a133, i133, k133⟩, cls_Shire⟩
 have O_Shire_reprice := My.ok_repriceX (P := l.prog) (w := w) (base := base) U134 cls_Shire nf_land nf_places M_look_road M_leads_to F_look_price F_with_road M_do
 have M_reprice0 : Mth l.prog w K mg base CX0 _ cShire "reprice" ["self", "k", "price"] _ := ⟨f134, _, noerr O_Shire_reprice, b134, ⟨a134, i134, k134⟩, cls_Shire⟩
 have M_reprice : Mth l.prog w K mg base (CX1 l.prog w) _ cShire "reprice" ["self", "k", "price"] _ := ⟨f134, _, O_Shire_reprice, b134, ⟨a134, i134, k134⟩, cls_Shire⟩
 have O_Shire_build := My.ok_buildX (P := l.prog) (w := w) (base := base) U135 cls_Shire nf_land nf_places M_look_crossing M_many F_look_price F_look_room F_with_one_more M_do
 have M_build0 : Mth l.prog w K mg base CX0 _ cShire "build" ["self", "to", "price"] _ := ⟨f135, _, noerr O_Shire_build, b135, ⟨a135, i135, k135⟩, cls_Shire⟩
 have M_build : Mth l.prog w K mg base (CX1 l.prog w) _ cShire "build" ["self", "to", "price"] _ := ⟨f135, _, O_Shire_build, b135, ⟨a135, i135, k135⟩, cls_Shire⟩
 have O_Shire_cut := My.ok_cutX (P := l.prog) (w := w) (base := base) U136 m_NoPrice ec_NoPrice cls_Shire nf_land nf_places M_price M_leads_to M_many F_look_price F_is_less F_look_room F_with_one_more F_with_road F_rest_of M_do
 have M_cut0 : Mth l.prog w K mg base CX0 _ cShire "cut" ["self", "k", "price"] _ := ⟨f136, _, noerr O_Shire_cut, b136, ⟨a136, i136, k136⟩, cls_Shire⟩
 have M_cut : Mth l.prog w K mg base (CX1 l.prog w) _ cShire "cut" ["self", "k", "price"] _ := ⟨f136, _, O_Shire_cut, b136, ⟨a136, i136, k136⟩, cls_Shire⟩
 have O_Shire_back := My.ok_backX (P := l.prog) (w := w) (base := base) U137 (CT := cTree) m_NoDeed ed cls_Shire nf_land nf_places nf_past
 have M_back0 : Mth l.prog w K mg base CX0 _ cShire "back" ["self"] _ := ⟨f137, _, noerr O_Shire_back, b137, ⟨a137, i137, k137⟩, cls_Shire⟩
 have M_back : Mth l.prog w K mg base (CX1 l.prog w) _ cShire "back" ["self"] _ := ⟨f137, _, O_Shire_back, b137, ⟨a137, i137, k137⟩, cls_Shire⟩
 have O_Shire_tree := My.ok_treeS (P := l.prog) (w := w) (base := base) U138 (mg := mg) (CT := cTree) cls_Shire nf_land
 have M_tree : Mth l.prog w K mg base CX0 _ cShire "tree" ["self"] _ := ⟨f138, _, O_Shire_tree, b138, ⟨a138, i138, k138⟩, cls_Shire⟩
 have O_Shire_homes := My.ok_homesS (P := l.prog) (w := w) (base := base) U139 (CT := cTree) n_dict cls_Shire nf_places
 have M_homes : Mth l.prog w K mg base CX0 _ cShire "homes" ["self"] _ := ⟨f139, _, O_Shire_homes, b139, ⟨a139, i139, k139⟩, cls_Shire⟩
 have F_law_cell_at := fn_mk X G a140 k140 b140 (My.ok_cell (P := l.prog) (w := w) (base := base) U140 n_len)
 have F_law_whole := fn_mk X G a141 k141 b141 (My.ok_law_whole (P := l.prog) (w := w) (base := base) U141 n_isinstance n_int n_bool)
 have F_law_divisor := fn_mk X G a142 k142 b142 (My.ok_divisor (P := l.prog) (w := w) (base := base) U142 n_abs)
 have F_law_low := fn_mk X G a143 k143 b143 (My.ok_lowQ (P := l.prog) (w := w) (base := base) U143 F_law_divisor)
 have F_law_numbers := fn_mk X G a144 k144 b144 (My.ok_numbersE (P := l.prog) (w := w) (base := base) U144 n_range)
 have F_law_name := fn_mk X G a145 k145 b145 (My.ok_nameX (P := l.prog) (w := w) (base := base) U145 n_range)
 have F_law_price_by := fn_mk X G a146 k146 b146 (My.ok_priceE (P := l.prog) (w := w) (base := base) U146 F_law_low)
 have F_law_roads_by := fn_mk X G a147 k147 b147 (My.ok_roadsE (P := l.prog) (w := w) (base := base) U147 n_range n_min n_max F_law_numbers F_law_price_by)
 have F_law_deed_by := fn_mk X G a148 k148 b148 (My.ok_deedBy (P := l.prog) (w := w) (base := base) U148 n_sorted n_len n_max F_law_low F_law_name)
 have F_law_done := fn_mk X G a149 k149 b149 (My.ok_done (P := l.prog) (w := w) (base := base) U149 n_list n_dict n_len F_law_low)
 have O_law_do := My.ok_doX (P := l.prog) (w := w) (base := base) U150 M_come M_go M_move M_reprice M_build M_cut
 have F_law_do : Fn l.prog w K mg base (CX1 l.prog w) _ "_law_do" ["_law_shire", "_law_deed"] _ := ⟨f150, _, O_law_do, b150, k150, PySem.W.mg_of X G a150⟩
 have F_law_do0 : Fn l.prog w K mg base CX0 _ "_law_do" ["_law_shire", "_law_deed"] _ := ⟨f150, _, noerr O_law_do, b150, k150, PySem.W.mg_of X G a150⟩
 have F_law_stands := fn_mk X G a151 k151 b151 (My.ok_stands (P := l.prog) (w := w) (base := base) U151 n_isinstance n_len n_dict m_Tree oc_Tree M_tree M_homes M_roads M_many)
 have F_law_bad_name := fn_mk X G a152 k152 b152 (My.ok_badName (P := l.prog) (w := w) (base := base) U152 n_sorted n_len)
 have F_law_bad_price := fn_mk X G a153 k153 b153 (My.ok_badPrice (P := l.prog) (w := w) (base := base) U153 F_law_low)
 have F_law_faulty := fn_mk X G a154 k154 b154 (My.ok_faulty (P := l.prog) (w := w) (base := base) U154 n_sorted n_len n_max n_int F_law_bad_name F_law_bad_price)
 have F_law_is_price := fn_mk X G a155 k155 b155 (My.ok_lawPrice (P := l.prog) (w := w) (base := base) U155 n_isinstance n_tuple n_len F_law_whole F_law_divisor)
 have F_law_is_name := fn_mk X G a156 k156 b156 (My.ok_lawName (P := l.prog) (w := w) (base := base) U156 n_len)
 have F_law_due := fn_mk X G a157 k157 b157 (My.ok_due (P := l.prog) (w := w) (base := base) U157 n_len F_law_is_name F_law_is_price)
 have O_law_word := My.ok_wordE (P := l.prog) (w := w) (base := base) U158 n_isinstance n_ValueError m_NoName m_NoPlace m_NoPrice m_TooMany m_NoDeed m_NoFraction m_NoSharing m_NoText m_NoTree
 have F_law_word : FnH l.prog w K mg base _ "_law_word" ["_law_e"] _ := ⟨f158, _, O_law_word, b158, k158, PySem.W.mg_of X G a158⟩
 have F_law_got := fn_mk X G a159 k159 b159 (My.ok_got (P := l.prog) (w := w) (base := base) U159 m_ShareError F_law_do F_law_word)
 have F_law_filled := fn_mk X G a160 k160 b160 (My.ok_filled (P := l.prog) (w := w) (base := base) U160 n_len n_range F_law_name F_law_do0 F_law_done)
 exact My.ok_law (P := l.prog) (w := w) (base := base) U161 n_list n_len n_range n_max n_min n_abs F_law_cell_at F_law_roads_by F_law_numbers F_law_deed_by F_law_do0 F_law_done F_law_filled F_law_faulty F_law_due F_law_got ef F_law_stands K_Tree0 K_Shire M_back0
end My
namespace PySem.W.Fast
def tw4288397789350676820 := ()
def tw2477331711359427910 := ()
def tw1317274812090790417 := ()
def tw2989189081546550379 := ()
def tw10522778755475533363 := ()
def tw17016486397300036747 := ()
def tw15091928551507158013 := ()
def tw8993670524247829397 := ()
def tw9637896101601965078 := ()
def tw13578624135008752063 := ()
def tw10738423638414649069 := ()
def tw2994323220084071812 := ()
def tw6679360993645540481 := ()
def tw11424638727382539989 := ()
def tw12779330376146791066 := ()
def tw4041190993487808832 := ()
def tw1794857442991288667 := ()
def tw6010593868537854423 := ()
def tw9275311728672158831 := ()
def tw13589776713600414066 := ()
def tw2884465424573319512 := ()
def tw11166317719541755352 := ()
def tw15966382942565347867 := ()
def tw3123367550113864030 := ()
def tw13026804299999105892 := ()
def tw4382337217236753650 := ()
def tw12642855875196681584 := ()
def tw13364481905122083278 := ()
def tw2227785907296243643 := ()
def tw6319828315207446230 := ()
def tw4408835997774476119 := ()
def tw11033632090942619483 := ()
def tw14484014068748451163 := ()
def tw1417864247561137794 := ()
def tw10490371418615081627 := ()
def tw13191039782720251673 := ()
def tw6020014020854896410 := ()
def tw6161966259653547503 := ()
def tw6052404789319439796 := ()
def tw2926906341376597985 := ()
def tw17463662206531739244 := ()
def tw4018923543462409401 := ()
def tw4628089624356692739 := ()
def tw2693375241530128945 := ()
def tw16558708450932141147 := ()
def tw2242974425180853439 := ()
def tw14773372362645350065 := ()
def tw11191503850830087206 := ()
def tw41614663343176601 := ()
def tw4340663048595963140 := ()
def tw16107466086206986924 := ()
def tw12353997879957545480 := ()
def tw5407839333862470164 := ()
def tw9949355877074906580 := ()
def tw4138569889318455977 := ()
def tw659431022954323314 := ()
def tw8818207123048836424 := ()
def tw15036977191963695455 := ()
def tw14735894789965588661 := ()
def tw8862716387605858841 := ()
def tw11306180589276446414 := ()
def tw4810100995171533264 := ()
def tw2570322122485949126 := ()
def tw15046486776547782311 := ()
def tw10190431782863017126 := ()
def tw14201596073766149396 := ()
def tw11683364518729717973 := ()
def tw14057312185906540103 := ()
def tw2930553551952120343 := ()
def tw1305081317787273110 := ()
def tw2740951288214062189 := ()
def tw13970449268843943140 := ()
def tw11810269679471073208 := ()
def tw17347652562388243764 := ()
def tw10813215315650737762 := ()
def tw4523435665732627978 := ()
def tw14106987328389174471 := ()
def tw12548940727765477805 := ()
def tw5737876453251182784 := ()
def tw10518850160471273982 := ()
def tw4403187861112254001 := ()
def tw4925201396181786804 := ()
def tw2658153902334027244 := ()
def tw10487195598567113927 := ()
def tw12165727608371431550 := ()
def tw16514282839430326294 := ()
def tw3232109503625613883 := ()
def tw10016422143712670889 := ()
def tw6121752134635073730 := ()
def tw15340837095983923723 := ()
def tw9385435270907252055 := ()
def tw8347464612837373079 := ()
def tw152442589748064916 := ()
def tw6094025838084160346 := ()
def tw69499946533234553 := ()
def tw10257413875617082666 := ()
def tw7898188600404935954 := ()
def tw1708816846573928584 := ()
def tw6970961936790129248 := ()
def tw1583314706443638737 := ()
def tw9364432813114235192 := ()
def tw17713877266963205939 := ()
def tw6375050591305308921 := ()
def tw15556964591592032886 := ()
def tw5728110018262782663 := ()
def tw6421145824424985316 := ()
def tw5513271600361790386 := ()
def tw2725230545037175134 := ()
def tw18265767987409202647 := ()
def tw10965702783089566147 := ()
def tw14153419491381658354 := ()
def tw13937680679966216156 := ()
def tw5225968386302228443 := ()
def tw3278666498401102588 := ()
def tw8192328125639756162 := ()
def tw7251138861070271451 := ()
def tw849302820825224733 := ()
def tw7554699481715248204 := ()
def tw11112989037545307896 := ()
def tw5356342157200551389 := ()
def tw10704591803864387227 := ()
def tw16680422737753916742 := ()
def tw15492756934319334316 := ()
def tw14489813704640737254 := ()
def tw14752554259094110090 := ()
def tw9794750893335160514 := ()
end PySem.W.Fast
open PySem PySem.W PyProof.Rows
set_option maxRecDepth 100000 in
set_option maxHeartbeats 0 in
theorem PySem.Challenge.cw_roadshare_k72_deeds_refused_holds : PySem.Challenge.rw_roadshare_k72_deeds_refused.Holds := by
 w_on; o_law; k_head; (case hw => w_witness2)
 k_fill
 refine My.walk_fits (l := PySem.Challenge.rw_roadshare_k72_deeds_refused) (n := 63) (k := 13) (x := "_law_script") (CX := L2.CX0) (sp := My.sp_law) rfl (by decide) rfl ⟨rfl, by decide, by decide⟩ (fun w h Y => PySem.W.kIn_of Y) ?F ?S ?C
 case S => exact fun K H a ns hl hfit hO hS => ⟨a, ns, rfl, hS, hfit, fun _ => rfl⟩
 case C => exact fun _ _ _ _ z => z
 case F =>
  intro w mg fa h KX G hmg
  refine' My.all_mk KX G hmg ?a0 ?l0 ?c0 ?k0 ?a1 ?l1 ?c1 ?k1 ?a2 ?l2 ?c2 ?k2 ?a3 ?l3 ?c3 ?k3 ?t3 ?a4 ?l4 ?c4 ?k4 ?a5 ?l5 ?c5 ?k5 ?a_MOST_LETTERS ?a_LETTERS ?a8 ?l8 ?c8 ?k8 ?a9 ?l9 ?c9 ?k9 ?a10 ?l10 ?c10 ?k10 ?a_MOST_ROADS ?a_ShareError ?a_NoName ?a_NoPlace ?a_NoPrice ?a_TooMany ?a_NoTree ?a_NoDeed ?a_NoFraction ?a_NoSharing ?a_NoText ?x4 ?x5 ?ec0 ?x00 ?x10 ?x20 ?x30 ?x60 ?x70 ?ee0 ?kk00 ?kk01 ?kk02 ?kk03 ?ka0 ?kv0 ?ec1 ?x01 ?x11 ?x21 ?x31 ?x61 ?x71 ?ee1 ?kk10 ?kk11 ?kk12 ?kk13 ?ka1 ?kv1 ?ec2 ?x02 ?x12 ?x22 ?x32 ?x62 ?x72 ?ee2 ?kk20 ?kk21 ?kk22 ?kk23 ?ka2 ?kv2 ?ec3 ?x03 ?x13 ?x23 ?x33 ?x63 ?x73 ?ee3 ?kk30 ?kk31 ?kk32 ?kk33 ?ka3 ?kv3 ?et0 ?ed0 ?a98 ?l98 ?c98 ?k98 ?a99 ?l99 ?c99 ?k99 ?a_Tree ?pg_Tree ?hd_Tree ?po_Tree ?sa_Tree ?nf_lanes ?nf_ways ?oa_Tree ?ob_Tree ?ot_Tree ?om_Tree ?ok_Tree ?a107 ?l107 ?c107 ?k107 ?i107 ?mk107 ?kc107 ?a115 ?l115 ?c115 ?k115 ?i115 ?a116 ?l116 ?c116 ?k116 ?i116 ?a117 ?l117 ?c117 ?k117 ?i117 ?a118 ?l118 ?c118 ?k118 ?i118 ?a119 ?l119 ?c119 ?k119 ?i119 ?a120 ?l120 ?c120 ?k120 ?i120 ?a_MOST_VILLAGES ?a122 ?l122 ?c122 ?k122 ?a123 ?l123 ?c123 ?k123 ?a124 ?l124 ?c124 ?k124 ?a125 ?l125 ?c125 ?k125 ?a_Shire ?pg_Shire ?hd_Shire ?po_Shire ?sa_Shire ?nf_land ?nf_places ?nf_past ?a127 ?l127 ?c127 ?k127 ?i127 ?mk127 ?kc127 ?a128 ?l128 ?c128 ?k128 ?i128 ?a129 ?l129 ?c129 ?k129 ?i129 ?a130 ?l130 ?c130 ?k130 ?i130 ?a131 ?l131 ?c131 ?k131 ?i131 ?a132 ?l132 ?c132 ?k132 ?i132 ?a133 ?l133 ?c133 ?k133 ?i133 ?a134 ?l134 ?c134 ?k134 ?i134 ?a135 ?l135 ?c135 ?k135 ?i135 ?a136 ?l136 ?c136 ?k136 ?i136 ?a137 ?l137 ?c137 ?k137 ?i137 ?a138 ?l138 ?c138 ?k138 ?i138 ?a139 ?l139 ?c139 ?k139 ?i139 ?a140 ?l140 ?c140 ?k140 ?a141 ?l141 ?c141 ?k141 ?a142 ?l142 ?c142 ?k142 ?a143 ?l143 ?c143 ?k143 ?a144 ?l144 ?c144 ?k144 ?a145 ?l145 ?c145 ?k145 ?a146 ?l146 ?c146 ?k146 ?a147 ?l147 ?c147 ?k147 ?a148 ?l148 ?c148 ?k148 ?a149 ?l149 ?c149 ?k149 ?a150 ?l150 ?c150 ?k150 ?a151 ?l151 ?c151 ?k151 ?a152 ?l152 ?c152 ?k152 ?a153 ?l153 ?c153 ?k153 ?a154 ?l154 ?c154 ?k154 ?a155 ?l155 ?c155 ?k155 ?a156 ?l156 ?c156 ?k156 ?a157 ?l157 ?c157 ?k157 ?a158 ?l158 ?c158 ?k158 ?a159 ?l159 ?c159 ?k159 ?a160 ?l160 ?c160 ?k160 ?a161 ?l161 ?c161 ?k161 ?z_isinstance ?z_int ?z_bool ?z_abs ?z_tuple ?z_len ?z_str ?z_all ?z_list ?z_range ?z_dict ?z_min ?z_max ?z_sorted ?z_ValueError
  (case a0 => k_is)
  (case l0 => k_is)
  (case c0 => k_is)
  (case k0 => k_is)
  (case a1 => k_is)
  (case l1 => k_is)
  (case c1 => k_is)
  (case k1 => k_is)
  (case a2 => k_is)
  (case l2 => k_is)
  (case c2 => k_is)
  (case k2 => k_is)
  (case a3 => k_is)
  (case l3 => k_is)
  (case c3 => k_is)
  (case k3 => k_is)
  (case t3 => k_is)
  (case a4 => k_is)
  (case l4 => k_is)
  (case c4 => k_is)
  (case k4 => k_is)
  (case a5 => k_is)
  (case l5 => k_is)
  (case c5 => k_is)
  (case k5 => k_is)
  (case a_MOST_LETTERS => k_is)
  (case a_LETTERS => k_is)
  (case a8 => k_is)
  (case l8 => k_is)
  (case c8 => k_is)
  (case k8 => k_is)
  (case a9 => k_is)
  (case l9 => k_is)
  (case c9 => k_is)
  (case k9 => k_is)
  (case a10 => k_is)
  (case l10 => k_is)
  (case c10 => k_is)
  (case k10 => k_is)
  (case a_MOST_ROADS => k_is)
  (case a_ShareError => k_is)
  (case a_NoName => k_is)
  (case a_NoPlace => k_is)
  (case a_NoPrice => k_is)
  (case a_TooMany => k_is)
  (case a_NoTree => k_is)
  (case a_NoDeed => k_is)
  (case a_NoFraction => k_is)
  (case a_NoSharing => k_is)
  (case a_NoText => k_is)
  (case x4 => k_is)
  (case x5 => k_is)
  (case ec0 => k_exc)
  (case x00 => k_is)
  (case x10 => k_is)
  (case x20 => k_is)
  (case x30 => k_is)
  (case x60 => k_is)
  (case x70 => k_is)
  (case ee0 => kts_exm)
  (case kk00 => kit_is)
  (case kk01 => kit_is)
  (case kk02 => kit_is)
  (case kk03 => kit_is)
  (case ka0 => kit_is)
  (case kv0 => kit_is)
  (case ec1 => k_exc)
  (case x01 => k_is)
  (case x11 => k_is)
  (case x21 => k_is)
  (case x31 => k_is)
  (case x61 => k_is)
  (case x71 => k_is)
  (case ee1 => kts_exm)
  (case kk10 => kit_is)
  (case kk11 => kit_is)
  (case kk12 => kit_is)
  (case kk13 => kit_is)
  (case ka1 => kit_is)
  (case kv1 => kit_is)
  (case ec2 => k_exc)
  (case x02 => k_is)
  (case x12 => k_is)
  (case x22 => k_is)
  (case x32 => k_is)
  (case x62 => k_is)
  (case x72 => k_is)
  (case ee2 => kts_exm)
  (case kk20 => kit_is)
  (case kk21 => kit_is)
  (case kk22 => kit_is)
  (case kk23 => kit_is)
  (case ka2 => kit_is)
  (case kv2 => kit_is)
  (case ec3 => k_exc)
  (case x03 => k_is)
  (case x13 => k_is)
  (case x23 => k_is)
  (case x33 => k_is)
  (case x63 => k_is)
  (case x73 => k_is)
  (case ee3 => kts_exm)
  (case kk30 => kit_is)
  (case kk31 => kit_is)
  (case kk32 => kit_is)
  (case kk33 => kit_is)
  (case ka3 => kit_is)
  (case kv3 => kit_is)
  (case et0 => k_exc)
  (case ed0 => k_exc)
  (case a98 => k_is)
  (case l98 => k_is)
  (case c98 => k_is)
  (case k98 => k_is)
  (case a99 => k_is)
  (case l99 => k_is)
  (case c99 => k_is)
  (case k99 => k_is)
  (case a_Tree => k_is)
  (case pg_Tree => k_is)
  (case hd_Tree => k_is)
  (case po_Tree => k_is)
  (case sa_Tree => k_is)
  (case nf_lanes => k_is)
  (case nf_ways => k_is)
  (case oa_Tree => k_is)
  (case ob_Tree => k_is)
  (case ot_Tree => k_is)
  (case om_Tree => k_is)
  (case ok_Tree => kit_is)
  (case a107 => k_is)
  (case l107 => k_is)
  (case c107 => k_is)
  (case k107 => k_is)
  (case i107 => k_is)
  (case mk107 => k_is)
  (case kc107 => k_is)
  (case a115 => k_is)
  (case l115 => k_is)
  (case c115 => k_is)
  (case k115 => k_is)
  (case i115 => k_is)
  (case a116 => k_is)
  (case l116 => k_is)
  (case c116 => k_is)
  (case k116 => k_is)
  (case i116 => k_is)
  (case a117 => k_is)
  (case l117 => k_is)
  (case c117 => k_is)
  (case k117 => k_is)
  (case i117 => k_is)
  (case a118 => k_is)
  (case l118 => k_is)
  (case c118 => k_is)
  (case k118 => k_is)
  (case i118 => k_is)
  (case a119 => k_is)
  (case l119 => k_is)
  (case c119 => k_is)
  (case k119 => k_is)
  (case i119 => k_is)
  (case a120 => k_is)
  (case l120 => k_is)
  (case c120 => k_is)
  (case k120 => k_is)
  (case i120 => k_is)
  (case a_MOST_VILLAGES => k_is)
  (case a122 => k_is)
  (case l122 => k_is)
  (case c122 => k_is)
  (case k122 => k_is)
  (case a123 => k_is)
  (case l123 => k_is)
  (case c123 => k_is)
  (case k123 => k_is)
  (case a124 => k_is)
  (case l124 => k_is)
  (case c124 => k_is)
  (case k124 => k_is)
  (case a125 => k_is)
  (case l125 => k_is)
  (case c125 => k_is)
  (case k125 => k_is)
  (case a_Shire => k_is)
  (case pg_Shire => k_is)
  (case hd_Shire => k_is)
  (case po_Shire => k_is)
  (case sa_Shire => k_is)
  (case nf_land => k_is)
  (case nf_places => k_is)
  (case nf_past => k_is)
  (case a127 => k_is)
  (case l127 => k_is)
  (case c127 => k_is)
  (case k127 => k_is)
  (case i127 => k_is)
  (case mk127 => k_is)
  (case kc127 => k_is)
  (case a128 => k_is)
  (case l128 => k_is)
  (case c128 => k_is)
  (case k128 => k_is)
  (case i128 => k_is)
  (case a129 => k_is)
  (case l129 => k_is)
  (case c129 => k_is)
  (case k129 => k_is)
  (case i129 => k_is)
  (case a130 => k_is)
  (case l130 => k_is)
  (case c130 => k_is)
  (case k130 => k_is)
  (case i130 => k_is)
  (case a131 => k_is)
  (case l131 => k_is)
  (case c131 => k_is)
  (case k131 => k_is)
  (case i131 => k_is)
  (case a132 => k_is)
  (case l132 => k_is)
  (case c132 => k_is)
  (case k132 => k_is)
  (case i132 => k_is)
  (case a133 => k_is)
  (case l133 => k_is)
  (case c133 => k_is)
  (case k133 => k_is)
  (case i133 => k_is)
  (case a134 => k_is)
  (case l134 => k_is)
  (case c134 => k_is)
  (case k134 => k_is)
  (case i134 => k_is)
  (case a135 => k_is)
  (case l135 => k_is)
  (case c135 => k_is)
  (case k135 => k_is)
  (case i135 => k_is)
  (case a136 => k_is)
  (case l136 => k_is)
  (case c136 => k_is)
  (case k136 => k_is)
  (case i136 => k_is)
  (case a137 => k_is)
  (case l137 => k_is)
  (case c137 => k_is)
  (case k137 => k_is)
  (case i137 => k_is)
  (case a138 => k_is)
  (case l138 => k_is)
  (case c138 => k_is)
  (case k138 => k_is)
  (case i138 => k_is)
  (case a139 => k_is)
  (case l139 => k_is)
  (case c139 => k_is)
  (case k139 => k_is)
  (case i139 => k_is)
  (case a140 => k_is)
  (case l140 => k_is)
  (case c140 => k_is)
  (case k140 => k_is)
  (case a141 => k_is)
  (case l141 => k_is)
  (case c141 => k_is)
  (case k141 => k_is)
  (case a142 => k_is)
  (case l142 => k_is)
  (case c142 => k_is)
  (case k142 => k_is)
  (case a143 => k_is)
  (case l143 => k_is)
  (case c143 => k_is)
  (case k143 => k_is)
  (case a144 => k_is)
  (case l144 => k_is)
  (case c144 => k_is)
  (case k144 => k_is)
  (case a145 => k_is)
  (case l145 => k_is)
  (case c145 => k_is)
  (case k145 => k_is)
  (case a146 => k_is)
  (case l146 => k_is)
  (case c146 => k_is)
  (case k146 => k_is)
  (case a147 => k_is)
  (case l147 => k_is)
  (case c147 => k_is)
  (case k147 => k_is)
  (case a148 => k_is)
  (case l148 => k_is)
  (case c148 => k_is)
  (case k148 => k_is)
  (case a149 => k_is)
  (case l149 => k_is)
  (case c149 => k_is)
  (case k149 => k_is)
  (case a150 => k_is)
  (case l150 => k_is)
  (case c150 => k_is)
  (case k150 => k_is)
  (case a151 => k_is)
  (case l151 => k_is)
  (case c151 => k_is)
  (case k151 => k_is)
  (case a152 => k_is)
  (case l152 => k_is)
  (case c152 => k_is)
  (case k152 => k_is)
  (case a153 => k_is)
  (case l153 => k_is)
  (case c153 => k_is)
  (case k153 => k_is)
  (case a154 => k_is)
  (case l154 => k_is)
  (case c154 => k_is)
  (case k154 => k_is)
  (case a155 => k_is)
  (case l155 => k_is)
  (case c155 => k_is)
  (case k155 => k_is)
  (case a156 => k_is)
  (case l156 => k_is)
  (case c156 => k_is)
  (case k156 => k_is)
  (case a157 => k_is)
  (case l157 => k_is)
  (case c157 => k_is)
  (case k157 => k_is)
  (case a158 => k_is)
  (case l158 => k_is)
  (case c158 => k_is)
  (case k158 => k_is)
  (case a159 => k_is)
  (case l159 => k_is)
  (case c159 => k_is)
  (case k159 => k_is)
  (case a160 => k_is)
  (case l160 => k_is)
  (case c160 => k_is)
  (case k160 => k_is)
  (case a161 => k_is)
  (case l161 => k_is)
  (case c161 => k_is)
  (case k161 => k_is)
  (case z_isinstance => k_is)
  (case z_int => k_is)
  (case z_bool => k_is)
  (case z_abs => k_is)
  (case z_tuple => k_is)
  (case z_len => k_is)
  (case z_str => k_is)
  (case z_all => k_is)
  (case z_list => k_is)
  (case z_range => k_is)
  (case z_dict => k_is)
  (case z_min => k_is)
  (case z_max => k_is)
  (case z_sorted => k_is)
  (case z_ValueError => k_is)
#print axioms PySem.Challenge.cw_roadshare_k72_deeds_refused_holds
