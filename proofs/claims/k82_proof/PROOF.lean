import PyProof.Rows.All
import Wide.All
import OpenK.AllK
import Wide.FinOn
import Lean
import PyProof.EqAt
import PyProof.EqKinds
import PyProof.TupleCall
import KE.KIntText
import PySem.Challenge.RW_roadshare_k82_no_fractions
set_option Elab.async false
set_option linter.all false
set_option maxRecDepth 100000
namespace L2
open PySem PySem.Spec PyProof.Rows
abbrev Key := Sum Int Str
def keyIs : Key → Value → Bool
 | .inl k, v => Value.isInt k v
 | .inr x, v => Value.isStrOf x v
def keyH (w : World) : Key → Int
 | .inl k => hashInt k
 | .inr x => hashStr w x
theorem keyIs_shape : ∀ {k : Key} {v : Value}, keyIs k v = true → (∃ i t, k = Sum.inl i ∧ v = Value.int i t) ∨ (∃ x t, k = Sum.inr x ∧ v = Value.str x t)
 | .inl i, v, h => by
  obtain ⟨t, e⟩ := Value.isInt_shape (k := i) (v := v) h
  exact .inl ⟨i, t, rfl, e⟩
 | .inr x, v, h => by
  obtain ⟨t, e⟩ := Value.isStrOf_shape (x := x) (v := v) h
  exact .inr ⟨x, t, rfl, e⟩
theorem keyIs_int (i : Int) (t : Tok) : keyIs (.inl i) (.int i t) = true := by simp [keyIs, Value.isInt]
theorem keyIs_str (x : Str) (t : Tok) : keyIs (.inr x) (.str x t) = true := by simp [keyIs, Value.isStrOf]
theorem key_ll (a b : Int) : decide ((Sum.inl a : Key) = Sum.inl b) = (a == b) := by
 by_cases e : a = b
 ·subst e; simp
 ·have h : ¬ (Sum.inl a : Key) = Sum.inl b := fun q => e (Sum.inl.inj q)
  rw [decide_eq_false h]
  exact (beq_eq_false_iff_ne.mpr e).symm
theorem key_rr (a b : Str) : decide ((Sum.inr a : Key) = Sum.inr b) = decide (a = b) := by
 by_cases e : a = b
 ·subst e; simp
 ·have h : ¬ (Sum.inr a : Key) = Sum.inr b := fun q => e (Sum.inr.inj q)
  rw [decide_eq_false h, decide_eq_false e]
theorem key_lr (a : Int) (b : Str) : decide ((Sum.inl a : Key) = Sum.inr b) = false := decide_eq_false (fun q => nomatch q)
theorem key_rl (a : Str) (b : Int) : decide ((Sum.inr a : Key) = Sum.inl b) = false := decide_eq_false (fun q => nomatch q)
def mixKind (prog : Program) (w : World) : PySem.KeyKind prog w Key where
 is := keyIs
 hash := keyH w
 inj := fun v a b ha hb => by
  rcases keyIs_shape ha with ⟨i, t, rfl, rfl⟩ | ⟨x, t, rfl, rfl⟩
  ·rcases keyIs_shape hb with ⟨j, u, rfl, e⟩ | ⟨y, u, rfl, e⟩
   ·injection e with e1 _; rw [e1]
   ·exact nomatch e
  ·rcases keyIs_shape hb with ⟨j, u, rfl, e⟩ | ⟨y, u, rfl, e⟩
   ·exact nomatch e
   ·injection e with e1 _; rw [e1]
 byValue := fun k v h => by
  rcases keyIs_shape h with ⟨i, t, rfl, rfl⟩ | ⟨x, t, rfl, rfl⟩ <;> rfl
 pyHash := fun hv h => by
  rcases keyIs_shape hv with ⟨i, t, rfl, rfl⟩ | ⟨x, t, rfl, rfl⟩
  ·exact wpAny_pyHash_int h
  ·exact wpAny_pyHash_str h
 eqBool := fun hu hv h => by
  rcases keyIs_shape hu with ⟨i, t, rfl, rfl⟩ | ⟨x, t, rfl, rfl⟩
  ·rcases keyIs_shape hv with ⟨j, u, rfl, rfl⟩ | ⟨y, u, rfl, rfl⟩
   ·rw [key_ll] at h; exact wpAny_eqBool_int h
   ·rw [key_lr] at h; exact SeqAt.EqAt.int_str i t y u _ _ _ _ h
  ·rcases keyIs_shape hv with ⟨j, u, rfl, rfl⟩ | ⟨y, u, rfl, rfl⟩
   ·rw [key_rl] at h; exact SeqAt.EqAt.str_int x t j u _ _ _ _ h
   ·rw [key_rr] at h; exact wpAny_eqBool_str h
 «strs» := fun k x t v h => by
  rcases keyIs_shape h with ⟨i, u, rfl, e⟩ | ⟨y, u, rfl, e⟩
  ·exact nomatch e
  ·injection e with e1 _
   subst e1
   cases v <;> rfl
theorem mixKind_int (prog : Program) (w : World) (i : Int) (t : Tok) : (mixKind prog w).is (.inl i) (.int i t) = true := keyIs_int i t
theorem mixKind_str (prog : Program) (w : World) (x : Str) (t : Tok) : (mixKind prog w).is (.inr x) (.str x t) = true := keyIs_str x t
end L2
namespace L2
open PySem PySem.Spec PyProof.Rows
inductive V where
 | non | bl (b : Bool) | int (i : Int) | str (x : Str) | byt (b : Array UInt8) | flt (b : UInt64) | ref (a : Addr) | ty (n : String)
 deriving DecidableEq
def RelV : V → Value → Prop
 | .non, u => u = Value.none
 | .bl b, u => u = Value.bool b
 | .int i, u => ∃ t, u = Value.int i t
 | .str x, u => ∃ t, u = Value.str x t
 | .byt b, u => ∃ t, u = Value.bytes b t
 | .flt b, u => ∃ t, u = Value.float b t
 | .ref a, u => u = Value.ref a
 | .ty n, u => u = Value.type n
abbrev Vals : List V → List Value → Prop := Paired RelV
theorem Vals.length {xs : List V} {us : List Value} (r : Vals xs us) : xs.length = us.length := Paired.length r
theorem Vals.get : ∀ {xs : List V} {us : List Value} {i : Nat} {x : V}, Vals xs us → xs[i]? = some x → ∃ u, us[i]? = some u ∧ RelV x u
 | _, _, _, _, .nil, e => by simp at e
 | _, _, 0, _, .cons r _, e => by simp at e; subst e; exact ⟨_, rfl, r⟩
 | _, _, i + 1, x, .cons _ t, e => by
  obtain ⟨u, h1, h2⟩ := Vals.get (i := i) (x := x) t (by simpa using e)
  exact ⟨u, by simpa using h1, h2⟩
theorem Vals.set {x : V} {u : Value} (r : RelV x u) : ∀ {xs : List V} {us : List Value} (i : Nat), Vals xs us → Vals (xs.set i x) (us.set i u)
 | _, _, _, .nil => .nil
 | _, _, 0, .cons _ t => .cons r t
 | _, _, i + 1, .cons q t => .cons q (Vals.set r i t)
theorem Vals.append : ∀ {xs ys : List V} {us ws : List Value}, Vals xs us → Vals ys ws → Vals (xs ++ ys) (us ++ ws)
 | _, _, _, _, .nil, s => s
 | _, _, _, _, .cons r t, s => .cons r (Vals.append t s)
theorem Vals.take : ∀ {xs : List V} {us : List Value} (n : Nat), Vals xs us → Vals (xs.take n) (us.take n)
 | _, _, 0, _ => .nil
 | _, _, _ + 1, .nil => .nil
 | _, _, n + 1, .cons r t => .cons r (Vals.take n t)
theorem Vals.drop : ∀ {xs : List V} {us : List Value} (n : Nat), Vals xs us → Vals (xs.drop n) (us.drop n)
 | _, _, 0, r => r
 | _, _, _ + 1, .nil => .nil
 | _, _, n + 1, .cons _ t => Vals.drop n t
def RelO : Option V → Option Value → Prop
 | some v, some u => RelV v u
 | none, none => True
 | _, _ => False
def KV {κ : Type} : List (κ × V) → List (κ × Value) → Prop := Paired fun (p : κ × V) (q : κ × Value) => p.1 = q.1 ∧ RelV p.2 q.2
def kV : Key → V
 | .inl i => .int i
 | .inr x => .str x
inductive HO where
 | lst (xs : List V)
 | tup (xs : List V)
 | dK (kvs : List (Key × V)) | dT (kvs : List (List Key × V))
 | set (S : Int → Bool) (n : Nat)
 | ins (C dx : Addr) (fs : List (Str × V))
 | own (x : Addr)
 | xd (fs : List (Str × V))
 | met (f x : Addr)
 | rng (lo hi : Int)
 | frz (o : Obj) (u : HO)
 | tbl (ps : Array Value)
 | ext (φ : Heap → Prop)
abbrev Hp := Addr → Option HO
def upd (H : Hp) (a : Addr) (o : HO) : Hp := fun b => if b = a then some o else H b
theorem upd_same {H : Hp} {a : Addr} {o : HO} : upd H a o a = some o := by unfold upd; rw [if_pos rfl]
theorem upd_ne {H : Hp} {a b : Addr} {o : HO} (h : b ≠ a) : upd H a o b = H b := by unfold upd; rw [if_neg h]
theorem ne_of {H : Hp} {a b : Addr} {o u : HO} (h : H a = some o) (h' : H b = some u) (d : o ≠ u) : a ≠ b := by
 intro e; subst e; rw [h] at h'; exact d (Option.some.inj h')
theorem ne_of_none {H : Hp} {a b : Addr} {o : HO} (h : H a = some o) (h' : H b = none) : a ≠ b := by
 intro e; subst e; rw [h] at h'; cases h'
section
variable (P : Program) (w : World)
def ObjOk (H : Hp) (h : Heap) (a : Addr) : HO → Prop
 | .lst xs => xs.length ≤ sizeLine ∧ ∃ (its : List Value) (n : Nat), Vals xs its ∧ h.get? a = some { cls := .type "list", data := .seq its.toArray n }
 | .tup xs => xs.length ≤ sizeLine ∧ ∃ its : List Value, Vals xs its ∧ IsTup h a its.toArray
 | .dK kvs => kvs.length ≤ sizeLine ∧ (a == sysModules) = false ∧ ∃ vs, KV kvs vs ∧ h.DictOf (mixKind P w) a vs
 | .dT kvs => kvs.length ≤ sizeLine ∧ (a == sysModules) = false ∧ ∃ xs : List (List Key × Addr × Value),
   Paired (fun (p : List Key × V) (q : List Key × Addr × Value) => p.1 = q.1 ∧ H q.2.1 = some (.tup (p.1.map kV)) ∧ RelV p.2 q.2.2) kvs xs ∧
   ∃ o es ep, h.get? a = some o ∧ o.ExactDict ∧ o.data = .dict es ep ∧ es.toList = xs.map (entryOfKey (tupleKind (mixKind P w))) ∧ (xs.map (·.1)).Nodup
 | .set S n => h.SetOf (intKind P w) a S n
 | .ins C dx fs => H dx = some (.own a) ∧ fs.length ≤ 1000 ∧ dx ≠ a ∧ h.get? a = some (PySem.W.instObj C dx) ∧
   ∃ mA, h.Ns1 dx mA ∧ (∀ f, RelO (fs.lookup f) (mA f)) ∧ PySem.Within mA (fs.map (·.1))
 | .own _ => ∃ o, h.get? a = some o
 | .xd fs => ∃ mA, h.Ns1 a mA ∧ ∀ f, RelO (fs.lookup f) (mA f)
 | .rng lo hi => ∃ t u v, h.get? a = some { cls := .type "range", data := .fields #[.int lo t, .int hi u, .int 1 v] }
 | .frz o u => h.get? a = some o ∧ ObjOk H h a u
 | .tbl ps => ∃ qs : Array Value, h.get? a = some { cls := .none, data := .fields qs } ∧ TriplesOk qs.toList ∧ ∀ (pos : Pos) (v : Value), codeAmong pos qs.toList = some v →
   ∃ (c : Addr) (o : Obj) (vs : Array Value) (q : Str) (t t' : Tok), v = .ref c ∧ H c = some (.frz o (.own a)) ∧ o.data = .fields vs ∧ vs[1]? = some (.str q t) ∧ ps[0]? = some (.str q t')
 | .met f x => h.get? a = some (PySem.W.methodObj (.ref f) (.ref x))
 | .ext φ => φ h ∧ (∃ o, h.get? a = some o) ∧ ∀ h1 h2 : Heap, φ h1 → (∀ o, h1.get? a = some o → h2.get? a = some o) → φ h2
def HOk (H : Hp) (h : Heap) : Prop := ∀ a o, H a = some o → ObjOk P w H h a o
end
section
variable {P : Program} {w : World} {H H' : Hp} {h h' : Heap} {a : Addr} {o : HO}
theorem ObjOk.lt (x : ObjOk P w H h a o) : a < h.objs.size := by
 cases o with
 | lst xs => obtain ⟨_, _, _, _, e⟩ := x; exact Heap.lt_size e
 | tup xs => obtain ⟨_, _, _, p⟩ := x; exact p.lt
 | dK kvs => obtain ⟨_, _, _, _, o, _, _, e, _⟩ := x; exact Heap.lt_size e
 | dT kvs => obtain ⟨_, _, _, _, o, _, _, e, _⟩ := x; exact Heap.lt_size e
 | set S n => obtain ⟨o, _, _, _, e, _⟩ := x; exact Heap.lt_size e
 | ins C dx fs => obtain ⟨_, _, _, e, _⟩ := x; exact Heap.lt_size e
 | own y => obtain ⟨_, e⟩ := x; exact Heap.lt_size e
 | xd fs => obtain ⟨_, ⟨_, _, _, e, _⟩, _⟩ := x; exact Heap.lt_size e
 | rng lo hi => obtain ⟨_, _, _, e⟩ := x; exact Heap.lt_size e
 | frz ob u => obtain ⟨e, _⟩ := x; exact Heap.lt_size e
 | tbl ps => obtain ⟨_, e, _⟩ := x; exact Heap.lt_size e
 | met f y => exact Heap.lt_size (show h.get? a = some _ from x)
 | ext φ => obtain ⟨_, ⟨_, e⟩, _⟩ := x; exact Heap.lt_size e
theorem Paired.mapP {α β : Type} {F G : α → β → Prop} : ∀ {l₁ : List α} {l₂ : List β}, Paired F l₁ l₂ → (∀ a b, F a b → G a b) → Paired G l₁ l₂
 | _, _, .nil, _ => .nil
 | _, _, .cons r t, f => .cons (f _ _ r) (Paired.mapP t f)
theorem ObjOk.stay (x : ObjOk P w H h a o) (k : ∀ b u, (b = a ∨ H b = some (.own a)) → h.get? b = some u → h'.get? b = some u)
  (ho : ∀ b, H b = some (.own a) → H' b = some (.own a)) (ht : ∀ b xs, H b = some (.tup xs) → H' b = some (.tup xs))
  (hf : ∀ b o, H b = some (.frz o (.own a)) → H' b = some (.frz o (.own a)) := by exact fun _ _ q => q) : ObjOk P w H' h' a o := by
 induction o with
 | lst xs => obtain ⟨z, its, n, r, e⟩ := x; exact ⟨z, its, n, r, k _ _ (.inl rfl) e⟩
 | tup xs => obtain ⟨z, its, r, ob, e, c⟩ := x; exact ⟨z, its, r, ob, k _ _ (.inl rfl) e, c⟩
 | dK kvs => obtain ⟨z, y, vs, r, ob, es, ep, e, c⟩ := x; exact ⟨z, y, vs, r, ob, es, ep, k _ _ (.inl rfl) e, c⟩
 | dT kvs =>
  obtain ⟨z, y, xs, r, ob, es, ep, e, c⟩ := x
  exact ⟨z, y, xs, Paired.mapP r fun p q z => ⟨z.1, ht _ _ z.2.1, z.2.2⟩, ob, es, ep, k _ _ (.inl rfl) e, c⟩
 | set S n => obtain ⟨ob, es, ep, t, e, c⟩ := x; exact ⟨ob, es, ep, t, k _ _ (.inl rfl) e, c⟩
 | ins C dx fs =>
  obtain ⟨d, z, ne, e, mA, ⟨od, es, ep, e2, c⟩, r⟩ := x
  exact ⟨ho _ d, z, ne, k _ _ (.inl rfl) e, mA, ⟨od, es, ep, k _ _ (.inr d) e2, c⟩, r⟩
 | own y => obtain ⟨ob, e⟩ := x; exact ⟨ob, k _ _ (.inl rfl) e⟩
 | xd fs => obtain ⟨mA, ⟨od, es, ep, e, c⟩, r⟩ := x; exact ⟨mA, ⟨od, es, ep, k _ _ (.inl rfl) e, c⟩, r⟩
 | rng lo hi => obtain ⟨t, u, v, e⟩ := x; exact ⟨t, u, v, k _ _ (.inl rfl) e⟩
 | frz ob u ih => obtain ⟨e, q⟩ := x; exact ⟨k _ _ (.inl rfl) e, ih q⟩
 | tbl ps =>
  obtain ⟨qs, e, t, f⟩ := x
  exact ⟨qs, k _ _ (.inl rfl) e, t, fun pos v z => by
   obtain ⟨c, o, vs, q, t, t', e1, e2, r⟩ := f pos v z
   exact ⟨c, o, vs, q, t, t', e1, hf _ _ e2, r⟩⟩
 | met f y =>
  have e : h.get? a = some (PySem.W.methodObj (.ref f) (.ref y)) := x
  show h'.get? a = some (PySem.W.methodObj (.ref f) (.ref y))
  exact k a _ (.inl rfl) e
 | ext φ => obtain ⟨p, ⟨o, e⟩, st⟩ := x; exact ⟨st _ _ p fun o q => k _ _ (.inl rfl) q, ⟨o, k _ _ (.inl rfl) e⟩, st⟩
theorem HOk.lt (x : HOk P w H h) (e : H a = some o) : a < h.objs.size := (x a o e).lt
theorem HOk.fresh (x : HOk P w H h) (e : h.objs.size ≤ a) : H a = none := by
 cases q : H a with
 | none => rfl
 | some u => exact absurd (Nat.lt_of_lt_of_le (x.lt q) e) (Nat.lt_irrefl _)
theorem HOk.kept (x : HOk P w H h) (k : ∀ b u, h.get? b = some u → h'.get? b = some u) : HOk P w H h' := fun a o e =>
 (x a o e).stay (fun b u _ q => k b u q) (fun _ q => q) fun _ _ q => q
theorem HOk.laid (x : HOk P w H h) (k : ∀ b u, h.get? b = some u → h'.get? b = some u) (hp : h.objs.size ≤ a) (new : ObjOk P w (upd H a o) h' a o) : HOk P w (upd H a o) h' := fun b u e => by
 have hn := x.fresh hp
 by_cases hb : b = a
 ·subst hb; rw [upd_same] at e; cases e; exact new
 ·rw [upd_ne hb] at e
  exact (x b u e).stay (fun c v _ q => k c v q) (fun c q => by rw [upd_ne (ne_of_none q hn)]; exact q) (fun c xs q => by rw [upd_ne (ne_of_none q hn)]; exact q) fun c o q => by rw [upd_ne (ne_of_none q hn)]; exact q
end
def Rd (H : Hp) (a : Addr) (u : HO) : Prop := H a = some u ∨ ∃ o, H a = some (.frz o u)
theorem Rd.ok {P : Program} {w : World} {H : Hp} {h : Heap} {a : Addr} {u : HO} (r : Rd H a u) (x : HOk P w H h) : ObjOk P w H h a u := by
 rcases r with r | ⟨o, r⟩
 ·exact x a u r
 ·obtain ⟨_, q⟩ := x a _ r
  exact q
def Mut : Option HO → Prop
 | some (.lst _) => True
 | some (.dK _) => True
 | some (.dT _) => True
 | some (.set _ _) => True
 | some (.ins _ _ _) => True
 | some (.ext _) => True
 | _ => False
section
variable {P : Program} {w : World} {H : Hp} {h h' : Heap} {x e : Addr} {o' : HO}
theorem HOk.write (ok : HOk P w H h) (mu : Mut (H x)) (he : e = x ∨ H e = some (.own x)) (k : ∀ b u, b ≠ e → h.get? b = some u → h'.get? b = some u) (heo : ∃ u, h'.get? e = some u)
  (new : ObjOk P w (upd H x o') h' x o') : HOk P w (upd H x o') h' := fun b u q => by
 have nown : ∀ c y, H c = some (.own y) → c ≠ x := fun c y r z => by subst z; rw [r] at mu; exact mu
 have ntup : ∀ c xs, H c = some (.tup xs) → c ≠ x := fun c xs r z => by subst z; rw [r] at mu; exact mu
 by_cases hb : b = x
 ·subst hb; rw [upd_same] at q; cases q; exact new
 ·rw [upd_ne hb] at q
  by_cases hbe : b = e
  ·have q' : H b = some (.own x) := by
    rcases he with z | z
    ·exact absurd (hbe.trans z) hb
    ·rw [hbe]; exact z
   rw [q] at q'; cases q'
   obtain ⟨v, hv⟩ := heo
   exact ⟨v, by rw [hbe]; exact hv⟩
  ·refine (ok b u q).stay (fun c v hc r => k c v ?_ r) (fun c r => by rw [upd_ne (nown c b r)]; exact r) (fun c xs r => by rw [upd_ne (ntup c xs r)]; exact r) fun c o r => by rw [upd_ne fun z => by subst z; rw [r] at mu; exact mu]; exact r
   rcases hc with rfl | hc
   ·exact hbe
   ·rintro rfl
    rcases he with z | z
    ·exact nown c b hc z
    ·rw [hc] at z; cases z; exact hb rfl
end
structure Un (fs ex : List Addr) (H H' : Hp) (h h' : Heap) : Prop where
 keep : ∀ b o, h.get? b = some o → H b = none → b ∉ fs → b ∉ ex → h'.get? b = some o
 slot : ∀ b o, h.get? b = some o → H b = none → b ∈ fs → b ∉ ex → ∃ sl, h'.get? b = some { o with slots := sl }
 free : ∀ b o, h.get? b = some o → H b = none → b ∉ ex → H' b = none
 there : ∀ b o, h.get? b = some o → b ∉ ex → ∃ o', h'.get? b = some o'
 tups : ∀ b xs, H b = some (.tup xs) → H' b = some (.tup xs)
 frzs : ∀ b o u, H b = some (.frz o u) → H' b = some (.frz o u)
 tbls : ∀ b ps, H b = some (.tbl ps) → ∃ more, H' b = some (.tbl (ps ++ more))
section
variable {fs fs' ex ex' : List Addr} {H H1 H2 : Hp} {h h1 h2 h' : Heap} {a x e : Addr} {o : HO}
theorem Un.any (u : Un fs ex H H1 h h1) {b : Addr} {ob : Obj} (q : h.get? b = some ob) (n : H b = none) (hx : b ∉ ex) : ∃ sl, h1.get? b = some { ob with slots := sl } := by
 by_cases hb : b ∈ fs
 ·exact u.slot b ob q n hb hx
 ·exact ⟨ob.slots, u.keep b ob q n hb hx⟩
theorem Un.kept (k : ∀ b u, h.get? b = some u → h'.get? b = some u) : Un fs ex H H h h' :=
 ⟨fun b ob q _ _ _ => k b ob q, fun b ob q _ _ _ => ⟨ob.slots, k b ob q⟩, fun _ _ _ n _ => n, fun b ob q _ => ⟨ob, k b ob q⟩, fun _ _ q => q, fun _ _ _ q => q, fun _ ps q => ⟨#[], by rw [q]; simp⟩⟩
theorem Un.refl : Un fs ex H H h h := Un.kept fun _ _ q => q
theorem Un.laid (k : ∀ b u, h.get? b = some u → h'.get? b = some u) (hp : h.objs.size ≤ a) (hn : H a = none) : Un fs ex H (upd H a o) h h' where
 keep := fun b u q _ _ _ => k b u q
 slot := fun b u q _ _ _ => ⟨u.slots, k b u q⟩
 free := fun b u q n _ => by rw [upd_ne (Nat.ne_of_lt (Nat.lt_of_lt_of_le (Heap.lt_size q) hp))]; exact n
 there := fun b u q _ => ⟨u, k b u q⟩
 tups := fun b xs q => by rw [upd_ne (ne_of_none q hn)]; exact q
 frzs := fun b u xs q => by rw [upd_ne (ne_of_none q hn)]; exact q
 tbls := fun b ps q => ⟨#[], by rw [upd_ne (ne_of_none q hn), q]; simp⟩
theorem Un.write (mu : Mut (H x)) (he : e = x ∨ H e = some (.own x)) (k : ∀ b u, b ≠ e → h.get? b = some u → h'.get? b = some u) (heo : ∃ u, h'.get? e = some u) : Un fs ex H (upd H x o) h h' := by
 have hx : ∀ b, H b = none → b ≠ x := fun b n z => by subst z; rw [n] at mu; exact mu
 have hb : ∀ b, H b = none → b ≠ e := fun b n z => by
  subst z
  rcases he with r | r
  ·exact hx b n r
  ·rw [n] at r; cases r
 have hm : ∀ b u, H b = some u → ¬ Mut (some u) → b ≠ x := fun b u q nm z => by subst z; rw [q] at mu; exact nm mu
 refine ⟨fun b u q n _ _ => k b u (hb b n) q, fun b u q n _ _ => ⟨u.slots, k b u (hb b n) q⟩, fun b u q n _ => by rw [upd_ne (hx b n)]; exact n, fun b u q _ => ?_,
  fun b xs q => by rw [upd_ne (hm b _ q fun z => z)]; exact q, fun b u xs q => by rw [upd_ne (hm b _ q fun z => z)]; exact q, fun b ps q => ⟨#[], by rw [upd_ne (hm b _ q fun z => z), q]; simp⟩⟩
 by_cases hbe : b = e
 ·subst hbe; exact heo
 ·exact ⟨u, k b u hbe q⟩
end
def trk (h : Heap) (H : Hp) : List Addr := (List.range h.objs.size).filter fun a => (H a).isSome
def hidT (h : Heap) (H : Hp) : Heap := PySem.W.hideAll h (trk h H)
theorem hidT_size (h : Heap) (H : Hp) : (hidT h H).objs.size = h.objs.size := PySem.W.hideAll_size _ _
theorem hidT_get {h : Heap} {H : Hp} {b : Addr} {o : Obj} (e : h.get? b = some o) (n : H b = none) : (hidT h H).get? b = some o :=
 PySem.W.hideAll_get _ e fun hm => by
  have q : (H b).isSome = true := (List.mem_filter.mp hm).2
  rw [n] at q; simp at q
theorem of_hidT {h : Heap} {H : Hp} {b : Addr} {o : Obj} (e : (hidT h H).get? b = some o) : h.get? b = some o ∧ H b = none := by
 have e' : h.get? b = some o := PySem.W.of_hideAll (trk h H) e
 refine ⟨e', ?_⟩
 cases q : H b with
 | none => rfl
 | some x =>
  have hm : b ∈ trk h H := List.mem_filter.mpr ⟨List.mem_range.mpr (Heap.lt_size e'), by simp [q]⟩
  have z : (hidT h H).get? b = none := PySem.W.hideAll_none (trk h H) hm
  rw [z] at e; cases e
def allNews (g h : Heap) (L : Addr) : List (Addr × Obj) := (List.range h.objs.size).filterMap fun a => if a = L ∨ (g.get? a).isSome = true then none else (h.get? a).map fun o => (a, o)
def rest (g h : Heap) (L d : Addr) : List (Addr × Obj) := (allNews g h L).filter fun p => decide (p.1 ≠ d)
end L2
namespace L2
open PySem PySem.Spec PyProof.Rows
structure Mod (K : PySem.W.Frag) (mg : Str → Option Value) (base : Heap) : Prop where
 kin : K.In base
 glob : base.Ns mainGlobals mg
 blt : ∃ mb, base.Ns builtinsNs mb ∧ ∀ x : Str, x ≠ "__name__" → mb x = bootBuiltins x
 nolimit : base.NoLimit
structure Cx where
 prog : Program
 w : World
 K : PySem.W.Frag
 mg : Str → Option Value
 base : Heap
 A : Around
 N : List Str
 s₀ : Shared
 H₀ : Hp
 env : Env
 outer : List Env
 stack : List Env
 ex : List Addr
 fn : Str → Bool
 calm : Bool
 pn : List (Addr × Obj)
 xe : Value → Shared → Prop
def frs (l : List Env) : List Addr := l.filterMap (·.frame)
abbrev Cx.fs (X : Cx) : List Addr := frs X.outer
def Vis (sc : Scope) (x : Str) : Prop := sc.names.lookup x = some .local ∨ sc.names.lookup x = some .cell ∨ sc.names.lookup x = some .free
def Loc (sc : Scope) (x : Str) : Prop := sc.names.lookup x = some .local ∨ sc.names.lookup x = some .cell
def Look (env : Env) (h : Heap) (m : Str → Option Value) (x : Str) (u : Value) : Prop :=
 (env.kindOf x = some .local ∧ m x = some u) ∨ ((env.kindOf x = some .cell ∨ env.kindOf x = some .free) ∧ ∃ c, env.cells.lookup x = some c ∧ h.IsCell c (some u))
structure Cx.Ok (X : Cx) : Prop where
 mod : Mod X.K X.mg X.base
 kind : X.env.scope.kind = .function
 glob : X.env.globals = mainGlobals
 blt : X.env.builtins = builtinsNs
 above : X.s₀.heap.objs.size ≤ X.env.locals
 inj : ∀ x y c, X.env.cells.lookup x = some c → X.env.cells.lookup y = some c → x = y
 has : ∀ x, (X.env.kindOf x = some .cell ∨ X.env.kindOf x = some .free) → ∃ c, X.env.cells.lookup x = some c
 cab : ∀ x c, X.fn x = true → X.env.cells.lookup x = some c → X.s₀.heap.objs.size ≤ c
 hd : X.calm = true → X.A.handled = none
 frames : X.A.frames = some X.stack
 stk : X.stack = X.outer ∨ (X.stack = X.env :: X.outer ∧ X.env.frame = some X.env.locals)
 exf : ∀ b ∈ X.ex, b ≠ X.env.locals ∧ ∀ x c, X.env.cells.lookup x = some c → c ≠ b
 bs : ∀ b o, X.base.get? b = some o → X.s₀.heap.get? b = some o ∧ X.H₀ b = none
 bsz : X.base.objs.size ≤ X.s₀.heap.objs.size
 noex : ∀ b o, X.base.get? b = some o → b ∉ X.ex
 exfs : ∀ b ∈ X.ex, b ∉ X.fs
 funs : X.s₀.heap.FunFrames X.base X.outer
 frf : ∀ b ∈ X.fs, X.H₀ b = none
structure Inv (X : Cx) (pins : List (Addr × Obj)) (σ : List (Option V)) (H : Hp) (s : Shared) : Prop where
 ok : X.Ok
 os : s.os = X.s₀.os
 bare : AllBare s.gens
 base : Un X.fs X.ex X.H₀ H X.s₀.heap s.heap
 loc : ∃ m, s.heap.Ns X.env.locals m ∧ ∀ (i : Nat) (x : Str) (v : V), X.N[i]? = some x → σ[i]? = some (some v) → Vis X.env.scope x → ∃ u, RelV v u ∧ Look X.env s.heap m x u
 cell : ∀ x c, X.env.cells.lookup x = some c → ∃ v, s.heap.IsCell c v
 free : H X.env.locals = none
 freeC : ∀ x c, X.env.cells.lookup x = some c → H c = none
 pin : ∀ p ∈ X.pn ++ pins, s.heap.get? p.1 = some p.2 ∧ H p.1 = none ∧ p.1 ≠ X.env.locals ∧ p.1 ∉ X.fs ∧ ∀ v, p.2.data ≠ .cell v
 hok : HOk X.prog X.w H s.heap
 len : σ.length = X.N.length
section
variable {X : Cx} {pins : List (Addr × Obj)} {σ : List (Option V)} {H H' : Hp} {s : Shared} {h' : Heap}
theorem Cx.Ok.nofr (ok : X.Ok) {b : Addr} {o : Obj} (e : X.base.get? b = some o) : b ∉ X.fs := fun hb => by
 have := (ok.funs.mem hb).1
 rw [e] at this; cases this
theorem Inv.bs (I : Inv X pins σ H s) : ∀ b o, X.base.get? b = some o → s.heap.get? b = some o ∧ H b = none := fun b o e =>
 ⟨I.base.keep b o (I.ok.bs b o e).1 (I.ok.bs b o e).2 (I.ok.nofr e) (I.ok.noex b o e), I.base.free b o (I.ok.bs b o e).1 (I.ok.bs b o e).2 (I.ok.noex b o e)⟩
theorem Inv.bk (I : Inv X pins σ H s) : ∀ b o, X.base.get? b = some o → s.heap.get? b = some o := fun b o e => (I.bs b o e).1
theorem Inv.mod (I : Inv X pins σ H s) : Mod X.K X.mg X.base := I.ok.mod
theorem Inv.kIn (I : Inv X pins σ H s) : X.K.In s.heap := I.ok.mod.kin.keeps I.bk
theorem Inv.nolimit (I : Inv X pins σ H s) : s.heap.NoLimit := I.ok.mod.nolimit.keeps I.bk
theorem Inv.fr (I : Inv X pins σ H s) : ∃ m, Fr X.base X.env.locals s.heap m :=
 let ⟨m, hn, _⟩ := I.loc
 ⟨m, hn, I.bk, Nat.le_trans I.ok.bsz I.ok.above⟩
theorem Inv.lt (I : Inv X pins σ H s) : X.env.locals < s.heap.objs.size := let ⟨_, hn, _⟩ := I.loc; hn.lt
theorem Inv.sz (I : Inv X pins σ H s) : X.s₀.heap.objs.size ≤ s.heap.objs.size := Nat.le_trans I.ok.above (Nat.le_of_lt I.lt)
theorem Inv.nofs (I : Inv X pins σ H s) {a : Addr} (h : s.heap.objs.size ≤ a) : a ∉ X.fs := fun hb => by
 obtain ⟨_, o, ho, _⟩ := I.ok.funs.mem hb
 exact absurd (Nat.lt_of_lt_of_le (Heap.lt_size ho) (Nat.le_trans I.sz h)) (Nat.lt_irrefl _)
theorem Inv.cne (I : Inv X pins σ H s) : ∀ x c, X.env.cells.lookup x = some c → c ≠ X.env.locals := fun x c e z => by
 obtain ⟨v, o, ho, hd⟩ := I.cell x c e
 obtain ⟨m, ⟨o', es, ep, ho', hd', _⟩, _⟩ := I.loc
 rw [z, ho'] at ho; cases ho; rw [hd'] at hd; cases hd
theorem Inv.funs (I : Inv X pins σ H s) : s.heap.FunFrames X.base X.outer := by
 have all : ∀ (l : List Env), (∀ b ∈ frs l, b ∈ X.fs) → X.s₀.heap.FunFrames X.base l → s.heap.FunFrames X.base l := by
  intro l
  induction l with
  | nil => intro _ _; trivial
  | cons env r ih =>
   intro hs hl
   obtain ⟨hk, ⟨L, o, hf, hn, ho, hd⟩, hr⟩ := hl
   have hL : L ∈ X.fs := hs L (by unfold frs; rw [List.filterMap_cons, hf]; exact List.mem_cons_self)
   obtain ⟨sl, e⟩ := I.base.slot L o ho (I.ok.frf L hL) hL fun z => I.ok.exfs L z hL
   exact ⟨hk, ⟨L, _, hf, hn, e, hd⟩, ih (fun b hb => hs b (by unfold frs; rw [List.filterMap_cons, hf]; exact List.mem_cons_of_mem _ hb)) hr⟩
 exact all X.outer (fun _ hb => hb) I.ok.funs
theorem Inv.stack (I : Inv X pins σ H s) : s.heap.FunFrames X.base X.stack := by
 rcases I.ok.stk with e | ⟨e, hf⟩
 ·rw [e]; exact I.funs
 ·rw [e]
  obtain ⟨m, hn, _⟩ := I.loc
  refine .cons (by rw [I.ok.kind]; decide) hf hn ?_ I.funs
  exact Heap.get?_none_of_le (Nat.le_trans I.ok.bsz I.ok.above)
theorem Inv.stkSub (I : Inv X pins σ H s) : ∀ b ∈ frs X.stack, b ∈ X.env.locals :: X.fs := fun b hb => by
 rcases I.ok.stk with e | ⟨e, hf⟩
 ·rw [e] at hb; exact List.mem_cons_of_mem _ hb
 ·rw [e] at hb
  unfold frs at hb
  rw [List.filterMap_cons, hf] at hb
  exact hb
theorem Inv.stkFree (I : Inv X pins σ H s) : ∀ b ∈ frs X.stack, H b = none := fun b hb => by
 rcases List.mem_cons.mp (I.stkSub b hb) with e | hb
 ·rw [e]; exact I.free
 ·obtain ⟨_, o, ho, _⟩ := I.ok.funs.mem hb
  exact I.base.free b o ho (I.ok.frf b hb) fun z => I.ok.exfs b z hb
theorem Inv.step {g' : Array GenState} {t' : Nat} {d' : Drawn} {ch : List Addr} (I : Inv X pins σ H s)
  (hch : ∀ b ∈ ch, (b ∈ X.ex ∨ X.s₀.heap.objs.size ≤ b) ∧ b ≠ X.env.locals ∧ (∀ x c, X.env.cells.lookup x = some c → c ≠ b) ∧ ∀ p ∈ X.pn ++ pins, p.1 ≠ b)
  (keep : ∀ b o, b ≠ X.env.locals → b ∉ X.fs → b ∉ ch → s.heap.get? b = some o → H b = none → h'.get? b = some o)
  (slot : ∀ b o, b ≠ X.env.locals → b ∈ X.fs → b ∉ ch → s.heap.get? b = some o → H b = none → ∃ sl, h'.get? b = some { o with slots := sl }) (free : ∀ b o, b ∉ ch → s.heap.get? b = some o → H b = none → H' b = none)
  (there : ∀ b o, b ∉ ch → s.heap.get? b = some o → ∃ o', h'.get? b = some o')
  (tups : ∀ b xs, H b = some (.tup xs) → H' b = some (.tup xs)) (frzs : ∀ b o u, H b = some (.frz o u) → H' b = some (.frz o u)) (tbls : ∀ b ps, H b = some (.tbl ps) → ∃ more, H' b = some (.tbl (ps ++ more)))
  (ns : ∀ m, s.heap.Ns X.env.locals m → h'.Ns X.env.locals m) (hok : HOk X.prog X.w H' h') (hg : AllBare g') :
  Inv X pins σ H' { s with heap := h', gens := g', drawn := d', toks := t' } := by
 have neL : ∀ b o, X.s₀.heap.get? b = some o → b ≠ X.env.locals := fun b o e => Nat.ne_of_lt (Nat.lt_of_lt_of_le (Heap.lt_size e) I.ok.above)
 have neC : ∀ b o, X.s₀.heap.get? b = some o → b ∉ X.ex → b ∉ ch := fun b o e hx hb => by
  rcases (hch b hb).1 with z | z
  ·exact hx z
  ·exact absurd (Nat.lt_of_lt_of_le (Heap.lt_size e) z) (Nat.lt_irrefl _)
 have cellK : ∀ x c, X.env.cells.lookup x = some c → ∀ v, s.heap.IsCell c v → h'.IsCell c v := fun x c e v ⟨o, ho, hd⟩ => by
  have nch : c ∉ ch := fun z => (hch c z).2.2.1 x c e rfl
  by_cases hc : c ∈ X.fs
  ·obtain ⟨sl, q⟩ := slot c o (I.cne x c e) hc nch ho (I.freeC x c e)
   exact ⟨_, q, hd⟩
  ·exact ⟨o, keep c o (I.cne x c e) hc nch ho (I.freeC x c e), hd⟩
 refine ⟨I.ok, I.os, hg, ⟨fun b o e n hb hx => ?_, fun b o e n hb hx => ?_, fun b o e n hx => ?_, fun b o e hx => ?_, fun b xs e => tups b xs (I.base.tups b xs e), fun b o xs e => frzs b o xs (I.base.frzs b o xs e), fun b ps e => ?_⟩, ?_, fun x c e => ?_, ?_, fun x c e => ?_, fun p hp => ?_, hok, I.len⟩
 ·exact keep b o (neL b o e) hb (neC b o e hx) (I.base.keep b o e n hb hx) (I.base.free b o e n hx)
 ·obtain ⟨sl, e1⟩ := I.base.slot b o e n hb hx
  obtain ⟨sl', e2⟩ := slot b _ (neL b o e) hb (neC b o e hx) e1 (I.base.free b o e n hx)
  exact ⟨sl', e2⟩
 ·obtain ⟨o', e1⟩ := I.base.there b o e hx
  exact free b o' (neC b o e hx) e1 (I.base.free b o e n hx)
 ·obtain ⟨o', e1⟩ := I.base.there b o e hx
  exact there b o' (neC b o e hx) e1
 ·obtain ⟨m1, e1⟩ := I.base.tbls b ps e
  obtain ⟨m2, e2⟩ := tbls b _ e1
  exact ⟨m1 ++ m2, by rw [e2, Array.append_assoc]⟩
 ·obtain ⟨m, hn, hl⟩ := I.loc
  refine ⟨m, ns m hn, fun i x v e1 e2 e3 => ?_⟩
  obtain ⟨u, r, l⟩ := hl i x v e1 e2 e3
  refine ⟨u, r, ?_⟩
  rcases l with l | ⟨k, c, e, z⟩
  ·exact .inl l
  ·exact .inr ⟨k, c, e, cellK x c e _ z⟩
 ·obtain ⟨v, z⟩ := I.cell x c e
  exact ⟨v, cellK x c e v z⟩
 ·obtain ⟨m, ⟨o, _, _, ho, _⟩, _⟩ := I.loc
  exact free _ o (fun z => (hch _ z).2.1 rfl) ho I.free
 ·obtain ⟨v, o, ho, hd⟩ := I.cell x c e
  exact free c o (fun z => (hch c z).2.2.1 x c e rfl) ho (I.freeC x c e)
 ·obtain ⟨e, n, ne, nf, d⟩ := I.pin p hp
  have nch : p.1 ∉ ch := fun z => (hch p.1 z).2.2.2 p hp rfl
  exact ⟨keep p.1 p.2 ne nf nch e n, free p.1 p.2 nch e n, ne, nf, d⟩
theorem Inv.un {t' : Nat} (I : Inv X pins σ H s) (u : Un X.fs [] H H' s.heap h') (hok : HOk X.prog X.w H' h') : Inv X pins σ H' { s with heap := h', toks := t' } := by
 obtain ⟨m, ⟨o, es, ep, ho, r⟩, _⟩ := id I.loc
 obtain ⟨sl, hL⟩ := u.any ho I.free (by simp)
 exact I.step (g' := s.gens) (d' := s.drawn) (ch := []) (fun _ z => nomatch z) (fun b o _ hb _ e n => u.keep b o e n hb (by simp)) (fun b o _ hb _ e n => u.slot b o e n hb (by simp)) (fun b o _ e n => u.free b o e n (by simp)) (fun b o _ e => u.there b o e (by simp)) u.tups u.frzs u.tbls (fun m' hm => by
  obtain ⟨o', es', ep', ho', r'⟩ := hm
  rw [ho] at ho'; cases ho'
  exact ⟨_, es', ep', hL, r'⟩) hok I.bare
theorem Inv.call {g' : Array GenState} {t' : Nat} {d' : Drawn} {ch : List Addr} (I : Inv X pins σ H s) (u : Un (frs X.stack) ch H H' s.heap h') (hok : HOk X.prog X.w H' h') (hg : AllBare g')
  (hch : ∀ b ∈ ch, (b ∈ X.ex ∨ X.s₀.heap.objs.size ≤ b) ∧ b ≠ X.env.locals ∧ (∀ x c, X.env.cells.lookup x = some c → c ≠ b) ∧ ∀ p ∈ X.pn ++ pins, p.1 ≠ b) :
  Inv X pins σ H' { s with heap := h', gens := g', drawn := d', toks := t' } := by
 obtain ⟨m, ⟨o, es, ep, ho, r⟩, _⟩ := id I.loc
 obtain ⟨sl, hL⟩ := u.any ho I.free fun z => (hch _ z).2.1 rfl
 exact I.step (ch := ch) hch (fun b o hL hb hc e n => u.keep b o e n (fun z => (List.mem_cons.mp (I.stkSub b z)).elim hL hb) hc) (fun b o _ _ hc e n => u.any e n hc) (fun b o hc e n => u.free b o e n hc) (fun b o hc e => u.there b o e hc) u.tups u.frzs u.tbls (fun m' hm => by
  obtain ⟨o', es', ep', ho', r'⟩ := hm
  rw [ho] at ho'; cases ho'
  exact ⟨_, es', ep', hL, r'⟩) hok hg
theorem Inv.turned {t' : Nat} {it : Addr} (I : Inv X pins σ H s) (k : ∀ b o, b ≠ it → s.heap.get? b = some o → h'.get? b = some o) (hn : H it = none) (hL : it ≠ X.env.locals)
  (h1 : it ∈ X.ex ∨ X.s₀.heap.objs.size ≤ it) (h2 : ∀ x c, X.env.cells.lookup x = some c → c ≠ it) (h3 : ∀ p ∈ X.pn ++ pins, p.1 ≠ it) : Inv X pins σ H { s with heap := h', toks := t' } := by
 have nit : ∀ b u, H b = some u → b ≠ it := fun b u e z => by rw [z, hn] at e; cases e
 refine I.step (g' := s.gens) (d' := s.drawn) (ch := [it]) (fun b hb => ?_) (fun b o _ _ hc e _ => k b o (fun z => hc (by simp [z])) e) (fun b o _ _ hc e _ => ⟨o.slots, k b o (fun z => hc (by simp [z])) e⟩) (fun _ _ _ _ n => n)
  (fun b o hc e => ⟨o, k b o (fun z => hc (by simp [z])) e⟩) (fun _ _ e => e) (fun _ _ _ e => e) (fun b ps e => ⟨#[], by rw [e]; simp⟩) (fun m hm => ?_) (fun b u e => ?_) I.bare
 ·have e : b = it := by simpa using hb
  subst e
  exact ⟨h1, hL, h2, h3⟩
 ·obtain ⟨o, es, ep, ho, r⟩ := hm
  exact ⟨o, es, ep, k _ o (Ne.symm hL) ho, r⟩
 ·refine (I.hok b u e).stay (fun c v hc q => k c v ?_ q) (fun _ q => q) fun _ _ q => q
  rcases hc with z | z
  ·rw [z]; exact nit b u e
  ·exact nit c _ z
theorem Inv.tok (I : Inv X pins σ H s) (t : Nat) : Inv X pins σ H { s with toks := t } := I.un (h' := s.heap) (t' := t) Un.refl I.hok
theorem Inv.kept {t' : Nat} (I : Inv X pins σ H s) (k : ∀ b u, s.heap.get? b = some u → h'.get? b = some u) : Inv X pins σ H { s with heap := h', toks := t' } := I.un (Un.kept k) (I.hok.kept k)
theorem Inv.laid {a : Addr} {o : HO} {t' : Nat} (I : Inv X pins σ H s) (k : ∀ b u, s.heap.get? b = some u → h'.get? b = some u) (hp : s.heap.objs.size ≤ a) (new : ObjOk X.prog X.w (upd H a o) h' a o) :
  Inv X pins σ (upd H a o) { s with heap := h', toks := t' } := I.un (Un.laid k hp (I.hok.fresh hp)) (I.hok.laid k hp new)
theorem Inv.write {x e : Addr} {o : HO} {t' : Nat} (I : Inv X pins σ H s) (mu : Mut (H x)) (he : e = x ∨ H e = some (.own x)) (k : ∀ b u, b ≠ e → s.heap.get? b = some u → h'.get? b = some u) (heo : ∃ u, h'.get? e = some u)
  (new : ObjOk X.prog X.w (upd H x o) h' x o) : Inv X pins σ (upd H x o) { s with heap := h', toks := t' } := I.un (Un.write mu he k heo) (I.hok.write mu he k heo new)
theorem Inv.pins_of {pins' : List (Addr × Obj)} (I : Inv X pins σ H s) (h : ∀ p ∈ pins', s.heap.get? p.1 = some p.2 ∧ H p.1 = none ∧ p.1 ≠ X.env.locals ∧ p.1 ∉ X.fs ∧ ∀ v, p.2.data ≠ .cell v) : Inv X pins' σ H s :=
 ⟨I.ok, I.os, I.bare, I.base, I.loc, I.cell, I.free, I.freeC, fun p hp => (List.mem_append.mp hp).elim (fun z => I.pin p (List.mem_append_left _ z)) (h p), I.hok, I.len⟩
theorem nodup_ix {N : List Str} (hN : N.Nodup) {i j : Nat} {x : Str} (a : N[i]? = some x) (b : N[j]? = some x) : i = j := by
 obtain ⟨h1, e1⟩ := List.getElem?_eq_some_iff.mp a
 obtain ⟨h2, e2⟩ := List.getElem?_eq_some_iff.mp b
 exact (List.getElem_inj hN).mp (e1.trans e2.symm)
theorem store_ok2 {M : Model} {A : Around} {E : Value → Shared → Prop} {i : Nat} {x : Str} {v : V} {u : Value} {Q : Unit → Shared → Prop} (I : Inv X pins σ H s) (hN : X.N.Nodup) (hi : X.N[i]? = some x) (hx : Loc X.env.scope x) (r : RelV v u)
  (h : ∀ s', Inv X pins (σ.set i (some v)) H s' → (∃ a, Heap.SameBut a s.heap s'.heap ∧ (a = X.env.locals ∨ X.env.cells.lookup x = some a)) → Q () s') (hf : X.fn x = true ∨ X.env.scope.names.lookup x = some .local := by first | exact .inl rfl | exact .inr rfl | assumption) : wpAny M A (storeName X.env x u) Q E s := by
 obtain ⟨m, hn, hl⟩ := id I.loc
 have hcls : (X.env.scope.kind == .class || (X.env.scope.kind == .module && X.env.locals != X.env.globals)) = false := by rw [I.ok.kind]; rfl
 have hiσ : i < σ.length := by rw [I.len]; exact (List.getElem?_eq_some_iff.mp hi).1
 have cne := I.cne
 have tracked : ∀ {a : Addr} {h' : Heap}, (∃ o, s.heap.get? a = some o ∧ H a = none) → Heap.SameBut a s.heap h' → HOk X.prog X.w H h' := fun {a h'} ha hs b ob e => by
  obtain ⟨_, _, hfree⟩ := ha
  refine (I.hok b ob e).stay (fun c w' hc q => (hs.2 c ?_).trans q) (fun _ q => q) fun _ _ q => q
  rintro rfl
  rcases hc with rfl | hc
  ·rw [hfree] at e; cases e
  ·rw [hfree] at hc; cases hc
 rcases hx with hk | hk
 ·refine wpAny_storeName_local hk hn (fun h' hn' hs => ?_) hcls
  obtain ⟨oL, _, _, hoL, _⟩ := id hn
  refine h _ ⟨I.ok, I.os, I.bare, ⟨fun b o e n hb hx => ?_, fun b o e n hb hx => ?_, I.base.free, fun b o e hx => ?_, I.base.tups, I.base.frzs, I.base.tbls⟩, ⟨_, hn', fun j y v' e1 e2 e3 => ?_⟩, fun y c e => ?_, I.free, I.freeC, fun p hp => ?_, tracked ⟨oL, hoL, I.free⟩ hs, by simpa using I.len⟩ ⟨_, hs, .inl rfl⟩
  ·exact (hs.2 b (Nat.ne_of_lt (Nat.lt_of_lt_of_le (Heap.lt_size e) I.ok.above))).trans (I.base.keep b o e n hb hx)
  ·obtain ⟨sl, e1⟩ := I.base.slot b o e n hb hx
   exact ⟨sl, (hs.2 b (Nat.ne_of_lt (Nat.lt_of_lt_of_le (Heap.lt_size e) I.ok.above))).trans e1⟩
  ·obtain ⟨o', e1⟩ := I.base.there b o e hx
   exact ⟨o', (hs.2 b (Nat.ne_of_lt (Nat.lt_of_lt_of_le (Heap.lt_size e) I.ok.above))).trans e1⟩
  ·by_cases hj : j = i
   ·subst hj
    rw [hi] at e1; cases e1
    rw [List.getElem?_set_self hiσ] at e2
    cases e2
    exact ⟨u, r, .inl ⟨hk, by simp⟩⟩
   ·rw [List.getElem?_set_ne (Ne.symm hj)] at e2
    obtain ⟨u', r', q⟩ := hl j y v' e1 e2 e3
    refine ⟨u', r', ?_⟩
    rcases q with ⟨k, e⟩ | ⟨k, c, e, z⟩
    ·refine .inl ⟨k, ?_⟩
     have : y ≠ x := fun e => hj (nodup_ix hN e1 (e ▸ hi))
     simp [this, e]
    ·exact .inr ⟨k, c, e, z.sameBut hs (cne y c e)⟩
  ·obtain ⟨w', z⟩ := I.cell y c e
   exact ⟨w', z.sameBut hs (cne y c e)⟩
  ·obtain ⟨e, n, ne, nf, d⟩ := I.pin p hp
   exact ⟨(hs.2 p.1 ne).trans e, n, ne, nf, d⟩
 ·have hfn : X.fn x = true := by
   rcases hf with z | z
   ·exact z
   ·rw [z] at hk; cases hk
  obtain ⟨c, hc⟩ := I.ok.has x (.inl hk)
  obtain ⟨w', z⟩ := I.cell x c hc
  refine wpAny_storeName_cell I.ok.kind hk hc z (fun h' hc' hs => ?_)
  obtain ⟨oc, hoc, hocd⟩ := id z
  refine h { s with heap := h' } ⟨I.ok, I.os, I.bare, ⟨fun b o e n hb hx => ?_, fun b o e n hb hx => ?_, I.base.free, fun b o e hx => ?_, I.base.tups, I.base.frzs, I.base.tbls⟩, ⟨m, hn.sameBut hs (Ne.symm (cne x c hc)), fun j y v' e1 e2 e3 => ?_⟩, fun y c' e => ?_, I.free, I.freeC, fun p hp => ?_, tracked ⟨oc, hoc, I.freeC x c hc⟩ hs, by simpa using I.len⟩ ⟨c, hs, .inr hc⟩
  ·exact (hs.2 b (Nat.ne_of_lt (Nat.lt_of_lt_of_le (Heap.lt_size e) (I.ok.cab x c hfn hc)))).trans (I.base.keep b o e n hb hx)
  ·obtain ⟨sl, e1⟩ := I.base.slot b o e n hb hx
   exact ⟨sl, (hs.2 b (Nat.ne_of_lt (Nat.lt_of_lt_of_le (Heap.lt_size e) (I.ok.cab x c hfn hc)))).trans e1⟩
  ·obtain ⟨o', e1⟩ := I.base.there b o e hx
   exact ⟨o', (hs.2 b (Nat.ne_of_lt (Nat.lt_of_lt_of_le (Heap.lt_size e) (I.ok.cab x c hfn hc)))).trans e1⟩
  ·by_cases hj : j = i
   ·subst hj
    rw [hi] at e1; cases e1
    rw [List.getElem?_set_self hiσ] at e2
    cases e2
    exact ⟨u, r, .inr ⟨.inl hk, c, hc, hc'⟩⟩
   ·rw [List.getElem?_set_ne (Ne.symm hj)] at e2
    obtain ⟨u', r', q⟩ := hl j y v' e1 e2 e3
    refine ⟨u', r', ?_⟩
    rcases q with q | ⟨k, c', e, z'⟩
    ·exact .inl q
    ·refine .inr ⟨k, c', e, z'.sameBut hs ?_⟩
     rintro rfl
     exact hj (nodup_ix hN e1 (I.ok.inj _ _ _ e hc ▸ hi))
  ·by_cases hcc : c' = c
   ·subst hcc; exact ⟨_, hc'⟩
   ·obtain ⟨w2, z2⟩ := I.cell y c' e
    exact ⟨w2, z2.sameBut hs hcc⟩
  ·obtain ⟨e, n, ne, nf, d⟩ := I.pin p hp
   refine ⟨(hs.2 p.1 ?_).trans e, n, ne, nf, d⟩
   intro q
   rw [q, hoc] at e
   have q' : oc = p.2 := Option.some.inj e
   exact d w' (by rw [← q']; exact hocd)
theorem store_ok {M : Model} {A : Around} {E : Value → Shared → Prop} {i : Nat} {x : Str} {v : V} {u : Value} {Q : Unit → Shared → Prop} (I : Inv X pins σ H s) (hN : X.N.Nodup) (hi : X.N[i]? = some x) (hx : Loc X.env.scope x) (r : RelV v u)
  (h : ∀ s', Inv X pins (σ.set i (some v)) H s' → Q () s') (hf : X.fn x = true ∨ X.env.scope.names.lookup x = some .local := by first | exact .inl rfl | exact .inr rfl | assumption) : wpAny M A (storeName X.env x u) Q E s :=
 store_ok2 I hN hi hx r (fun s' I' _ => h s' I') hf
theorem Inv.call' {s' : Shared} {ch : List Addr} (I : Inv X pins σ H s) (ho : s'.os = s.os) (u : Un (frs X.stack) ch H H' s.heap s'.heap) (hok : HOk X.prog X.w H' s'.heap) (hg : AllBare s'.gens)
  (hch : ∀ b ∈ ch, (b ∈ X.ex ∨ X.s₀.heap.objs.size ≤ b) ∧ b ≠ X.env.locals ∧ (∀ x c, X.env.cells.lookup x = some c → c ≠ b) ∧ ∀ p ∈ X.pn ++ pins, p.1 ≠ b) : Inv X pins σ H' s' := by
 obtain ⟨h', g', d', t', o'⟩ := s'
 have e : o' = s.os := ho
 subst e
 exact I.call (g' := g') (t' := t') (d' := d') u hok hg hch
end
abbrev XK := Value → Option Addr → Hp → Prop
abbrev St := List (Option V)
abbrev VK := V → Hp → Prop
abbrev TE := St → Hp → VK → Prop
abbrev TT := St → Hp → (Bool → Hp → Prop) → Prop
abbrev TA := St → Hp → (List V → Hp → Prop) → Prop
structure Ends where
 nx : St → Hp → Prop
 rt : VK
 bk : St → Hp → Prop := fun _ _ => False
 ct : St → Hp → Prop := fun _ _ => False
abbrev TS := Ends → St → Hp → Prop
def EP (X : Cx) (pins : List (Addr × Obj)) (σ : St) (Q : VK) (u : Value) (s' : Shared) : Prop := ∃ v H', Inv X pins σ H' s' ∧ RelV v u ∧ Q v H'
def TP (X : Cx) (pins : List (Addr × Obj)) (σ : St) (Q : Bool → Hp → Prop) (b : Bool) (s' : Shared) : Prop := ∃ H', Inv X pins σ H' s' ∧ Q b H'
def AP (X : Cx) (pins : List (Addr × Obj)) (σ : St) (Q : List V → Hp → Prop) (us : List Value) (s' : Shared) : Prop := ∃ vs H', Inv X pins σ H' s' ∧ Vals vs us ∧ Q vs H'
def SP (X : Cx) (pins : List (Addr × Obj)) (D : Ends) (f : Flow) (s' : Shared) : Prop :=
 match f with
 | .next => ∃ σ' H', Inv X pins σ' H' s' ∧ D.nx σ' H'
 | .brk => ∃ σ' H', Inv X pins σ' H' s' ∧ D.bk σ' H'
 | .cont => ∃ σ' H', Inv X pins σ' H' s' ∧ D.ct σ' H'
 | .ret u => ∃ v σ' H', Inv X pins σ' H' s' ∧ RelV v u ∧ D.rt v H'
def PE (X : Cx) (e : Expr) (t : TE) : Prop :=
 ∀ (pins : List (Addr × Obj)) (s : Shared) (σ : St) (H : Hp) (Q : VK), Inv X pins σ H s → t σ H Q → wpAny (model X.prog X.w) X.A (eval e X.env) (EP X pins σ Q) X.xe s
def PT (X : Cx) (e : Expr) (t : TT) : Prop :=
 ∀ (pins : List (Addr × Obj)) (s : Shared) (σ : St) (H : Hp) (Q : Bool → Hp → Prop), Inv X pins σ H s → t σ H Q → wpAny (model X.prog X.w) X.A (isTrue e X.env (eval e X.env)) (TP X pins σ Q) X.xe s
def PW (X : Cx) (e : Expr) (t : TT) : Prop :=
 ∀ (whole : Sem Value) (pins : List (Addr × Obj)) (s : Shared) (σ : St) (H : Hp) (Q : Bool → Hp → Prop), Inv X pins σ H s → t σ H Q → wpAny (model X.prog X.w) X.A (isTrue e X.env whole) (TP X pins σ Q) X.xe s
theorem PW.pt {X : Cx} {e : Expr} {t : TT} (h : PW X e t) : PT X e t := h _
def PA (X : Cx) (es : List Expr) (t : TA) : Prop :=
 ∀ (pos : Pos) (pins : List (Addr × Obj)) (s : Shared) (σ : St) (H : Hp) (Q : List V → Hp → Prop), Inv X pins σ H s → t σ H Q → wpAny (model X.prog X.w) X.A (spliced (backTo pos (starEach es X.env))) (AP X pins σ Q) X.xe s
def PS (X : Cx) (st : Stmt) (t : TS) : Prop :=
 ∀ (pins : List (Addr × Obj)) (s : Shared) (σ : St) (H : Hp) (D : Ends), Inv X pins σ H s → t D σ H → wpAny (model X.prog X.w) X.A (exec st X.env) (SP X pins D) X.xe s
def PSs (X : Cx) (st : List Stmt) (t : TS) : Prop :=
 ∀ (pins : List (Addr × Obj)) (s : Shared) (σ : St) (H : Hp) (D : Ends), Inv X pins σ H s → t D σ H → wpAny (model X.prog X.w) X.A (execs st X.env) (SP X pins D) X.xe s
theorem thn {α : Type} {t : Sem α} {Q Q' : α → Shared → Prop} {M : Model} {A : Around} {E : Value → Shared → Prop} {s : Shared} (h : wpAny M A t Q E s) (hQ : ∀ a s, Q a s → Q' a s) : wpAny M A t Q' E s := wpAny_mono h hQ fun _ _ x => x
end L2
namespace L2
open PySem PySem.Spec PyProof.Rows
section
variable {X : Cx}
def tVar (i : Nat) : TE := fun σ H Q => ∃ v, σ[i]? = some (some v) ∧ Q v H
def tC (v : V) : TE := fun _ H Q => Q v H
theorem pe_var {i : Nat} {x : Str} {pos : Pos} (hN : X.N[i]? = some x) (hv : Vis X.env.scope x) (hd : (x == ("__debug__" : Str)) = false := by decide) (hcd : (x == ("__classdict__" : Str)) = false := by decide) : PE X (.Name x pos) (tVar i) := by
 intro pins s σ H Q I h
 obtain ⟨v, e, h⟩ := h
 obtain ⟨m, hn, hl⟩ := I.loc
 obtain ⟨u, r, l⟩ := hl i x v hN e hv
 have fin : EP X pins σ Q u s := ⟨v, H, I, r, h⟩
 rcases l with ⟨hk, hm⟩ | ⟨hk, c, hc, hcell⟩
 ·exact wpAny_Name (wpAny_loadName_local I.ok.kind hk hn hm fin) hd
 ·rcases hk with hk | hk
  ·exact wpAny_Name (wpAny_loadName_cell I.ok.kind hk hc hcell fin) hd
  ·exact wpAny_Name (wpAny_loadName_free I.ok.kind hk hc hcell fin hcd) hd
theorem pe_int {i j pos} : PE X (.Constant (.int i) j pos) (tC (.int i)) := fun _ _ _ H _ I h => wpAny_Constant_int ⟨.int i, H, I.tok _, ⟨_, rfl⟩, h⟩
theorem pe_bl {b j pos} : PE X (.Constant (.bool b) j pos) (tC (.bl b)) := fun _ _ _ H _ I h => Constant_bool ⟨.bl b, H, I, rfl, h⟩
theorem pe_non {j pos} : PE X (.Constant .none j pos) (tC .non) := fun _ _ _ H _ I h => Constant_none ⟨.non, H, I, rfl, h⟩
theorem pe_str {x j pos} : PE X (.Constant (.str x) j pos) (tC (.str x)) := fun _ _ _ H _ I h => Calls.Constant_str ⟨.str x, H, I.tok _, ⟨_, rfl⟩, h⟩
def Gl (X : Cx) (x : Str) : Prop := X.env.kindOf x = some .globalImplicit
theorem ld_glob {E : Value → Shared → Prop} {pins : List (Addr × Obj)} {s : Shared} {σ : St} {H : Hp} {x : Str} {u : Value} {pos : Pos} {Q : Value → Shared → Prop} (I : Inv X pins σ H s) (hg : Gl X x) (hm : X.mg x = some u) (h : Q u s)
  (hd : (x == ("__debug__" : Str)) = false := by decide) : wpAny (model X.prog X.w) X.A (eval (.Name x pos) X.env) Q E s :=
 Calls.Name_function_global I.ok.kind hg (Calls.loadGlobal_global (by rw [I.ok.glob]; exact I.mod.glob.keeps I.bk) hm h) hd
theorem ld_blt {E : Value → Shared → Prop} {pins : List (Addr × Obj)} {s : Shared} {σ : St} {H : Hp} {x : Str} {u : Value} {pos : Pos} {Q : Value → Shared → Prop} (I : Inv X pins σ H s) (hg : Gl X x) (hm : X.mg x = none) (hv : bootBuiltins x = some u) (h : Q u s)
  (hn : x ≠ "__name__" := by decide) (hd : (x == ("__debug__" : Str)) = false := by decide) : wpAny (model X.prog X.w) X.A (eval (.Name x pos) X.env) Q E s := by
 obtain ⟨mb, h1, h2⟩ := I.mod.blt
 exact Calls.Name_function_global I.ok.kind hg (Calls.loadGlobal_builtin (by rw [I.ok.glob]; exact I.mod.glob.keeps I.bk) hm (by rw [I.ok.blt]; exact h1.keeps I.bk) ((h2 x hn).trans hv) h) hd
theorem pe_glob {x : Str} {v : V} {u : Value} {pos : Pos} (hg : Gl X x) (hm : X.mg x = some u) (r : RelV v u) (hd : (x == ("__debug__" : Str)) = false := by decide) : PE X (.Name x pos) (tC v) :=
 fun _ _ _ H _ I h => ld_glob I hg hm ⟨v, H, I, r, h⟩ hd
theorem pe_bltn {x : Str} {v : V} {u : Value} {pos : Pos} (hg : Gl X x) (hm : X.mg x = none) (hv : bootBuiltins x = some u) (r : RelV v u) (hn : x ≠ "__name__" := by decide) (hd : (x == ("__debug__" : Str)) = false := by decide) : PE X (.Name x pos) (tC v) :=
 fun _ _ _ H _ I h => ld_blt I hg hm hv ⟨v, H, I, r, h⟩ hn hd
variable {a b : Expr} {ta tb : TE} {pos : Pos}
def PC (X : Cx) (op : CmpOp) (a b : Expr) (t : TE) : Prop :=
 ∀ (pins : List (Addr × Obj)) (s : Shared) (σ : St) (H : Hp) (Q : VK), Inv X pins σ H s → t σ H Q →
  wpAny (model X.prog X.w) X.A (eval a X.env) (fun v s₁ => wpAny (model X.prog X.w) X.A (eval b X.env) (fun u s₂ => wpAny (model X.prog X.w) X.A (compareOp op v u) (EP X pins σ Q) X.xe s₂) X.xe s₁) X.xe s
theorem nobehind (b : Expr) {op : CmpOp} (h : op ≠ .In) (h2 : op ≠ .NotIn) : behindInMarks op b = false := by
 have e1 : (op == CmpOp.In) = false := by cases op <;> first | rfl | exact absurd rfl h
 have e2 : (op == CmpOp.NotIn) = false := by cases op <;> first | rfl | exact absurd rfl h2
 cases b <;> simp [behindInMarks, e1, e2]
def tB (t : TE) : TT := fun σ H Q => t σ H fun x H1 => ∃ c, x = .bl c ∧ Q c H1
theorem pt_cmp {op : CmpOp} {t : TE} (h : PC X op a b t) (h1 : behindInMarks op b = false := by first | exact nobehind _ (by decide) (by decide) | rfl) : PT X (.Compare a [op] [b] pos) (tB t) := by
 intro pins s σ H Q I hw
 refine wpAny_isTrue_Compare1 (thn (h pins s σ H _ I hw) fun v s1 h1 => thn h1 fun u s2 h2 => thn h2 fun c s3 ⟨x, H1, I1, r1, q1⟩ => ?_) h1
 obtain ⟨d, rfl, q⟩ := q1
 cases r1
 exact wpAny_truthy_bool ⟨H1, I1, q⟩
theorem pt_val {e : Expr} {t : TE} (h : PE X e t) (he : ∀ whole, isTrue e X.env whole = (do let v ← whole; standAt e.pos; holding [v] (truthy v)) := by intro _; rfl) : PT X e (tB t) := by
 intro pins s σ H Q I hw
 refine isTrue_plain (thn (h pins s σ H _ I hw) fun v s1 ⟨x, H1, I1, r1, q1⟩ => ?_) (he _)
 obtain ⟨d, rfl, q⟩ := q1
 cases r1
 exact wpAny_truthy_bool ⟨H1, I1, q⟩
variable {tA tB' : TT} {rest : List Expr}
def tAnd (t u : TT) : TT := fun σ H Q => t σ H fun c H1 => if c = true then u σ H1 Q else Q false H1
def tOr (t u : TT) : TT := fun σ H Q => t σ H fun c H1 => if c = true then Q true H1 else u σ H1 Q
def tNot (t : TT) : TT := fun σ H Q => t σ H fun c H1 => Q (!c) H1
theorem pw_and1 (ha : PT X a tA) : PW X (.BoolOp .And [a] pos) tA := by
 intro wh pins s σ H Q I h
 refine isTrue_and (thn (ha pins s σ H Q I h) fun c s1 e => ?_)
 cases c with
 | true => exact isTrue_and_nil e
 | false => exact e
theorem pw_or1 (ha : PT X a tA) : PW X (.BoolOp .Or [a] pos) tA := by
 intro wh pins s σ H Q I h
 refine isTrue_or (thn (ha pins s σ H Q I h) fun c s1 e => ?_)
 cases c with
 | false => exact isTrue_or_nil e
 | true => exact e
theorem pw_and (ha : PT X a tA) (hb : PW X (.BoolOp .And (b :: rest) pos) tB') : PW X (.BoolOp .And (a :: b :: rest) pos) (tAnd tA tB') := by
 intro wh pins s σ H Q I h
 refine isTrue_and (thn (ha pins s σ H _ I h) fun c s1 ⟨H1, I1, q1⟩ => ?_)
 cases c with
 | true => exact hb wh pins s1 σ H1 Q I1 q1
 | false => exact ⟨H1, I1, q1⟩
theorem pw_or (ha : PT X a tA) (hb : PW X (.BoolOp .Or (b :: rest) pos) tB') : PW X (.BoolOp .Or (a :: b :: rest) pos) (tOr tA tB') := by
 intro wh pins s σ H Q I h
 refine isTrue_or (thn (ha pins s σ H _ I h) fun c s1 ⟨H1, I1, q1⟩ => ?_)
 cases c with
 | true => exact ⟨H1, I1, q1⟩
 | false => exact hb wh pins s1 σ H1 Q I1 q1
theorem pt_not (ha : PT X a tA) : PT X (.UnaryOp .Not a pos) (tNot tA) := by
 intro pins s σ H Q I h
 exact isTrue_not (ha pins s σ H (fun c H1 => Q (!c) H1) I h)
def tAndV (ta tb : TE) : TE := fun σ H Q => ta σ H fun x H1 => ∃ c, x = .bl c ∧ if c = true then tb σ H1 Q else Q (.bl false) H1
def tOrV (ta tb : TE) : TE := fun σ H Q => ta σ H fun x H1 => ∃ c, x = .bl c ∧ if c = true then Q (.bl true) H1 else tb σ H1 Q
def tNotV (ta : TE) : TE := fun σ H Q => ta σ H fun x H1 => ∃ c, x = .bl c ∧ Q (.bl (!c)) H1
theorem pe_one {op} {t : TE} (h : PE X a t) : PE X (.BoolOp op [a] pos) t := fun pins s σ H Q I hw => BoolOp_one (h pins s σ H Q I hw)
theorem pe_and (ha : PE X a ta) (hb : PE X (.BoolOp .And (b :: rest) pos) tb) : PE X (.BoolOp .And (a :: b :: rest) pos) (tAndV ta tb) := by
 intro pins s σ H Q I h
 refine BoolOp_and (thn (ha pins s σ H _ I h) fun v s1 ⟨x, H1, I1, r1, q1⟩ => ?_)
 obtain ⟨c, rfl, q1⟩ := q1
 cases r1
 refine wpAny_truthy_bool ?_
 cases c with
 | true => exact hb pins s1 σ H1 Q I1 q1
 | false => exact ⟨.bl false, H1, I1, rfl, q1⟩
theorem pe_not (ha : PE X a ta) : PE X (.UnaryOp .Not a pos) (tNotV ta) := by
 intro pins s σ H Q I h
 refine UnaryOp_ (thn (ha pins s σ H _ I h) fun v s1 ⟨x, H1, I1, r1, q1⟩ => ?_)
 obtain ⟨c, rfl, q1⟩ := q1
 cases r1
 exact not_of (wpAny_truthy_bool ⟨.bl (!c), H1, I1, rfl, q1⟩)
def tIf (t : TT) (ta tb : TE) : TE := fun σ H Q => t σ H fun c H1 => if c = true then ta σ H1 Q else tb σ H1 Q
theorem pe_ifExp {c : Expr} (hc : PT X c tA) (ha : PE X a ta) (hb : PE X b tb) : PE X (.IfExp c a b pos) (tIf tA ta tb) := by
 intro pins s σ H Q I h
 refine wpAny_IfExp (thn (hc pins s σ H _ I h) fun d s1 ⟨H1, I1, q1⟩ => ?_)
 cases d with
 | true => exact ha pins s1 σ H1 Q I1 q1
 | false => exact hb pins s1 σ H1 Q I1 q1
end
end L2
namespace L2
open PySem PySem.Spec PyProof.Rows
def SqL (K : PySem.W.Frag) (H : Hp) (a : Addr) (xs : List V) : Prop :=
 Rd H a (.lst xs) ∨
  ∃ (o : Obj) (its : Array Value) (n : Nat), K.lookup a = some o ∧ o.cls = .type "list" ∧ o.dict = none ∧ o.data = .seq its n ∧ its.size ≤ sizeLine ∧ Vals xs its.toList
def SqT (K : PySem.W.Frag) (H : Hp) (a : Addr) (xs : List V) : Prop :=
 Rd H a (.tup xs) ∨
  ∃ (o : Obj) (its : Array Value) (n : Nat), K.lookup a = some o ∧ o.cls = .type "tuple" ∧ o.data = .seq its n ∧ its.size ≤ sizeLine ∧ Vals xs its.toList
def absV : Value → Option V
 | .none => some .non
 | .bool b => some (.bl b)
 | .int i _ => some (.int i)
 | .str x _ => some (.str x)
 | .bytes b _ => some (.byt b)
 | .float b _ => some (.flt b)
 | .ref a => some (.ref a)
 | .type n => some (.ty n)
 | _ => none
theorem RelV.abs {x : V} {u : Value} (r : RelV x u) : absV u = some x := by
 cases x with
 | non => cases r; rfl
 | bl _ => cases r; rfl
 | int _ => obtain ⟨t, rfl⟩ := r; rfl
 | str _ => obtain ⟨t, rfl⟩ := r; rfl
 | byt _ => obtain ⟨t, rfl⟩ := r; rfl
 | flt _ => obtain ⟨t, rfl⟩ := r; rfl
 | ref _ => cases r; rfl
 | ty _ => cases r; rfl
theorem RelV.inj {x y : V} {u : Value} (r : RelV x u) (q : RelV y u) : x = y := Option.some.inj (r.abs.symm.trans q.abs)
theorem Vals.inj : ∀ {xs ys : List V} {us : List Value}, Vals xs us → Vals ys us → xs = ys
 | _, _, _, .nil, .nil => rfl
 | _, _, _, .cons r t, .cons r' t' => by rw [r.inj r', Vals.inj t t']
section
variable {X : Cx} {pins : List (Addr × Obj)} {σ : St} {H : Hp} {s : Shared} {a : Addr} {xs ys : List V}
theorem SqL.of {K : PySem.W.Frag} (h : H a = some (.lst xs)) : SqL K H a xs := .inl (.inl h)
theorem SqT.of {K : PySem.W.Frag} (h : H a = some (.tup xs)) : SqT K H a xs := .inl (.inl h)
theorem Inv.list (I : Inv X pins σ H s) (h : SqL X.K H a xs) : ∃ its : List Value, Vals xs its ∧ PlainL s.heap a its.toArray ∧ xs.length ≤ sizeLine := by
 rcases h with h | ⟨o, its, n, hk, hc, hd, hs, hz, r⟩
 ·obtain ⟨z, its, n, r, e⟩ := h.ok I.hok
  exact ⟨its, r, ⟨_, n, e, rfl, rfl, rfl⟩, z⟩
 ·refine ⟨its.toList, r, ⟨o, n, I.kIn a o hk, hc, hd, by simpa using hs⟩, ?_⟩
  have e := r.length
  simp only [Array.length_toList] at e
  omega
theorem Inv.tuple (I : Inv X pins σ H s) (h : SqT X.K H a xs) : ∃ its : List Value, Vals xs its ∧ IsTup s.heap a its.toArray ∧ xs.length ≤ sizeLine := by
 rcases h with h | ⟨o, its, n, hk, hc, hs, hz, r⟩
 ·obtain ⟨z, its, r, p⟩ := h.ok I.hok
  exact ⟨its, r, p, z⟩
 ·refine ⟨its.toList, r, ⟨o, I.kIn a o hk, hc, n, by simpa using hs⟩, ?_⟩
  have e := r.length
  simp only [Array.length_toList] at e
  omega
theorem Inv.list_inj (I : Inv X pins σ H s) (h : SqL X.K H a xs) (h' : SqL X.K H a ys) : xs = ys := by
 obtain ⟨its, r, ⟨o, n, e, _, _, d⟩, _⟩ := I.list h
 obtain ⟨its', r', ⟨o', n', e', _, _, d'⟩, _⟩ := I.list h'
 rw [e] at e'; cases e'
 rw [d] at d'
 injection d' with d1 _
 have : its = its' := by simpa using congrArg Array.toList d1
 subst this
 exact r.inj r'
end
abbrev Cx.wish (X : Cx) (E : Value → Shared → Prop) : Cx := { X with xe := E }
abbrev Cx.nox (X : Cx) : Cx := X.wish fun _ _ => False
theorem Cx.Ok.wish {X : Cx} (ok : X.Ok) (E : Value → Shared → Prop) : (X.wish E).Ok :=
 ⟨ok.mod, ok.kind, ok.glob, ok.blt, ok.above, ok.inj, ok.has, ok.cab, ok.hd, ok.frames, ok.stk, ok.exf, ok.bs, ok.bsz, ok.noex, ok.exfs, ok.funs, ok.frf⟩
theorem Cx.Ok.unwish {X : Cx} {E : Value → Shared → Prop} (ok : (X.wish E).Ok) : X.Ok :=
 ⟨ok.mod, ok.kind, ok.glob, ok.blt, ok.above, ok.inj, ok.has, ok.cab, ok.hd, ok.frames, ok.stk, ok.exf, ok.bs, ok.bsz, ok.noex, ok.exfs, ok.funs, ok.frf⟩
section
variable {X : Cx} {pins : List (Addr × Obj)} {σ : St} {H : Hp} {s : Shared} {E : Value → Shared → Prop}
theorem Inv.wish (I : Inv X pins σ H s) (E : Value → Shared → Prop) : Inv (X.wish E) pins σ H s := ⟨I.ok.wish E, I.os, I.bare, I.base, I.loc, I.cell, I.free, I.freeC, I.pin, I.hok, I.len⟩
theorem Inv.unwish (I : Inv (X.wish E) pins σ H s) : Inv X pins σ H s := ⟨I.ok.unwish, I.os, I.bare, I.base, I.loc, I.cell, I.free, I.freeC, I.pin, I.hok, I.len⟩
theorem SP.unwish {D : Ends} {f : Flow} {s' : Shared} (h : SP (X.wish E) pins D f s') : SP X pins D f s' := by
 cases f with
 | next => obtain ⟨σ', H', I, q⟩ := h; exact ⟨σ', H', I.unwish, q⟩
 | brk => obtain ⟨σ', H', I, q⟩ := h; exact ⟨σ', H', I.unwish, q⟩
 | cont => obtain ⟨σ', H', I, q⟩ := h; exact ⟨σ', H', I.unwish, q⟩
 | ret u => obtain ⟨v, σ', H', I, r, q⟩ := h; exact ⟨v, σ', H', I.unwish, r, q⟩
theorem PSs.nox {st : List Stmt} {t : TS} (h : PSs X.nox st t) : PSs X st t := fun pins s σ H D I hw =>
 wpAny_mono (h pins s σ H D (I.wish _) hw) (fun _ _ q => q.unwish) fun _ _ z => False.elim z
end
section
variable {X : Cx} {st : Stmt} {rest : List Stmt} {t u : TS} {e : Expr} {te : TE} {pos : Pos}
def tNext : TS := fun D σ H => D.nx σ H
def tSeq (t u : TS) : TS := fun D σ H => t { D with nx := u D } σ H
theorem pss_nil : PSs X [] tNext := fun _ _ σ H _ I h => wpAny_execs_nil ⟨σ, H, I, h⟩
theorem pss_cons (h1 : PS X st t) (h2 : PSs X rest u) : PSs X (st :: rest) (tSeq t u) := by
 intro pins s σ H D I h
 refine wpAny_execs_cons (thn (h1 pins s σ H { D with nx := u D } I h) fun f s1 q => ?_)
 cases f with
 | next =>
  obtain ⟨σ', H', I', q⟩ := q
  exact h2 pins s1 σ' H' D I' q
 | ret v => exact q
 | brk => exact q
 | cont => exact q
theorem pss_one (h1 : PS X st t) : PSs X [st] t := by
 intro pins s σ H D I h
 refine wpAny_execs_cons (thn (h1 pins s σ H D I h) fun f s1 q => ?_)
 cases f with
 | next => exact wpAny_execs_nil q
 | ret v => exact q
 | brk => exact q
 | cont => exact q
theorem Inv.quiet {pins : List (Addr × Obj)} {σ : St} {H : Hp} {s : Shared} (I : Inv X pins σ H s) : interactive X.env = false := by simp [interactive, I.ok.kind]
def tDrop (te : TE) : TS := fun D σ H => te σ H fun _ H1 => D.nx σ H1
theorem ps_expr (he : PE X e te) (hs : swapsWith e none pos.line X.env = pure false := by rfl) : PS X (.Expr e pos) (tDrop te) := by
 intro pins s σ H D I h
 exact wpAny_Expr_any (thn (he pins s σ H _ I h) fun v s1 ⟨x, H1, I1, r1, q1⟩ => ⟨σ, H1, I1, q1⟩) I.quiet hs
def tRet (te : TE) : TS := fun D σ H => te σ H D.rt
theorem ps_ret (he : PE X e te) : PS X (.Return (some e) pos) (tRet te) := by
 intro pins s σ H D I h
 exact wpAny_Return_some (thn (he pins s σ H _ I h) fun v s1 ⟨x, H1, I1, r1, q1⟩ => ⟨x, σ, H1, I1, r1, q1⟩)
def tRetN : TS := fun D _ H => D.rt .non H
def tIfS (c : TT) (t u : TS) : TS := fun D σ H => c σ H fun b H1 => if b = true then t D σ H1 else u D σ H1
theorem ps_if {c : Expr} {a b : List Stmt} {tc : TT} (hc : PT X c tc) (ha : PSs X a t) (hb : PSs X b u) : PS X (.If c a b pos) (tIfS tc t u) := by
 intro pins s σ H D I h
 refine wpAny_If (thn (hc pins s σ H _ I h) fun d s1 ⟨H1, I1, q1⟩ => ?_)
 cases d with
 | true => exact ha pins s1 σ H1 D I1 q1
 | false => exact hb pins s1 σ H1 D I1 q1
end
abbrev TG := V → St → Hp → (St → Hp → Prop) → Prop
abbrev TGs := List V → St → Hp → (St → Hp → Prop) → Prop
def PG (X : Cx) (target : Expr) (t : TG) : Prop :=
 ∀ (pins : List (Addr × Obj)) (s : Shared) (σ : St) (H : Hp) (v : V) (u : Value) (Q : St → Hp → Prop), Inv X pins σ H s → RelV v u → t v σ H Q →
  wpAny (model X.prog X.w) X.A (assign target X.env u) (fun _ s' => ∃ σ' H', Inv X pins σ' H' s' ∧ Q σ' H') X.xe s
def PGs (X : Cx) (ts : List Expr) (t : TGs) : Prop :=
 ∀ (pins : List (Addr × Obj)) (s : Shared) (σ : St) (H : Hp) (vs : List V) (us : List Value) (Q : St → Hp → Prop), Inv X pins σ H s → Vals vs us → t vs σ H Q →
  wpAny (model X.prog X.w) X.A (assignInOrder ((assignEach ts X.env).map (·.2)) us) (fun _ s' => ∃ σ' H', Inv X pins σ' H' s' ∧ Q σ' H') X.xe s
abbrev TSet := V → V → V → Hp → (Hp → Prop) → Prop
section
variable {X : Cx} {pos : Pos}
def gName (i : Nat) : TG := fun v σ H Q => Q (σ.set i (some v)) H
theorem pg_name {i : Nat} {x : Str} (hN : X.N.Nodup) (hi : X.N[i]? = some x) (hx : Loc X.env.scope x) (hf : X.fn x = true ∨ X.env.scope.names.lookup x = some .local := by first | exact .inl rfl | exact .inr rfl | assumption) : PG X (.Name x pos) (gName i) := by
 intro pins s σ H v u Q I r h
 exact wpAny_assign_Name (store_ok I hN hi hx r (fun s' I' => ⟨_, H, I', h⟩) hf)
def gNil : TGs := fun vs σ H Q => vs = [] ∧ Q σ H
def gCons (t : TG) (u : TGs) : TGs := fun vs σ H Q => ∃ v r, vs = v :: r ∧ t v σ H fun σ' H' => u r σ' H' Q
theorem pgs_nil : PGs X [] gNil := by
 intro pins s σ H vs us Q I r h
 obtain ⟨e, h⟩ := h
 subst e
 cases r
 exact assignInOrder_nil ⟨σ, H, I, h⟩
theorem pgs_cons {e : Expr} {es : List Expr} {t : TG} {u : TGs} (h1 : PG X e t) (h2 : PGs X es u)
  (hs : (assignEach (e :: es) X.env).map (·.2) = assign e X.env :: (assignEach es X.env).map (·.2) := by rfl) : PGs X (e :: es) (gCons t u) := by
 intro pins s σ H vs us Q I r h
 obtain ⟨v, vr, e1, h⟩ := h
 subst e1
 cases r with
 | cons r rr =>
  rw [hs]
  refine assignInOrder_cons (thn (h1 pins s σ H _ _ _ I r h) fun _ s1 ⟨σ1, H1, I1, q1⟩ => ?_)
  exact h2 pins s1 σ1 H1 _ _ Q I1 rr q1
def gTup (K : PySem.W.Frag) (n : Nat) (t : TGs) : TG := fun v σ H Q => ∃ a xs, v = .ref a ∧ SqT K H a xs ∧ xs.length = n ∧ t xs σ H Q
theorem pg_tup {es : List Expr} {k : Nat} {t : TGs} {n : Nat} (hc : X.calm = true) (h : PGs X es t)
  (hn : (assignEach es X.env).length = n := by rfl) (hst : (assignEach es X.env).findIdx? (·.1) = none := by rfl) : PG X (.Tuple es k pos) (gTup X.K n t) := by
 intro pins s σ H v u Q I r hw
 obtain ⟨a, xs, e1, hq, hl, hw⟩ := hw
 subst e1
 cases r
 obtain ⟨its, rv, ht, hz⟩ := I.tuple hq
 refine assign_Tuple_tuple (I.ok.hd hc) ht (by simp [hn, ← hl, rv.length]) hst fun h' hx => ?_
 have I1 : Inv X pins σ H { s with heap := h' } := I.kept (t' := s.toks) fun b o e => hx b o (Nat.ne_of_lt (Heap.lt_size e)) e
 exact h pins _ σ H xs _ Q I1 (by simpa using rv) hw
def gSub (to ti : TE) (t : TSet) : TG := fun v σ H Q => to σ H fun o H1 => ti σ H1 fun i H2 => t o i v H2 fun H3 => Q σ H3
def tAsg (te : TE) (g : TG) : TS := fun D σ H => te σ H fun x H1 => g x σ H1 D.nx
theorem ps_set {i : Nat} {x : Str} {e : Expr} {te : TE} {pos' : Pos} (hN : X.N.Nodup) (hi : X.N[i]? = some x) (hx : Loc X.env.scope x) (he : PE X e te) (hs : swapsWith e (some (.Name x pos')) pos.line X.env = pure false := by rfl) (hf : X.fn x = true ∨ X.env.scope.names.lookup x = some .local := by first | exact .inl rfl | exact .inr rfl | assumption) :
  PS X (.Assign [.Name x pos'] e pos) (tAsg te (gName i)) := by
 intro pins s σ H D I h
 refine wpAny_Assign_Name (thn (he pins s σ H _ I h) fun v s1 ⟨y, H1, I1, r1, q1⟩ => ?_) hs
 exact store_ok I1 hN hi hx r1 (fun s2 I2 => ⟨_, H1, I2, q1⟩) hf
def tPar (i j : Nat) (ta : TA) : TS := fun D σ H => ta σ H fun vs H1 => ∃ v w, vs = [v, w] ∧ D.nx ((σ.set i (some v)).set j (some w)) H1
theorem ps_par {i j : Nat} {x y : Str} {a b : Expr} {ta : TA} {px py pt : Pos} {kt k2 pt2} (hc : X.calm = true) (hN : X.N.Nodup) (hi : X.N[i]? = some x) (hj : X.N[j]? = some y) (hij : i ≠ j)
  (hx : X.env.scope.names.lookup x = some .local) (hy : X.env.scope.names.lookup y = some .local) (ha : PA X [a, b] ta)
  (hw : swappedStores [.Tuple [.Name x px, .Name y py] kt pt] (.Tuple [a, b] k2 pt2) X.env = pure (some [x, y]))
  (hs : swapsWithSole [.Tuple [.Name x px, .Name y py] kt pt] (.Tuple [a, b] k2 pt2) pos.line X.env = pure false := by rfl) :
  PS X (.Assign [.Tuple [.Name x px, .Name y py] kt pt] (.Tuple [a, b] k2 pt2) pos) (tPar i j ta) := by
 intro pins s σ H D I h
 rw [exec_Assign_arm]
 refine wpAny_bind (wpAny_standAt ?_)
 rw [hs]
 refine wpAny_bind (wpAny_pure ?_)
 rw [if_neg (by decide)]
 refine wpAny_bind (Tuple_ (thn (ha _ pins s σ H _ I h) fun us s1 ⟨vs, H1, I1, r1, q1⟩ => ?_))
 obtain ⟨v, w, e1, q1⟩ := q1
 subst e1
 obtain ⟨u1, u2, rfl, rv, rw'⟩ : ∃ u1 u2, us = [u1, u2] ∧ RelV v u1 ∧ RelV w u2 := by
  cases r1 with
  | cons p q =>
   cases q with
   | cons p' q' =>
    cases q'
    exact ⟨_, _, rfl, p, p'⟩
 refine wpAny_newObj_type ?_ (by show 2 ≤ sizeLine; decide)
 have I2 : Inv X pins σ H1 { s1 with heap := s1.heap.push { cls := .type "tuple", data := .seq [u1, u2].toArray } } := I1.kept (t' := s1.toks) fun b o e => Heap.get?_push_of_some _ e
 rw [hw]
 refine wpAny_bind (wpAny_pure ?_)
 show wpAny (model X.prog X.w) X.A (do rule "assign.swapped-stores"; let items ← unpackItems (.ref s1.heap.objs.size) 2 none; assignInOrder [fun v => bindName X.env y v, fun v => bindName X.env x v] items.reverse; pure Flow.next) _ _ _
 refine wpAny_bind (wpAny_rule (wpAny_bind (unpackItems_tuple (items := #[u1, u2]) (I.ok.hd hc) (IsTup.new s1.heap _) fun h' hx' => ?_)))
 have I3 := I2.kept (h' := h') (t' := s1.toks) fun b o e => hx' b o (Nat.ne_of_lt (Heap.lt_size e)) e
 show wpAny _ _ (assignInOrder [fun v => bindName X.env y v, fun v => bindName X.env x v] [u2, u1] >>= fun _ => pure Flow.next) _ _ _
 refine wpAny_bind (assignInOrder_cons (wpAny_bindName (store_ok I3 hN hj (.inl hy) rw' (fun s2 I4 => ?_) (.inr hy))))
 refine assignInOrder_cons (wpAny_bindName (store_ok I4 hN hi (.inl hx) rv (fun s3 I5 => assignInOrder_nil (wpAny_pure ?_)) (.inr hx)))
 rw [List.set_comm _ _ (Ne.symm hij)] at I5
 exact ⟨_, H1, I5, q1⟩
end
section
variable {X : Cx} {pos : Pos}
def tWhile (c : TT) (tb : TS) : TS := fun D σ H => ∃ W : Nat → St → Hp → Prop, (∃ m, W m σ H) ∧ ∀ m σ H, W m σ H →
 c σ H fun b H1 => if b = true then ∃ N : St → Hp → Prop, (∀ σ' H', N σ' H' → ∃ m', m' < m ∧ W m' σ' H') ∧ tb { D with nx := N, ct := N, bk := D.nx } σ H1 else D.nx σ H1
theorem ps_while {c : Expr} {body : List Stmt} {tc : TT} {tb : TS} (hp : PassesOwn (model X.prog X.w) X.A X.env X.xe) (hc : PT X c tc) (hb : PSs X body tb) : PS X (.While c body [] pos) (tWhile tc tb) := by
 intro pins s σ H D I h
 obtain ⟨W, ⟨m0, w0⟩, turn⟩ := h
 refine wpAny_While (codeAny_whileLoop (fun n s' => ∃ σ' H', Inv X pins σ' H' s' ∧ W n σ' H') ?_ m0 ⟨σ, H, I, w0⟩)
 rintro n s1 ⟨σ1, H1, I1, w1⟩
 refine wpAny_passesOwn hp (thn (hc pins s1 σ1 H1 _ I1 (turn n σ1 H1 w1)) fun b s2 ⟨H2, I2, q2⟩ => ?_)
 cases b with
 | true =>
  obtain ⟨N, hN, q2⟩ := q2
  rw [if_pos rfl]
  refine wpAny_passesOwn hp (thn (hb pins s2 σ1 H2 _ I2 q2) fun f s3 q3 => ?_)
  cases f with
  | next =>
   obtain ⟨σ3, H3, I3, n3⟩ := q3
   obtain ⟨m', hm, w3⟩ := hN σ3 H3 n3
   exact ⟨m', hm, σ3, H3, I3, w3⟩
  | cont =>
   obtain ⟨σ3, H3, I3, n3⟩ := q3
   obtain ⟨m', hm, w3⟩ := hN σ3 H3 n3
   exact ⟨m', hm, σ3, H3, I3, w3⟩
  | brk => exact q3
  | ret v => exact q3
 | false =>
  rw [if_neg Bool.false_ne_true]
  exact wpAny_execs_nil ⟨σ1, H2, I2, q2⟩
end
structure It where
 go : Nat → Hp → Prop
 yld : Nat → Hp → V → Hp → Prop
 stop : Nat → Hp → Prop
def FpOk (X : Cx) (pins : List (Addr × Obj)) (H : Hp) (b : Addr) : Prop :=
 H b = none ∧ b ≠ X.env.locals ∧ b ∉ X.fs ∧ (b ∈ X.ex ∨ X.s₀.heap.objs.size ≤ b) ∧ (∀ x c, X.env.cells.lookup x = some c → c ≠ b) ∧ ∀ p ∈ X.pn ++ pins, p.1 ≠ b
theorem Inv.fpOk {X : Cx} {pins : List (Addr × Obj)} {σ : St} {H H' : Hp} {s : Shared} {b : Addr} (I : Inv X pins σ H s) (hb : s.heap.objs.size ≤ b) (hn : H' b = none) : FpOk X pins H' b := by
 refine ⟨hn, Nat.ne_of_gt (Nat.lt_of_lt_of_le I.lt hb), I.nofs hb, .inr (Nat.le_trans I.sz hb), fun x c e z => ?_, fun p hp z => ?_⟩
 ·obtain ⟨v, q⟩ := I.cell x c e
  exact absurd (Nat.lt_of_lt_of_le q.lt (by rw [z]; exact hb)) (Nat.lt_irrefl _)
 ·exact absurd (Nat.lt_of_lt_of_le (Heap.lt_size (I.pin p hp).1) (by rw [z]; exact hb)) (Nat.lt_irrefl _)
structure Turn (P : Program) (w : World) (K : PySem.W.Frag) (tg : Expr) (J : It) (fp : List Addr) (it : Addr) (tn : Nat → Heap → Prop) : Prop where
 mem : it ∈ fp
 obj : ∀ i h, tn i h → ∀ b ∈ fp, ∃ o, h.get? b = some o ∧ ∀ v, o.data ≠ .cell v
 keep : ∀ i h h', tn i h → (∀ b ∈ fp, ∀ o, h.get? b = some o → h'.get? b = some o) → tn i h'
 item : ∀ (X : Cx), X.prog = P → X.w = w → X.K = K → X.calm = true → ∀ (i : Nat) (pins : List (Addr × Obj)) (s : Shared) (σ : St) (H : Hp) (E : Value → Shared → Prop), Inv X pins σ H s → (∀ b ∈ fp, FpOk X pins H b) → tn i s.heap → J.go i H →
  wpAny (model P w) X.A (pyNext (.ref it)) (fun r s1 => ∃ u, r = some u ∧
   wpAny (model P w) X.A (letOwnedTupleGo tg (.ref it) u) (fun _ s2 => ∃ x H', Inv X pins σ H' s2 ∧ RelV x u ∧ J.yld i H x H' ∧ tn (i + 1) s2.heap ∧ ∀ b ∈ fp, H' b = none) E s1) E s
 done : ∀ (X : Cx), X.prog = P → X.w = w → X.K = K → X.calm = true → ∀ (i : Nat) (pins : List (Addr × Obj)) (s : Shared) (σ : St) (H : Hp) (E : Value → Shared → Prop), Inv X pins σ H s → (∀ b ∈ fp, FpOk X pins H b) → tn i s.heap → J.stop i H →
  wpAny (model P w) X.A (pyNext (.ref it)) (fun r s1 => r = none ∧ Inv X pins σ H s1) E s
 self : ∀ (A : Around) (i : Nat) (s : Shared) (Q : Value → Shared → Prop) (E : Value → Shared → Prop), tn i s.heap → Q (.ref it) s → wpAny (model P w) A (pyIter (.ref it)) Q E s
abbrev TI := St → Hp → (It → Hp → Prop) → Prop
def PIE (X : Cx) (pins : List (Addr × Obj)) (σ : St) (tg : Expr) (R : It → Hp → Prop) (itv : Value) (s2 : Shared) : Prop :=
 ∃ (it : Addr) (fp : List Addr) (tn : Nat → Heap → Prop) (J : It) (H' : Hp), itv = .ref it ∧ Inv X pins σ H' s2 ∧ Turn X.prog X.w X.K tg J fp it tn ∧ tn 0 s2.heap ∧ (∀ b ∈ fp, FpOk X pins H' b) ∧ R J H'
def PI (X : Cx) (tg iter : Expr) (wi : TI) : Prop :=
 ∀ (pins : List (Addr × Obj)) (s : Shared) (σ : St) (H : Hp) (R : It → Hp → Prop), Inv X pins σ H s → wi σ H R →
  wpAny (model X.prog X.w) X.A (eval iter X.env) (fun v s1 => wpAny (model X.prog X.w) X.A (pyIter v) (PIE X pins σ tg R) X.xe s1) X.xe s
theorem go_of {M : Model} {A : Around} {E : Value → Shared → Prop} {s : Shared} {tg : Expr} {it : Addr} {u : Value} {o : Obj} {n : String} {vs : Array Value} {Q : Unit → Shared → Prop} (ho : s.heap.get? it = some o) (hc : o.cls = .type n) (hd : o.data = .fields vs)
    (hn : ["enumerate", "zip", "dict_itemiterator", "dict_reverseitemiterator", "odict_iterator", "itertools.zip_longest", "itertools.pairwise"].contains n = false) (hQ : Q () s) : wpAny M A (letOwnedTupleGo tg (.ref it) u) Q E s := by
  unfold letOwnedTupleGo
  cases tg <;> first
    | exact wpAny_pure hQ
    | (cases u <;> first
        | exact wpAny_pure hQ
        | (refine wpAny_bind (wpAny_load ho ?_)
           rw [hc, hd]
           show wpAny M A (if (["enumerate", "zip", "dict_itemiterator", "dict_reverseitemiterator", "odict_iterator", "itertools.zip_longest", "itertools.pairwise"].contains n && vs[0]? == some (rawInt _)) = true then _ else _) Q E s
           rw [if_neg (by intro h; rw [hn, Bool.false_and] at h; cases h)]
           exact wpAny_pure hQ))
def Itl (K : PySem.W.Frag) (a : Addr) : It :=
 ⟨fun i H => ∃ xs x, SqL K H a xs ∧ xs[i]? = some x, fun i H x H' => H' = H ∧ ∀ xs, SqL K H a xs → xs[i]? = some x, fun i H => ∃ xs, SqL K H a xs ∧ xs.length ≤ i⟩
def Itr (lo : Int) (n : Nat) : It := ⟨fun i _ => i < n, fun i H x H' => H' = H ∧ x = .int (lo + i), fun i _ => n ≤ i⟩
theorem turn_list {P : Program} {w : World} {K : PySem.W.Frag} {tg : Expr} (a it : Addr) : Turn P w K tg (Itl K a) [it] it (fun i h => h.IsListIter it a i) where
 mem := by simp
 obj := fun i h st b hb => by
  have e : b = it := by simpa using hb
  subst e
  obtain ⟨o, e, c, d⟩ := st
  exact ⟨o, e, fun v z => by rw [d] at z; cases z⟩
 keep := fun i h h' st k => st.at fun o e => k it (by simp) o e
 item := by
  intro X hP hw hK hc i pins s σ H E I hf st hg
  subst hP hw hK
  obtain ⟨xs, x, hq, hx⟩ := hg
  obtain ⟨its, rv, p, hz⟩ := I.list hq
  obtain ⟨u, hu, ru⟩ := rv.get hx
  obtain ⟨f0, f1, f2, f3, f4, f5⟩ := hf it (by simp)
  refine wpAny_pyNext_list_item st p.isList (x := u) (by simpa using hu) fun h' st' sb => ?_
  have I1 : Inv X pins σ H { s with heap := h' } := I.turned (t' := s.toks) (fun b o hb e => (sb.2 b hb).trans e) f0 f1 f3 f4 f5
  obtain ⟨o, e, c, d⟩ := id st'
  exact ⟨u, rfl, go_of (s := { s with heap := h' }) e c d (by decide) ⟨x, H, I1, ru, ⟨rfl, fun ys hy => by rw [I.list_inj hy hq]; exact hx⟩, st', fun b hb => (hf b hb).1⟩⟩
 done := by
  intro X hP hw hK hc i pins s σ H E I hf st hg
  subst hP hw hK
  obtain ⟨xs, hq, hx⟩ := hg
  obtain ⟨its, rv, p, hz⟩ := I.list hq
  obtain ⟨f0, f1, f2, f3, f4, f5⟩ := hf it (by simp)
  have hl := rv.length
  exact wpAny_pyNext_list_end (I.ok.hd hc) st p.isList (by simp; omega) fun h' eb => ⟨rfl, I.turned (t' := s.toks) (fun b o hb e => eb b o hb e) f0 f1 f3 f4 f5⟩
 self := fun _ _ _ _ _ st h => wpAny_pyIter_listiter st h
theorem turn_range {P : Program} {w : World} {K : PySem.W.Frag} {tg : Expr} (it : Addr) (lo : Int) (n : Nat) : Turn P w K tg (Itr lo n) [it] it (fun i h => IsRangeIter h it (lo + (i : Nat) * 1) ((n : Int) - (i : Nat)) 1) where
 mem := by simp
 obj := fun i h st b hb => by
  have e : b = it := by simpa using hb
  subst e
  exact ⟨_, st, fun v z => by
   have z' : Data.fields _ = Data.cell v := z
   cases z'⟩
 keep := fun i h h' st k => k it (by simp) _ st
 item := by
  intro X hP hw hK hc i pins s σ H E I hf st hg
  subst hP hw hK
  obtain ⟨f0, f1, f2, f3, f4, f5⟩ := hf it (by simp)
  have W := Walks.range (prog := X.prog) (w := X.w) (I.ok.hd hc) it lo 1 n
  refine W.item i s _ _ hg st fun v h' tk hv st' kk => ?_
  obtain ⟨t, rfl⟩ := hv
  have I1 : Inv X pins σ H { s with heap := h', toks := tk } := I.turned (fun b o hb e => kk b o (by simpa using hb) e) f0 f1 f3 f4 f5
  refine ⟨_, rfl, go_of (s := { s with heap := h', toks := tk }) (n := "range_iterator") st' rfl rfl (by decide) ⟨.int (lo + i), H, I1, ⟨t, ?_⟩, ⟨rfl, rfl⟩, st', fun b hb => (hf b hb).1⟩⟩
  rw [Int.mul_one]
 done := by
  intro X hP hw hK hc i pins s σ H E I hf st hg
  subst hP hw hK
  obtain ⟨f0, f1, f2, f3, f4, f5⟩ := hf it (by simp)
  exact wpAny_pyNext_range_end (I.ok.hd hc) st (by have : n ≤ i := hg; omega) fun h' eb => ⟨rfl, I.turned (t' := s.toks) (fun b o hb e => eb b o hb e) f0 f1 f3 f4 f5⟩
 self := fun _ _ _ _ _ st h => wpAny_pyIter_rangeiter st h
end L2
namespace L2
open PySem PySem.Spec PyProof.Rows
section
variable {X : Cx} {tg : Expr}
def iList (K : PySem.W.Frag) (tl : TE) : TI := fun σ H R => tl σ H fun x H1 => ∃ a, x = .ref a ∧ (∃ xs, SqL K H1 a xs) ∧ R (Itl K a) H1
theorem pi_list {l : Expr} {tl : TE} (hl : PE X l tl) : PI X tg l (iList X.K tl) := by
 intro pins s σ H R I h
 refine thn (hl pins s σ H _ I h) fun v s1 ⟨x, H1, I1, r1, q1⟩ => ?_
 obtain ⟨a, e, ⟨xs, hq⟩, q⟩ := q1
 subst e
 cases r1
 obtain ⟨its, rv, p, hz⟩ := I1.list hq
 refine wpAny_pyIter_list p.isList ?_
 refine ⟨s1.heap.objs.size, [s1.heap.objs.size], _, _, H1, rfl, I1.kept (t' := s1.toks) fun b o e => Heap.get?_push_of_some _ e, turn_list a _, ⟨_, Heap.get?_push_size _ rfl, rfl, rfl⟩, fun b hb => ?_, q⟩
 have e : b = s1.heap.objs.size := by simpa using hb
 subst e
 exact I1.fpOk (Nat.le_refl _) (I1.hok.fresh (Nat.le_refl _))
theorem range_it {pins : List (Addr × Obj)} {σ : St} {H : Hp} {s : Shared} {R : It → Hp → Prop} {E : Value → Shared → Prop} {lo hi : Int} {t u v : Tok} {tk : Nat} (I : Inv X pins σ H s) (h1 : -(2 ^ 62) ≤ lo) (h2 : lo < 2 ^ 62) (h3 : -(2 ^ 62) ≤ hi) (h4 : hi < 2 ^ 62)
  (q : R (Itr lo (hi - lo).toNat) H) : wpAny (model X.prog X.w) X.A (pyIter (.ref s.heap.objs.size)) (PIE X pins σ tg R) E { s with heap := s.heap.push { cls := .type "range", data := .fields #[.int lo t, .int hi u, .int 1 v] }, toks := tk } := by
 refine wpAny_pyIter_range (IsRange.new ..) (small_one h1 h2 h3 h4) ?_
 have I1 : Inv X pins σ H { s with heap := s.heap.push { cls := .type "range", data := .fields #[.int lo t, .int hi u, .int 1 v] }, toks := tk } := I.kept fun b o e => Heap.get?_push_of_some _ e
 refine ⟨(s.heap.push { cls := .type "range", data := .fields #[.int lo t, .int hi u, .int 1 v] }).objs.size, [(s.heap.push { cls := .type "range", data := .fields #[.int lo t, .int hi u, .int 1 v] }).objs.size], _, _, H, rfl,
  I1.kept (t' := tk) fun b o e => Heap.get?_push_of_some _ e, turn_range _ lo (hi - lo).toNat, ?_, fun b hb => ?_, q⟩
 ·have e1 : lo + ((0 : Nat) : Int) * 1 = lo := by simp
  have e2 : (((hi - lo).toNat : Nat) : Int) - ((0 : Nat) : Int) = Builtin.Range.rangeSize lo hi 1 := by rw [rangeSize_one]; split <;> omega
  show IsRangeIter _ _ (lo + ((0 : Nat) : Int) * 1) ((((hi - lo).toNat : Nat) : Int) - ((0 : Nat) : Int)) 1
  rw [e1, e2]
  exact Heap.get?_push_size _ rfl
 ·have e : b = (s.heap.push { cls := .type "range", data := .fields #[.int lo t, .int hi u, .int 1 v] }).objs.size := by simpa using hb
  subst e
  exact I1.fpOk (Nat.le_refl _) (I1.hok.fresh (Nat.le_refl _))
def iRng1 (ta : TA) : TI := fun σ H R => ta σ H fun vs H1 => ∃ j : Int, vs = [.int j] ∧ -(2 ^ 62) ≤ j ∧ j < 2 ^ 62 ∧ R (Itr 0 j.toNat) H1
def iRng2 (ta : TA) : TI := fun σ H R => ta σ H fun vs H1 => ∃ i j : Int, vs = [.int i, .int j] ∧ (-(2 ^ 62) ≤ i ∧ i < 2 ^ 62 ∧ -(2 ^ 62) ≤ j ∧ j < 2 ^ 62) ∧ R (Itr i (j - i).toNat) H1
theorem pi_range1 {a : Expr} {ta : TA} {p pos : Pos} (hg : Gl X "range") (hm : X.mg "range" = none) (ha : PA X [a] ta) (hs : starEach [a] X.env = [(false, eval a X.env)] := by rfl) : PI X tg (.Call (.Name "range" p) [a] [] pos) (iRng1 ta) := by
 intro pins s σ H R I h
 refine Call_ (ld_blt I hg hm boot_range (PyProof.Rows.callWith_type1 (thn (ha pos pins s σ H _ I h) fun us s1 ⟨vs, H1, I1, r1, q1⟩ => ?_) hs rfl))
 obtain ⟨j, e, q1, q2, q⟩ := q1
 subst e
 cases r1 with
 | cons r rr =>
  cases rr
  obtain ⟨t, rfl⟩ := r
  exact call_range_1 (range_it I1 (by omega) (by omega) q1 q2 (by simpa using q))
theorem pi_range2 {a b : Expr} {ta : TA} {p pos : Pos} (hg : Gl X "range") (hm : X.mg "range" = none) (ha : PA X [a, b] ta) (hs : starEach [a, b] X.env = [(false, eval a X.env), (false, eval b X.env)] := by rfl) (hs2 : starEach [b] X.env = [(false, eval b X.env)] := by rfl) :
  PI X tg (.Call (.Name "range" p) [a, b] [] pos) (iRng2 ta) := by
 intro pins s σ H R I h
 refine Call_ (ld_blt I hg hm boot_range (PyProof.Rows.callWith_type1 (thn (ha pos pins s σ H _ I h) fun us s1 ⟨vs, H1, I1, r1, q1⟩ => ?_) (by rw [hs, hs2]) (by rw [hs2]; rfl)))
 obtain ⟨i, j, e, ⟨q1, q2, q3, q4⟩, q⟩ := q1
 subst e
 cases r1 with
 | cons r rr =>
  cases rr with
  | cons r' rr =>
   cases rr
   obtain ⟨t, rfl⟩ := r
   obtain ⟨t', rfl⟩ := r'
   exact call_range_2 (range_it I1 q1 q2 q3 q4 q)
def tFor (wi : TI) (g : TG) (tb : TS) : TS := fun D σ H => wi σ H fun J H1 => ∃ W : Nat → Nat → St → Hp → Prop, (∃ m, W 0 m σ H1) ∧ ∀ i m σ H, W i m σ H →
 (J.stop i H ∧ D.nx σ H) ∨ (J.go i H ∧ ∃ N : St → Hp → Prop, (∀ σ' H', N σ' H' → ∃ m', m' < m ∧ W (i + 1) m' σ' H') ∧ ∀ x H', J.yld i H x H' → g x σ H' fun σ2 H2 => tb { D with nx := N, ct := N, bk := D.nx } σ2 H2)
def pinsAt (fp : List Addr) (h : Heap) : List (Addr × Obj) := fp.filterMap fun b => (h.get? b).map fun o => (b, o)
theorem mem_pinsAt {fp : List Addr} {h : Heap} {b : Addr} {o : Obj} (hb : b ∈ fp) (e : h.get? b = some o) : (b, o) ∈ pinsAt fp h := List.mem_filterMap.mpr ⟨b, hb, by rw [e]; rfl⟩
theorem of_pinsAt {fp : List Addr} {h : Heap} {p : Addr × Obj} (hp : p ∈ pinsAt fp h) : p.1 ∈ fp ∧ h.get? p.1 = some p.2 := by
 obtain ⟨b, hb, e⟩ := List.mem_filterMap.mp hp
 cases q : h.get? b with
 | none => rw [q] at e; cases e
 | some o =>
  rw [q] at e
  have e' : (b, o) = p := Option.some.inj e
  subst e'
  exact ⟨hb, q⟩
theorem Inv.pinned {pins : List (Addr × Obj)} {σ : St} {H : Hp} {s : Shared} {fp : List Addr} (I : Inv X pins σ H s) (hf : ∀ b ∈ fp, FpOk X pins H b) (ho : ∀ b ∈ fp, ∃ o, s.heap.get? b = some o ∧ ∀ v, o.data ≠ .cell v) : Inv X (pins ++ pinsAt fp s.heap) σ H s :=
 I.pins_of fun p hp => (List.mem_append.mp hp).elim (fun z => I.pin p (List.mem_append_right _ z)) fun z => by
  obtain ⟨hb, e⟩ := of_pinsAt z
  obtain ⟨f0, f1, f2, _⟩ := hf p.1 hb
  obtain ⟨o, e', d⟩ := ho p.1 hb
  rw [e] at e'; cases e'
  exact ⟨e, f0, f1, f2, d⟩
theorem Inv.unpinned {pins pl : List (Addr × Obj)} {σ : St} {H : Hp} {s : Shared} (I : Inv X (pins ++ pl) σ H s) : Inv X pins σ H s := I.pins_of fun p hp => I.pin p (List.mem_append_right _ (List.mem_append_left _ hp))
theorem ps_for {iter : Expr} {body : List Stmt} {wi : TI} {g : TG} {tb : TS} {pos : Pos} (hp : PassesOwn (model X.prog X.w) X.A X.env X.xe) (hc : X.calm = true) (hi : PI X tg iter wi) (hg : PG X tg g) (hb : PSs X body tb)
  (hs : ∀ x, foldedSetIterable iter X.env x = pure x := by intro _; rfl) : PS X (.For tg iter body [] pos) (tFor wi g tb) := by
 intro pins s σ H D I h
 refine wpAny_For (thn (hi pins s σ H _ I h) fun v s1 h1 => thn h1 fun itv s2 h2 => ?_) hs
 obtain ⟨it, fp, tn, J, H2, e, I2, T, st2, f2, W, ⟨m0, w0⟩, turn⟩ := h2
 subst e
 -- what stays true of the iterator's objects through the loop
 have stat : ∀ {H' : Hp}, (∀ b ∈ fp, H' b = none) → ∀ b ∈ fp, FpOk X pins H' b := fun hn b hb => ⟨hn b hb, (f2 b hb).2⟩
 refine codeAny_forLoop_any (fun n s' => ∃ i σ' H', Inv X pins σ' H' s' ∧ tn i s'.heap ∧ (∀ b ∈ fp, H' b = none) ∧ W i n σ' H') ?_ m0 ⟨0, σ, H2, I2, st2, fun b hb => (f2 b hb).1, w0⟩
 rintro n s3 ⟨i, σ3, H3, I3, st3, fr3, w3⟩
 rcases turn i n σ3 H3 w3 with ⟨stop, qn⟩ | ⟨go, N, hN, step⟩
 ·refine wpAny_passesOwn hp (thn (T.done X rfl rfl rfl hc i pins s3 σ3 H3 X.xe I3 (stat fr3) st3 stop) fun r s4 ⟨hr, I4⟩ => ?_)
  subst hr
  exact wpAny_execs_nil ⟨σ3, H3, I4, qn⟩
 ·refine wpAny_passesOwn hp (thn (T.item X rfl rfl rfl hc i pins s3 σ3 H3 X.xe I3 (stat fr3) st3 go) fun r s4 ⟨u, hr, h4⟩ => ?_)
  subst hr
  refine wpAny_passesOwn hp (thn h4 fun _ s5 ⟨x, H5, I5, r5, y5, st5, fr5⟩ => ?_)
  have I5' := I5.pinned (stat fr5) (T.obj _ _ st5)
  refine wpAny_passesOwn hp (thn (hg _ s5 σ3 H5 x u _ I5' r5 (step x H5 y5)) fun _ s6 ⟨σ6, H6, I6, q6⟩ => ?_)
  refine wpAny_passesOwn hp (thn (hb _ s6 σ6 H6 _ I6 q6) fun f s7 q7 => ?_)
  have again : ∀ {σ7 : St} {H7 : Hp}, Inv X (pins ++ pinsAt fp s5.heap) σ7 H7 s7 → N σ7 H7 → ∃ m, m < n ∧ ∃ i σ' H', Inv X pins σ' H' s7 ∧ tn i s7.heap ∧ (∀ b ∈ fp, H' b = none) ∧ W i m σ' H' := fun {σ7 H7} I7 n7 => by
   obtain ⟨m', hm, w7⟩ := hN σ7 H7 n7
   refine ⟨m', hm, i + 1, σ7, H7, I7.unpinned, T.keep _ _ _ st5 fun b hb o e => (I7.pin (b, o) (List.mem_append_right _ (List.mem_append_right _ (mem_pinsAt hb e)))).1, fun b hb => ?_, w7⟩
   obtain ⟨o, e, d⟩ := T.obj _ _ st5 b hb
   exact (I7.pin (b, o) (List.mem_append_right _ (List.mem_append_right _ (mem_pinsAt hb e)))).2.1
  cases f with
  | next => obtain ⟨σ7, H7, I7, n7⟩ := q7; exact again I7 n7
  | cont => obtain ⟨σ7, H7, I7, n7⟩ := q7; exact again I7 n7
  | brk => obtain ⟨σ7, H7, I7, q7⟩ := q7; exact ⟨σ7, H7, I7.unpinned, q7⟩
  | ret v => obtain ⟨x7, σ7, H7, I7, r7, q7⟩ := q7; exact ⟨x7, σ7, H7, I7.unpinned, r7, q7⟩
end
theorem for_list {K : PySem.W.Frag} {a : Addr} {xs : List V} {g : TG} {tb : TS} {D : Ends} {σ : St} {H : Hp} (Pv : Nat → St → Hp → Prop) (h0 : Pv 0 σ H) (hl : ∀ i σ H, i ≤ xs.length → Pv i σ H → SqL K H a xs)
  (hs : ∀ i x σ H, xs[i]? = some x → Pv i σ H → g x σ H fun σ2 H2 => tb { D with nx := Pv (i + 1), ct := Pv (i + 1), bk := D.nx } σ2 H2) (hd : ∀ σ H, Pv xs.length σ H → D.nx σ H) :
  ∃ W : Nat → Nat → St → Hp → Prop, (∃ m, W 0 m σ H) ∧ ∀ i m σ H, W i m σ H →
   ((Itl K a).stop i H ∧ D.nx σ H) ∨ ((Itl K a).go i H ∧ ∃ N : St → Hp → Prop, (∀ σ' H', N σ' H' → ∃ m', m' < m ∧ W (i + 1) m' σ' H') ∧ ∀ x H', (Itl K a).yld i H x H' → g x σ H' fun σ2 H2 => tb { D with nx := N, ct := N, bk := D.nx } σ2 H2) := by
 refine ⟨fun i m σ H => m = xs.length - i ∧ i ≤ xs.length ∧ Pv i σ H, ⟨xs.length, by simp, Nat.zero_le _, h0⟩, ?_⟩
 rintro i m σ H ⟨rfl, hi, p⟩
 have q := hl i σ H hi p
 by_cases hlt : i < xs.length
 ·refine .inr ⟨⟨xs, xs[i], q, by simp [hlt]⟩, Pv (i + 1), fun σ' H' p' => ⟨xs.length - (i + 1), by omega, rfl, hlt, p'⟩, fun x H' y => ?_⟩
  obtain ⟨e, y⟩ := y
  subst e
  exact hs i x σ _ (y xs q) p
 ·have e : i = xs.length := by omega
  subst e
  exact .inl ⟨⟨xs, q, Nat.le_refl _⟩, hd σ H p⟩
end L2
namespace L2
open PySem PySem.Spec PyProof.Rows
abbrev R2 := V → V → Hp → VK → Prop
def OpR (X : Cx) (f : Value → Value → Sem Value) (r : R2) : Prop :=
 ∀ (pins : List (Addr × Obj)) (s : Shared) (σ : St) (H : Hp) (x y : V) (v u : Value) (Q : VK), Inv X pins σ H s → RelV x v → RelV y u → r x y H Q →
  wpAny (model X.prog X.w) X.A (f v u) (EP X pins σ Q) X.xe s
def UnR (X : Cx) (f : Value → Sem Value) (r : V → Hp → VK → Prop) : Prop :=
 ∀ (pins : List (Addr × Obj)) (s : Shared) (σ : St) (H : Hp) (x : V) (v : Value) (Q : VK), Inv X pins σ H s → RelV x v → r x H Q →
  wpAny (model X.prog X.w) X.A (f v) (EP X pins σ Q) X.xe s
def CallR (X : Cx) (f : Value) (r : List V → Hp → VK → Prop) : Prop :=
 ∀ (pins : List (Addr × Obj)) (s : Shared) (σ : St) (H : Hp) (xs : List V) (us : List Value) (Q : VK), Inv X pins σ H s → Vals xs us → r xs H Q →
  wpAny (model X.prog X.w) X.A (call f us) (EP X pins σ Q) X.xe s
def tOp (r : R2) (ta tb : TE) : TE := fun σ H Q => ta σ H fun x H1 => tb σ H1 fun y H2 => r x y H2 Q
def tUn (r : V → Hp → VK → Prop) (ta : TE) : TE := fun σ H Q => ta σ H fun x H1 => r x H1 Q
def rI (C : Int → Int → Prop) (g : Int → Int → V) : R2 := fun x y H Q => ∃ i j, x = .int i ∧ y = .int j ∧ C i j ∧ Q (g i j) H
def rI0 (g : Int → Int → V) : R2 := fun x y H Q => ∃ i j, x = .int i ∧ y = .int j ∧ Q (g i j) H
def rU (g : Int → V) : V → Hp → VK → Prop := fun x H Q => ∃ i, x = .int i ∧ Q (g i) H
section
variable {X : Cx} {a b c : Expr} {ta tb tc : TE} {pos : Pos}
theorem binT (ha : PE X a ta) (hb : PE X b tb) {pins : List (Addr × Obj)} {s : Shared} {σ : St} {H : Hp} {R : V → V → Hp → Prop} (I : Inv X pins σ H s)
  (h : ta σ H fun x H1 => tb σ H1 fun y H2 => R x y H2) {Q : Value → Shared → Prop} {f : Value → Value → Sem Value}
  (hf : ∀ v u s2 x y H2, Inv X pins σ H2 s2 → RelV x v → RelV y u → R x y H2 → wpAny (model X.prog X.w) X.A (f v u) Q X.xe s2) :
  wpAny (model X.prog X.w) X.A (eval a X.env) (fun v s₁ => wpAny (model X.prog X.w) X.A (eval b X.env) (fun u s₂ => wpAny (model X.prog X.w) X.A (f v u) Q X.xe s₂) X.xe s₁) X.xe s := by
 refine thn (ha pins s σ H _ I h) fun v s1 ⟨x, H1, I1, r1, q1⟩ => ?_
 refine thn (hb pins s1 σ H1 _ I1 q1) fun u s2 ⟨y, H2, I2, r2, q2⟩ => ?_
 exact hf v u s2 x y H2 I2 r1 r2 q2
theorem pe_op {op : Operator} {r : R2} (ho : OpR X (binaryOp op) r) (ha : PE X a ta) (hb : PE X b tb) : PE X (.BinOp a op b pos) (tOp r ta tb) := by
 intro pins s σ H Q I h
 exact wpAny_BinOp (binT ha hb I h fun v u s2 x y H2 I2 rx ry q => ho pins s2 σ H2 x y v u Q I2 rx ry q)
theorem pe_un {op : UnaryOp} {r : V → Hp → VK → Prop} (ho : UnR X (unaryOp op) r) (ha : PE X a ta) : PE X (.UnaryOp op a pos) (tUn r ta) := by
 intro pins s σ H Q I h
 exact UnaryOp_ (thn (ha pins s σ H _ I h) fun v s1 ⟨x, H1, I1, r1, q1⟩ => ho pins s1 σ H1 x v Q I1 r1 q1)
theorem opI {f : Value → Value → Sem Value} {C : Int → Int → Prop} {g : Int → Int → Int}
  (rule : ∀ (i j : Int) (t u : Tok) (s : Shared) (Q : Value → Shared → Prop) (E : Value → Shared → Prop), C i j → Q (.int (g i j) s.toks) { s with toks := s.toks + 1 } → wpAny (model X.prog X.w) X.A (f (.int i t) (.int j u)) Q E s) :
  OpR X f (rI C fun i j => .int (g i j)) := by
 intro pins s σ H x y v u Q I rx ry h
 obtain ⟨i, j, rfl, rfl, hc, q⟩ := h
 obtain ⟨t, rfl⟩ := rx
 obtain ⟨t', rfl⟩ := ry
 exact rule i j t t' s _ _ hc ⟨.int (g i j), H, I.tok _, ⟨_, rfl⟩, q⟩
theorem opI0 {f : Value → Value → Sem Value} {g : Int → Int → Int}
  (rule : ∀ (i j : Int) (t u : Tok) (s : Shared) (Q : Value → Shared → Prop) (E : Value → Shared → Prop), Q (.int (g i j) s.toks) { s with toks := s.toks + 1 } → wpAny (model X.prog X.w) X.A (f (.int i t) (.int j u)) Q E s) :
  OpR X f (rI0 fun i j => .int (g i j)) := by
 intro pins s σ H x y v u Q I rx ry h
 obtain ⟨i, j, rfl, rfl, q⟩ := h
 obtain ⟨t, rfl⟩ := rx
 obtain ⟨t', rfl⟩ := ry
 exact rule i j t t' s _ _ ⟨.int (g i j), H, I.tok _, ⟨_, rfl⟩, q⟩
theorem opB0 {f : Value → Value → Sem Value} {g : Int → Int → Bool}
  (rule : ∀ (i j : Int) (t u : Tok) (s : Shared) (Q : Value → Shared → Prop) (E : Value → Shared → Prop), Q (.bool (g i j)) s → wpAny (model X.prog X.w) X.A (f (.int i t) (.int j u)) Q E s) :
  OpR X f (rI0 fun i j => .bl (g i j)) := by
 intro pins s σ H x y v u Q I rx ry h
 obtain ⟨i, j, rfl, rfl, q⟩ := h
 obtain ⟨t, rfl⟩ := rx
 obtain ⟨t', rfl⟩ := ry
 exact rule i j t t' s _ _ ⟨.bl (g i j), H, I, rfl, q⟩
def CDiv (i j : Int) : Prop := 0 < j ∧ j < 1073741824
def CPow (i j : Int) : Prop := 0 ≤ j ∧ j ≤ 1000000 ∧ i.natAbs < 2 ^ 64
def CMul (i j : Int) : Prop := (-(2 ^ 64) < i ∧ i < 2 ^ 64) ∨ (-(2 ^ 64) < j ∧ j < 2 ^ 64)
theorem CMul.ok {i j : Int} (h : CMul i j) : IntMulOk i j := by
 rcases h with ⟨h1, h2⟩ | ⟨h1, h2⟩
 ·exact .of_left (intBits_le_64 h1 h2)
 ·exact .of_right (intBits_le_64 h1 h2)
theorem op_add : OpR X (binaryOp .Add) (rI0 fun i j => .int (i + j)) := opI0 fun _ _ _ _ _ _ _ q => add_int q
theorem op_sub : OpR X (binaryOp .Sub) (rI0 fun i j => .int (i - j)) := opI0 fun _ _ _ _ _ _ _ q => sub_int q
theorem op_mul : OpR X (binaryOp .Mult) (rI CMul fun i j => .int (i * j)) := opI fun _ _ _ _ _ _ _ hc q => mul_int q hc.ok
theorem op_fdiv : OpR X (binaryOp .FloorDiv) (rI CDiv fun i j => .int (i / j)) := opI fun i j _ _ _ _ _ hc q => by
 have h1 : (0 : Int) < j := hc.1
 have h2 : j < 1073741824 := hc.2
 exact floordiv_int (by omega) (by rw [Int.fdiv_eq_ediv_of_nonneg i (by omega)]; exact q) (.inl (PyProof.noPylong_small (by omega)))
theorem op_mod : OpR X (binaryOp .Mod) (rI (fun _ j => 0 < j) fun i j => .int (i % j)) := opI fun i j _ _ _ _ _ hc q => by
 have h1 : (0 : Int) < j := hc
 exact mod_int' (by omega) (by rw [Int.fmod_eq_emod_of_nonneg i (by omega)]; exact q)
theorem op_modN : OpR X (binaryOp .Mod) (rI (fun _ j => j ≠ 0) fun i j => .int (i.fmod j)) := opI fun _ _ _ _ _ _ _ hc q => mod_int' hc q
theorem op_pow : OpR X (binaryOp .Pow) (rI CPow fun i j => .int (i ^ j.toNat)) := opI fun _ _ _ _ _ _ _ hc q => pow_int_small hc.1 hc.2.1 hc.2.2 q
theorem unI {f : Value → Sem Value} {g : Int → Int}
  (rule : ∀ (i : Int) (t : Tok) (s : Shared) (Q : Value → Shared → Prop) (E : Value → Shared → Prop), Q (.int (g i) s.toks) { s with toks := s.toks + 1 } → wpAny (model X.prog X.w) X.A (f (.int i t)) Q E s) :
  UnR X f (rU fun i => .int (g i)) := by
 intro pins s σ H x v Q I rx h
 obtain ⟨i, rfl, q⟩ := h
 obtain ⟨t, rfl⟩ := rx
 exact rule i t s _ _ ⟨.int (g i), H, I.tok _, ⟨_, rfl⟩, q⟩
theorem un_neg : UnR X (unaryOp .USub) (rU fun i => .int (-i)) := unI fun _ _ _ _ _ q => neg_int q
end
def scal : V → V → Bool
 | .non, .non => true | .non, .int _ => true | .int _, .non => true | .non, .bl _ => true | .bl _, .non => true | .non, .str _ => true | .str _, .non => true
 | .int _, .int _ => true | .bl _, .bl _ => true | .str _, .str _ => true | .byt _, .byt _ => true
 | .int _, .str _ => true | .str _, .int _ => true | .bl _, .str _ => true | .str _, .bl _ => true
 | _, _ => false
def rEq : R2 := fun x y H Q => scal x y = true ∧ Q (.bl (decide (x = y))) H
def rNe : R2 := fun x y H Q => scal x y = true ∧ Q (.bl (!decide (x = y))) H
theorem dec_int {i j : Int} : decide (V.int i = V.int j) = (i == j) := by
 rw [Bool.eq_iff_iff]
 simp
theorem dec_bl {i j : Bool} : decide (V.bl i = V.bl j) = (i == j) := by
 rw [Bool.eq_iff_iff]
 simp
theorem dec_str {i j : Str} : decide (V.str i = V.str j) = (i == j) := by
 rw [Bool.eq_iff_iff]
 simp
theorem dec_byt {i j : Array UInt8} : decide (V.byt i = V.byt j) = (i.toList == j.toList) := by
 rw [Bool.eq_iff_iff]
 cases i
 cases j
 simp
section
variable {X : Cx} {a b c : Expr} {ta tb tc : TE} {pos : Pos}
theorem fin_bl {pins : List (Addr × Obj)} {σ : St} {H : Hp} {s : Shared} {Q : VK} {k k' : Bool} (I : Inv X pins σ H s) (q : Q (.bl k) H) (e : k = k') : EP X pins σ Q (.bool k') s := by
 subst e
 exact ⟨.bl k, H, I, rfl, q⟩
theorem op_eq : OpR X (compareOp .Eq) rEq := by
 intro pins s σ H x y v u Q I rx ry h
 obtain ⟨hs, q⟩ := h
 cases x with
 | non =>
  cases rx
  cases y with
  | non => cases ry; exact PySem.EqNone.eq_none_none (fin_bl I q (by simp))
  | bl j => cases ry; exact PySem.EqNone.eq_none_bool (fin_bl I q (by simp))
  | int j => obtain ⟨t', rfl⟩ := ry; exact PySem.EqNone.eq_none_int (fin_bl I q (by simp))
  | str j => obtain ⟨t', rfl⟩ := ry; exact PySem.EqNone.eq_none_str (fin_bl I q (by simp))
  | _ => exact absurd (show false = true from hs) Bool.false_ne_true
 | bl i =>
  cases rx
  cases y with
  | non => cases ry; exact PySem.EqNone.eq_bool_none (fin_bl I q (by simp))
  | bl j => cases ry; exact eq_bool (fin_bl I q dec_bl)
  | str j => obtain ⟨t', rfl⟩ := ry; exact PySem.EqMixed.eq_bool_str (fin_bl I q (by simp))
  | _ => exact absurd (show false = true from hs) Bool.false_ne_true
 | int i =>
  obtain ⟨t, rfl⟩ := rx
  cases y with
  | non => cases ry; exact PySem.EqNone.eq_int_none (fin_bl I q (by simp))
  | int j => obtain ⟨t', rfl⟩ := ry; exact eq_int (fin_bl I q dec_int)
  | str j => obtain ⟨t', rfl⟩ := ry; exact PySem.EqMixed.eq_int_str (fin_bl I q (by simp))
  | _ => exact absurd (show false = true from hs) Bool.false_ne_true
 | str i =>
  obtain ⟨t, rfl⟩ := rx
  cases y with
  | non => cases ry; exact PySem.EqNone.eq_str_none (fin_bl I q (by simp))
  | bl j => cases ry; exact PySem.EqMixed.eq_str_bool (fin_bl I q (by simp))
  | int j => obtain ⟨t', rfl⟩ := ry; exact PySem.EqMixed.eq_str_int (fin_bl I q (by simp))
  | str j => obtain ⟨t', rfl⟩ := ry; exact eq_str (fin_bl I q dec_str)
  | _ => exact absurd (show false = true from hs) Bool.false_ne_true
 | byt i =>
  obtain ⟨t, rfl⟩ := rx
  cases y with
  | byt j => obtain ⟨t', rfl⟩ := ry; exact PySem.W.eq_bytes (fin_bl I q dec_byt)
  | _ => exact absurd (show false = true from hs) Bool.false_ne_true
 | _ => cases y <;> exact absurd (show false = true from hs) Bool.false_ne_true
theorem op_ne : OpR X (compareOp .NotEq) rNe := by
 intro pins s σ H x y v u Q I rx ry h
 obtain ⟨hs, q⟩ := h
 cases x with
 | non =>
  cases rx
  cases y with
  | non => cases ry; exact PySem.EqNone.ne_none_none (fin_bl I q (by simp))
  | bl j => cases ry; exact PySem.EqNone.ne_none_bool (fin_bl I q (by simp))
  | int j => obtain ⟨t', rfl⟩ := ry; exact PySem.EqNone.ne_none_int (fin_bl I q (by simp))
  | str j => obtain ⟨t', rfl⟩ := ry; exact PySem.EqNone.ne_none_str (fin_bl I q (by simp))
  | _ => exact absurd (show false = true from hs) Bool.false_ne_true
 | bl i =>
  cases rx
  cases y with
  | non => cases ry; exact PySem.EqNone.ne_bool_none (fin_bl I q (by simp))
  | bl j => cases ry; exact ne_bool (fin_bl I q (congrArg not dec_bl))
  | str j => obtain ⟨t', rfl⟩ := ry; exact PySem.EqMixed.ne_bool_str (fin_bl I q (by simp))
  | _ => exact absurd (show false = true from hs) Bool.false_ne_true
 | int i =>
  obtain ⟨t, rfl⟩ := rx
  cases y with
  | non => cases ry; exact PySem.EqNone.ne_int_none (fin_bl I q (by simp))
  | int j => obtain ⟨t', rfl⟩ := ry; exact ne_int (fin_bl I q (congrArg not dec_int))
  | str j => obtain ⟨t', rfl⟩ := ry; exact PySem.EqMixed.ne_int_str (fin_bl I q (by simp))
  | _ => exact absurd (show false = true from hs) Bool.false_ne_true
 | str i =>
  obtain ⟨t, rfl⟩ := rx
  cases y with
  | non => cases ry; exact PySem.EqNone.ne_str_none (fin_bl I q (by simp))
  | bl j => cases ry; exact PySem.EqMixed.ne_str_bool (fin_bl I q (by simp))
  | int j => obtain ⟨t', rfl⟩ := ry; exact PySem.EqMixed.ne_str_int (fin_bl I q (by simp))
  | str j => obtain ⟨t', rfl⟩ := ry; exact ne_str (fin_bl I q (congrArg not dec_str))
  | _ => exact absurd (show false = true from hs) Bool.false_ne_true
 | byt i =>
  obtain ⟨t, rfl⟩ := rx
  cases y with
  | byt j => obtain ⟨t', rfl⟩ := ry; exact PySem.W.ne_bytes (fin_bl I q (congrArg not dec_byt))
  | _ => exact absurd (show false = true from hs) Bool.false_ne_true
 | _ => cases y <;> exact absurd (show false = true from hs) Bool.false_ne_true
theorem op_lt : OpR X (compareOp .Lt) (rI0 fun i j => .bl (decide (i < j))) := opB0 fun _ _ _ _ _ _ _ q => lt_int q
theorem op_le : OpR X (compareOp .LtE) (rI0 fun i j => .bl (decide (i ≤ j))) := opB0 fun _ _ _ _ _ _ _ q => le_int q
theorem op_gt : OpR X (compareOp .Gt) (rI0 fun i j => .bl (decide (j < i))) := opB0 fun _ _ _ _ _ _ _ q => gt_int q
theorem op_ge : OpR X (compareOp .GtE) (rI0 fun i j => .bl (decide (j ≤ i))) := opB0 fun _ _ _ _ _ _ _ q => ge_int q
theorem op_in_str : OpR X (compareOp .In) (fun x y H Q => ∃ i j, x = .str i ∧ y = .str j ∧ Q (.bl (!(Builtin.Str.occurrences j i 0 j.length 1).isEmpty)) H) := by
 intro pins s σ H x y v u Q I rx ry h
 obtain ⟨i, j, rfl, rfl, q⟩ := h
 obtain ⟨t, rfl⟩ := rx
 obtain ⟨t', rfl⟩ := ry
 exact in_str (fin_bl I q rfl)
theorem op_isN : OpR X (compareOp .Is) (fun x y H Q => y = .non ∧ Q (.bl (decide (x = .non))) H) := by
 intro pins s σ H x y v u Q I rx ry h
 obtain ⟨rfl, q⟩ := h
 cases ry
 refine is_none_gen (fin_bl I q ?_)
 cases x <;> first
  | (cases rx; rfl)
  | (obtain ⟨t, rfl⟩ := rx; rfl)
theorem nomark (b : Expr) {op : CmpOp} (h : op ≠ .In := by decide) (h2 : op ≠ .NotIn := by decide) : behindInMarks op b = false := by
 have e1 : (op == CmpOp.In) = false := by cases op <;> first | rfl | exact absurd rfl h
 have e2 : (op == CmpOp.NotIn) = false := by cases op <;> first | rfl | exact absurd rfl h2
 cases b <;> simp [behindInMarks, e1, e2]
theorem pe_cmpR {op : CmpOp} {r : R2} (ho : OpR X (compareOp op) r) (ha : PE X a ta) (hb : PE X b tb) (hm : behindInMarks op b = false) : PE X (.Compare a [op] [b] pos) (tOp r ta tb) := by
 intro pins s σ H Q I h
 exact wpAny_Compare1 (binT ha hb I h fun v u s2 x y H2 I2 rx ry q => ho pins s2 σ H2 x y v u Q I2 rx ry q) hm
def tTest (t : TE) : TT := fun σ H Q => t σ H fun x H' => ∃ k, x = .bl k ∧ Q k H'
theorem pt_cmpR {op : CmpOp} {r : R2} (ho : OpR X (compareOp op) r) (ha : PE X a ta) (hb : PE X b tb) (hm : behindInMarks op b = false) : PT X (.Compare a [op] [b] pos) (tTest (tOp r ta tb)) := by
 intro pins s σ H Q I h
 refine wpAny_isTrue_Compare1 (thn (ha pins s σ H _ I h) fun v s1 ⟨x, H1, I1, r1, q1⟩ => thn (hb pins s1 σ H1 _ I1 q1) fun u s2 ⟨y, H2, I2, r2, q2⟩ =>
  thn (ho pins s2 σ H2 x y v u _ I2 r1 r2 q2) fun c s3 ⟨z, H3, I3, r3, k, e, q3⟩ => ?_) hm
 subst e
 cases r3
 exact wpAny_truthy_bool ⟨H3, I3, q3⟩
def tChain (r r' : R2) (ta tb tc : TE) : TE := fun σ H Q => ta σ H fun x H1 => tb σ H1 fun y H2 => r x y H2 fun z H3 => ∃ k, z = .bl k ∧
 (if k = true then tc σ H3 fun w' H4 => r' y w' H4 Q else Q (.bl false) H3)
theorem pe_chain {op op' : CmpOp} {r r' : R2} (ho : OpR X (compareOp op) r) (ho' : OpR X (compareOp op') r') (ha : PE X a ta) (hb : PE X b tb) (hc : PE X c tc)
  (hm : lastMarks [op, op'] [b, c] = false := by with_unfolding_all rfl) : PE X (.Compare a [op, op'] [b, c] pos) (tChain r r' ta tb tc) := by
 intro pins s σ H Q I h
 refine Compare_chain (thn (ha pins s σ H _ I h) fun v s1 ⟨x, H1, I1, r1, q1⟩ => chain_link (thn (hb pins s1 σ H1 _ I1 q1) fun u s2 ⟨y, H2, I2, r2, q2⟩ =>
  thn (ho pins s2 σ H2 x y v u _ I2 r1 r2 q2) fun d s3 ⟨z, H3, I3, r3, k, e, q3⟩ => ?_)) hm
 subst e
 cases r3
 refine wpAny_truthy_bool ?_
 cases k with
 | false => exact ite_ff ⟨.bl false, H3, I3, rfl, q3⟩
 | true => exact ite_tt (chain_last (thn (hc pins s3 σ H3 _ I3 q3) fun w' s4 ⟨z', H4, I4, r4, q4⟩ => ho' pins s4 σ H4 y z' u w' Q I4 r2 r4 q4))
theorem pt_chain {op op' : CmpOp} {r r' : R2} (ho : OpR X (compareOp op) r) (ho' : OpR X (compareOp op') r') (ha : PE X a ta) (hb : PE X b tb) (hc : PE X c tc)
  (hm : lastMarks [op, op'] [b, c] = false := by with_unfolding_all rfl) : PT X (.Compare a [op, op'] [b, c] pos) (tTest (tChain r r' ta tb tc)) := by
 intro pins s σ H Q I h
 refine isTrue_chain (thn (ha pins s σ H _ I h) fun v s1 ⟨x, H1, I1, r1, q1⟩ => test_link (thn (hb pins s1 σ H1 _ I1 q1) fun u s2 ⟨y, H2, I2, r2, q2⟩ =>
  thn (ho pins s2 σ H2 x y v u _ I2 r1 r2 q2) fun d s3 ⟨z, H3, I3, r3, k, e, q3⟩ => ?_)) hm
 subst e
 cases r3
 refine wpAny_truthy_bool ?_
 cases k with
 | false =>
  obtain ⟨k', e', q'⟩ := q3
  cases e'
  exact ite_ff ⟨H3, I3, q'⟩
 | true =>
  refine ite_tt (test_last (thn (hc pins s3 σ H3 _ I3 q3) fun w' s4 ⟨z', H4, I4, r4, q4⟩ => thn (ho' pins s4 σ H4 y z' u w' _ I4 r2 r4 q4) fun d' s5 ⟨z2, H5, I5, r5, k2, e2, q5⟩ => ?_))
  subst e2
  cases r5
  exact wpAny_truthy_bool ⟨H5, I5, q5⟩
def TruV (K : PySem.W.Frag) (x : V) (H : Hp) (k : Bool) : Prop :=
 match x with
 | .non => k = false
 | .bl b => k = b
 | .int i => k = (i != 0)
 | .str y => y.length ≤ sizeLine ∧ k = ((y.length : Int) != 0)
 | .byt y => y.size ≤ sizeLine ∧ k = ((y.size : Int) != 0)
 | .ref p => (∃ xs, SqL K H p xs ∧ k = !xs.isEmpty) ∨ (∃ xs, SqT K H p xs ∧ k = !xs.isEmpty) ∨ ∃ kvs, H p = some (.dK kvs) ∧ k = !kvs.isEmpty
 | _ => False
theorem line63 : (sizeLine : Nat) < 2 ^ 63 := by rw [sizeLine_eq]; decide
theorem op_add_str : OpR X (binaryOp .Add) (fun x y H Q => ∃ i j, x = .str i ∧ y = .str j ∧ i.length + j.length ≤ sizeLine ∧ Q (.str (i ++ j)) H) := by
 intro pins s σ H x y v u Q I rx ry h
 obtain ⟨i, j, rfl, rfl, hz, q⟩ := h
 obtain ⟨t, rfl⟩ := rx
 obtain ⟨t', rfl⟩ := ry
 exact add_str (fun t' tk => ⟨.str (i ++ j), H, I.tok _, ⟨_, rfl⟩, q⟩) hz
theorem vals1 {x : V} {us : List Value} (r : Vals [x] us) : ∃ u, us = [u] ∧ RelV x u := by
 cases r with
 | cons r1 r2 => cases r2; exact ⟨_, rfl, r1⟩
theorem vals2 {x y : V} {us : List Value} (r : Vals [x, y] us) : ∃ u w', us = [u, w'] ∧ RelV x u ∧ RelV y w' := by
 cases r with
 | cons r1 r2 =>
  cases r2 with
  | cons r3 r4 => cases r4; exact ⟨_, _, rfl, r1, r3⟩
theorem call_abs : CallR X (.builtin "abs") (fun xs H Q => ∃ i, xs = [.int i] ∧ Q (.int (if i < 0 then -i else i)) H) := by
 intro pins s σ H xs us Q I r h
 obtain ⟨i, rfl, q⟩ := h
 obtain ⟨u, rfl, t, rfl⟩ := vals1 r
 exact call_abs_int fun u tk => ⟨.int (if i < 0 then -i else i), H, I.tok _, ⟨_, rfl⟩, q⟩
theorem call_str_int : CallR X (.type "str") (fun xs H Q => ∃ i, xs = [.int i] ∧ i.natAbs.log2 < 1920 ∧ Q (.str (toString i)) H) := by
 intro pins s σ H xs us Q I r h
 obtain ⟨i, rfl, hz, q⟩ := h
 obtain ⟨u, rfl, t, rfl⟩ := vals1 r
 exact PySem.P.str_of_int hz ⟨.str _, H, I.tok _, ⟨_, rfl⟩, q⟩
end
end L2
namespace L2
open PySem PySem.Spec PyProof.Rows
structure ObjM (h : Heap) (x dx C : Addr) (mA : Str → Option Value) : Prop where
 obj : h.get? x = some (PySem.W.instObj C dx)
 ns : h.Ns1 dx mA
 ne : dx ≠ x
theorem lookIn_ns {h : Heap} {dx : Addr} {mA : Str → Option Value} (n : h.Ns1 dx mA) : ∃ od, h.get? dx = some od ∧ ∀ name, PySem.W.lookIn name od = some (mA name) := by
 obtain ⟨o, es, ep, ho, hd, hk, _, hm⟩ := n
 refine ⟨o, ho, fun name => ?_⟩
 have e := hm name
 unfold nsFind findBy at e
 rw [← Array.find?_toList] at e
 unfold PySem.W.lookIn
 rw [hd]
 dsimp only
 split
 ·rename_i y q
  rw [q] at e
  exact congrArg some e
 ·rename_i q
  rw [q] at e
  have a : es.toList.any (·.refKey) = false := by
   rw [List.any_eq_false]
   intro y hy
   obtain ⟨z, t, hkey⟩ := hk y (Array.mem_toList_iff.mp hy)
   simp [DictEntry.refKey, hkey]
  have a' : ¬ es.toList.any (·.refKey) = true := by rw [a]; exact Bool.false_ne_true
  rw [if_neg a']
  exact congrArg some e
theorem ObjM.look {h : Heap} {x dx C : Addr} {mA : Str → Option Value} (I : ObjM h x dx C mA) : ∃ od, PySem.W.InstAt h x (PySem.W.instObj C dx) C (some od) ∧ ∀ name, PySem.W.lookIn name od = some (mA name) :=
 let ⟨od, ho, hl⟩ := lookIn_ns I.ns
 ⟨od, ⟨I.obj, rfl, rfl, ho⟩, hl⟩
section
variable {prog : Program} {w : World} {A : Around} {E : Value → Shared → Prop} {s : Shared} {K : PySem.W.Frag} {x dx C f : Addr} {mA : Str → Option Value} {name : Str} {v : Value}
theorem get_map {expr : Bool} {Q : Value → Shared → Prop} (X : K.In s.heap) (I : ObjM s.heap x dx C mA) (hg : PySem.W.plainGet K C name = true) (hh : PySem.W.hasDictIn K C = true)
  (ha : PySem.W.findIn K (.ref C) name = some none) (hv : mA name = some v) (hv' : PySem.W.handedIn v = true) (h : Q v { s with toks := s.toks + 1 }) :
  wpAny (model prog w) A (getAttr (.ref x) name expr) Q E s := by
 obtain ⟨od, J, hl⟩ := I.look
 exact PySem.W.get_value X J (PySem.W.plainGet_of hg).1 (PySem.W.findObj_own hh ha rfl (by rw [hl, hv])) hv' h
theorem get_meth {pl : Sem Bool} {Q : Value × List Value → Shared → Prop} (X : K.In s.heap) (I : ObjM s.heap x dx C mA) (hg : PySem.W.plainGet K C name = true)
  (hf : PySem.W.findIn K (.ref C) name = some (some (.ref f))) (ht : PySem.W.isFn K (.ref f) = true) (hv : mA name = none) (h : Q (.ref f, [.ref x]) s) :
  wpAny (model prog w) A (getMethod (.ref x) name pl) Q E s := by
 obtain ⟨od, J, hl⟩ := I.look
 exact PySem.W.method_fn X J (PySem.W.plainGet_of hg).1 (PySem.W.plainGet_of hg).2 hf (beq_iff_eq.mp ht) (by show (PySem.W.lookIn name od).map (·.isSome) = some false; rw [hl, hv]; rfl) h
theorem set_map {ns : List Str} {Q : Unit → Shared → Prop} (X : K.In s.heap) (I : ObjM s.heap x dx C mA)
  (hs : PySem.W.findIn K (.ref C) "__setattr__" = some (some (.builtin "object.__setattr__"))) (hp : PySem.W.plainOver K C = true) (ht : PySem.W.takerIn K C name = some none) (hh : PySem.W.hasDictIn K C = true)
  (hw : PySem.Within mA ns) (hsz : ns.length ≤ sizeLine)
  (h : ∀ h', ObjM h' x dx C (fun y => if y = name then some v else mA y) → Heap.SameBut dx s.heap h' → Q () { s with heap := h', toks := s.toks + 2 }) :
  wpAny (model prog w) A (setAttr (.ref x) name v) Q E s := by
 obtain ⟨od, J, hl⟩ := I.look
 refine PySem.W.set_plain X J hs (PySem.W.osa_open (s := { s with toks := s.toks + 1 }) (r := none) X J hp ht fun b => ?_)
 obtain ⟨cd, hc, hd'⟩ := PySem.W.any_some hh
 have hx : s.heap.get? x = some ⟨.ref C, some dx, .plain, #[]⟩ := I.obj
 refine wpAny_bind (wpAny_pure (wpAny_bind (wpAny_bind (wpAny_loadPart hx (wpAny_bind (PySem.W.Looks.here (s := { s with toks := s.toks + 1 }) (PySem.W.looks_clsIn X hc) ?_))))))
 rw [hd']
 refine wpAny_pure (a := some dx) (wpAny_bind (wpAny_pure (wpAny_bind ?_)))
 refine wpAny_nsSet1 (s := { s with toks := s.toks + 1 }) I.ns fun h' hn2 hs2 => ?_
 obtain ⟨oD, esD, epD, hoD, hdD, hcD⟩ := hn2.count (PySem.Within.cons name v hw)
 refine wpAny_bind (wpAny_lookBehind hoD (by rw [hdD]; exact pastItsLine_dict (Nat.le_trans hcD (by rw [List.length_cons]; omega))) ?_)
 exact wpAny_pure (h _ ⟨(hs2.2 _ (Ne.symm I.ne)).trans I.obj, hn2, I.ne⟩ hs2)
theorem make_map {R : Result → Shared → Prop} {vs : List Value} {kw : List (Str × Value)} (X : K.In s.heap) (hm : PySem.W.makesIn K C = true)
  (hi : PySem.W.findIn K (.ref C) "__init__" = some (some (.ref f))) (hf : PySem.W.typeIn K (.ref f) = some (.type "function"))
  (h : codeAny (model prog w) (A.under (.builtin "type.__call__" ⟨.ref C :: vs, kw⟩)) (.call (.ref f) ⟨.ref (s.heap.objs.size + 1) :: vs, kw⟩) (PySem.W.InitBack (s.heap.objs.size + 1) R)
   { s with heap := (s.heap.push PySem.W.emptyDict).push (PySem.W.instObj C s.heap.objs.size) }) :
  codeAny (model prog w) A (.call (.ref C) ⟨vs, kw⟩) R s := by
 obtain ⟨hh, g, d, t, os⟩ := s
 exact PySem.W.make_core (PySem.W.makes_of X hm) (PySem.W.looks_findIn X hi) (fun self => PySem.W.bind_fn X self hf) (.inl rfl) h
end
def putF (f : Str) (v : V) : List (Str × V) → List (Str × V)
 | [] => [(f, v)]
 | (g, x) :: r => if g = f then (g, v) :: r else (g, x) :: putF f v r
theorem lookup_putF (f g : Str) (v : V) : ∀ fs : List (Str × V), (putF f v fs).lookup g = if g = f then some v else fs.lookup g
 | [] => by
  show List.lookup g [(f, v)] = _
  by_cases h : g = f
  ·have hb : (g == f) = true := beq_iff_eq.mpr h
   simp only [List.lookup, hb, if_pos h]
  ·have hb : (g == f) = false := beq_eq_false_iff_ne.mpr h
   simp only [List.lookup, hb, if_neg h]
 | (k, x) :: r => by
  have ih := lookup_putF f g v r
  rw [show putF f v ((k, x) :: r) = (if k = f then (k, v) :: r else (k, x) :: putF f v r) from rfl]
  by_cases hk : k = f
  ·rw [if_pos hk]
   by_cases h : g = k
   ·have hb : (g == k) = true := beq_iff_eq.mpr h
    simp only [List.lookup, hb, if_pos (h.trans hk)]
   ·have hb : (g == k) = false := beq_eq_false_iff_ne.mpr h
    simp only [List.lookup, hb, if_neg (fun e : g = f => h (e.trans hk.symm))]
  ·rw [if_neg hk]
   by_cases h : g = k
   ·have hb : (g == k) = true := beq_iff_eq.mpr h
    simp only [List.lookup, hb, if_neg (fun e : g = f => hk (h.symm.trans e))]
   ·have hb : (g == k) = false := beq_eq_false_iff_ne.mpr h
    simp only [List.lookup, hb]
    exact ih
theorem keys_putF (f : Str) (v : V) : ∀ fs : List (Str × V), f ∈ (putF f v fs).map (·.1) ∧ ∀ g, g ∈ fs.map (·.1) → g ∈ (putF f v fs).map (·.1)
 | [] => ⟨by simp [putF], fun g h => by simp at h⟩
 | (k, x) :: r => by
  obtain ⟨i1, i2⟩ := keys_putF f v r
  rw [show putF f v ((k, x) :: r) = (if k = f then (k, v) :: r else (k, x) :: putF f v r) from rfl]
  by_cases hk : k = f
  ·rw [if_pos hk]
   subst hk
   exact ⟨by simp, fun g h => by simpa using h⟩
  ·rw [if_neg hk]
   refine ⟨?_, fun g h => ?_⟩
   ·rw [List.map_cons]
    exact List.mem_cons_of_mem _ i1
   ·rw [List.map_cons] at h ⊢
    rcases List.mem_cons.mp h with e | e
    ·exact List.mem_cons.mpr (.inl e)
    ·exact List.mem_cons_of_mem _ (i2 g e)
theorem length_putF (f : Str) (v : V) : ∀ fs : List (Str × V), (putF f v fs).length ≤ fs.length + 1
 | [] => by simp [putF]
 | (k, x) :: r => by
  have ih := length_putF f v r
  rw [show putF f v ((k, x) :: r) = (if k = f then (k, v) :: r else (k, x) :: putF f v r) from rfl]
  by_cases hk : k = f
  ·rw [if_pos hk, List.length_cons, List.length_cons]; omega
  ·rw [if_neg hk, List.length_cons, List.length_cons]; omega
theorem RelO.some_of {v : V} {o : Option Value} (r : RelO (some v) o) : ∃ u, o = some u ∧ RelV v u := by
 cases o with
 | none => exact (show False from r).elim
 | some u => exact ⟨u, rfl, r⟩
theorem RelO.none_of {o : Option Value} (r : RelO none o) : o = none := by
 cases o with
 | none => rfl
 | some u => exact (show False from r).elim
theorem handed_of {v : V} {u : Value} (r : RelV v u) : PySem.W.handedIn u = true := by
 cases v with
 | non => cases (show u = Value.none from r); rfl
 | bl b => cases (show u = Value.bool b from r); rfl
 | int i => obtain ⟨t, e⟩ := (show ∃ t, u = Value.int i t from r); cases e; rfl
 | str x => obtain ⟨t, e⟩ := (show ∃ t, u = Value.str x t from r); cases e; rfl
 | byt b => obtain ⟨t, e⟩ := (show ∃ t, u = Value.bytes b t from r); cases e; rfl
 | flt b => obtain ⟨t, e⟩ := (show ∃ t, u = Value.float b t from r); cases e; rfl
 | ref a => cases (show u = Value.ref a from r); rfl
 | ty n => cases (show u = Value.type n from r); rfl
section
variable {P : Program} {w : World} {H H' : Hp} {h h' : Heap} {a C dx : Addr} {fs fs' : List (Str × V)}
theorem ins_get (hok : HOk P w H h) (e : H a = some (.ins C dx fs)) : ∃ mA, ObjM h a dx C mA ∧ (∀ f, RelO (fs.lookup f) (mA f)) ∧ PySem.Within mA (fs.map (·.1)) ∧ fs.length ≤ 1000 ∧ H dx = some (.own a) := by
 obtain ⟨d, z, ne, ob, mA, n, r, q⟩ := (show ObjOk P w H h a (.ins C dx fs) from hok a _ e)
 exact ⟨mA, ⟨ob, n, ne⟩, r, q, z, d⟩
end
structure Cls (K : PySem.W.Frag) (C : Addr) : Prop where
 pg : PySem.W.plainGet K C Str.empty = true
 hd : PySem.W.hasDictIn K C = true
 po : PySem.W.plainOver K C = true
 sa : PySem.W.findIn K (.ref C) "__setattr__" = some (some (.builtin "object.__setattr__"))
theorem Cls.get {K : PySem.W.Frag} {C : Addr} (c : Cls K C) (f : Str) : PySem.W.plainGet K C f = true := c.pg
def NoAttr (K : PySem.W.Frag) (C : Addr) (f : Str) : Prop := PySem.W.findIn K (.ref C) f = some none
theorem NoAttr.taker {K : PySem.W.Frag} {C : Addr} {f : Str} (n : NoAttr K C f) : PySem.W.takerIn K C f = some none := by
 unfold PySem.W.takerIn
 rw [show PySem.W.findIn K (.ref C) f = some none from n]
 rfl
structure Con (K : PySem.W.Frag) (C : Addr) (f : Str) (v : V) (u : Value) : Prop where
 at_ : PySem.W.findIn K (.ref C) f = some (some u)
 rel : RelV v u
 get : PySem.W.specialIn K u "__get__" = some none
 cp : PySem.W.copiedNames.contains f = false
structure Meth (K : PySem.W.Frag) (C : Addr) (m : Str) (f : Addr) : Prop where
 at_ : PySem.W.findIn K (.ref C) m = some (some (.ref f))
 fn : PySem.W.isFn K (.ref f) = true
 kp : PySem.W.keepIn K (.ref f) = true
section
variable {X : Cx} {pins : List (Addr × Obj)} {σ : St} {H : Hp} {s : Shared} {a C dx : Addr} {fs : List (Str × V)} {f : Str} {v : V} {A : Around} {E : Value → Shared → Prop}
theorem getattr_ok {b : Bool} {Q : Value → Shared → Prop} (I : Inv X pins σ H s) (e : H a = some (.ins C dx fs)) (c : Cls X.K C) (n : NoAttr X.K C f) (l : fs.lookup f = some v)
  (h : ∀ u s', Inv X pins σ H s' → RelV v u → Q u s') : wpAny (model X.prog X.w) A (getAttr (.ref a) f b) Q E s := by
 obtain ⟨mA, O, r, _, _, _⟩ := ins_get I.hok e
 obtain ⟨u, hu, ru⟩ := RelO.some_of (v := v) (o := mA f) (by rw [← l]; exact r f)
 exact get_map I.kIn O (c.get f) c.hd n hu (handed_of ru) (h u _ (I.tok _) ru)
theorem getmeth_ok {m : Str} {g : Addr} {pl : Sem Bool} {Q : Value × List Value → Shared → Prop} (I : Inv X pins σ H s) (e : H a = some (.ins C dx fs)) (c : Cls X.K C) (k : Meth X.K C m g) (l : fs.lookup m = none)
  (h : Q (.ref g, [.ref a]) s) : wpAny (model X.prog X.w) A (getMethod (.ref a) m pl) Q E s := by
 obtain ⟨mA, O, r, _, _, _⟩ := ins_get I.hok e
 have hn : mA m = none := RelO.none_of (by rw [← l]; exact r m)
 exact get_meth I.kIn O (c.get m) k.at_ k.fn hn h
theorem setattr_ok {y : V} {u : Value} {Q : Unit → Shared → Prop} (I : Inv X pins σ H s) (e : H a = some (.ins C dx fs)) (c : Cls X.K C) (n : NoAttr X.K C f) (hl : fs.length < 1000) (ry : RelV y u)
  (h : ∀ s', Inv X pins σ (upd H a (.ins C dx (putF f y fs))) s' → Q () s') : wpAny (model X.prog X.w) A (setAttr (.ref a) f u) Q E s := by
 obtain ⟨mA, O, r, wi, _, ho⟩ := ins_get I.hok e
 have hz : (fs.map (·.1)).length ≤ sizeLine := by rw [List.length_map, sizeLine_eq]; omega
 refine set_map I.kIn O c.sa c.po n.taker c.hd wi hz fun h' O' sb => h _ ?_
 have hd : ∃ o, h'.get? dx = some o := let ⟨o, _, _, e', _⟩ := O'.ns; ⟨o, e'⟩
 refine I.write (x := a) (e := dx) (by rw [e]; exact True.intro) (.inr ho) (fun b q hb z => (sb.2 b hb).trans z) hd ?_
 refine ⟨by rw [upd_ne O.ne]; exact ho, ?_, O.ne, O'.obj, _, O'.ns, fun g => ?_, fun g hg => ?_⟩
 ·have := length_putF f y fs; omega
 ·show RelO ((putF f y fs).lookup g) (if g = f then some u else mA g)
  rw [lookup_putF]
  by_cases q : g = f
  ·rw [if_pos q, if_pos q]; exact ry
  ·rw [if_neg q, if_neg q]; exact r g
 ·by_cases q : g = f
  ·rw [q]; exact (keys_putF f y fs).1
  ·refine (keys_putF f y fs).2 g (wi g fun z => hg ?_)
   show (if g = f then some u else mA g) = none
   rw [if_neg q]; exact z
theorem Inv.made (I : Inv X pins σ H s) : Inv X pins σ (upd (upd H s.heap.objs.size (.own (s.heap.objs.size + 1))) (s.heap.objs.size + 1) (.ins C s.heap.objs.size []))
  { s with heap := (s.heap.push PySem.W.emptyDict).push (PySem.W.instObj C s.heap.objs.size) } := by
 have e1 : (s.heap.push PySem.W.emptyDict).get? s.heap.objs.size = some PySem.W.emptyDict := Heap.get?_push_size s.heap rfl
 have e2 : ((s.heap.push PySem.W.emptyDict).push (PySem.W.instObj C s.heap.objs.size)).get? (s.heap.objs.size + 1) = some (PySem.W.instObj C s.heap.objs.size) := by
  have := Heap.get?_push_size (s.heap.push PySem.W.emptyDict) (o := PySem.W.instObj C s.heap.objs.size) rfl
  rwa [Heap.size_push] at this
 have e3 : (s.heap.push PySem.W.emptyDict).Ns s.heap.objs.size (fun _ => none) := ⟨PySem.W.emptyDict, #[], _, e1, rfl, (fun e he => absurd he (by simp)), fun _ => rfl⟩
 have I1 := I.laid (a := s.heap.objs.size) (o := .own (s.heap.objs.size + 1)) (h' := s.heap.push PySem.W.emptyDict) (t' := s.toks) (fun b u q => Heap.get?_push_of_some _ q) (Nat.le_refl _) ⟨_, e1⟩
 refine I1.laid (a := s.heap.objs.size + 1) (o := .ins C s.heap.objs.size []) (t' := s.toks) (fun b u q => Heap.get?_push_of_some _ q) (Nat.le_of_eq (Heap.size_push _ _)) ?_
 have ne : s.heap.objs.size ≠ s.heap.objs.size + 1 := Nat.ne_of_lt (Nat.lt_succ_self _)
 refine ⟨by rw [upd_ne ne, upd_same], Nat.zero_le _, ne, e2, fun _ => none, (Heap.Ns1.of_empty e3).at fun o q => Heap.get?_push_of_some _ q, fun _ => True.intro, fun y hy => absurd rfl hy⟩
theorem attr_of {prog : Program} {w : World} {env : Env} {e : Expr} {f : Str} {pos : Pos} {s : Shared} {Q : Value → Shared → Prop} (hb : attributeBase e f env (eval e env) = eval e env)
  (h : wpAny (model prog w) A (eval e env) (fun o s₁ => wpAny (model prog w) A (getAttr o f true) Q E s₁) E s) : wpAny (model prog w) A (eval (.Attribute e f pos) env) Q E s :=
 Attribute_any_ h (by rw [arm_eval_Attribute, hb])
end
def tFld (K : PySem.W.Frag) (ta : TE) (f : Str) : TE := fun σ H Q => ta σ H fun x H1 => ∃ a C dx fs v, x = .ref a ∧ H1 a = some (.ins C dx fs) ∧ Cls K C ∧ NoAttr K C f ∧ fs.lookup f = some v ∧ Q v H1
def sFld (K : PySem.W.Frag) (ta tv : TE) (f : Str) : TS := fun D σ H => tv σ H fun y H1 => ta σ H1 fun x H2 => ∃ a C dx fs, x = .ref a ∧ H2 a = some (.ins C dx fs) ∧ Cls K C ∧ NoAttr K C f ∧ fs.length < 1000 ∧
 D.nx σ (upd H2 a (.ins C dx (putF f y fs)))
section
variable {X : Cx} {o e value : Expr} {f : Str} {pos pos' tpos : Pos} {ta tv : TE}
theorem pe_fld (he : PE X e ta) (hb : attributeBase e f X.env (eval e X.env) = eval e X.env) : PE X (.Attribute e f pos) (tFld X.K ta f) := by
 intro pins s σ H Q I h
 refine attr_of hb (thn (he pins s σ H _ I h) fun u s1 ⟨x, H1, I1, rx, a, C, dx, fs, v, ex, ea, c, n, l, q⟩ => ?_)
 subst ex
 obtain rfl : u = Value.ref a := rx
 exact getattr_ok I1 ea c n l fun u' s2 I2 ru => ⟨v, H1, I2, ru, q⟩
theorem ps_fld (ha : PE X o ta) (hv : PE X value tv) (hs : swapsWith value (some (.Attribute o f pos')) pos.line X.env = pure false) : PS X (.Assign [.Attribute o f pos'] value pos) (sFld X.K ta tv f) := by
 intro pins s σ H D I h
 refine plainObj_wpAny_Assign_Attribute (thn (hv pins s σ H _ I h) fun u s1 ⟨y, H1, I1, ry, q⟩ => thn (ha pins s1 σ H1 _ I1 q) fun ov s2 ⟨x, H2, I2, rx, a, C, dx, fs, ex, ea, c, n, l, q2⟩ => ?_) hs
 subst ex
 obtain rfl : ov = Value.ref a := rx
 exact setattr_ok I2 ea c n l ry fun s3 I3 => ⟨σ, _, I3, q2⟩
end
section
variable {X : Cx} {pins : List (Addr × Obj)} {σ : St} {H : Hp} {s : Shared} {A : Around} {E : Value → Shared → Prop} {Q : Value → Shared → Prop} {c : Value} {b : Bool}
inductive TyOf (K : PySem.W.Frag) (H : Hp) : V → Value → Prop where
 | non : TyOf K H .non (.type "NoneType")
 | bl (x : Bool) : TyOf K H (.bl x) (.type "bool")
 | int (i : Int) : TyOf K H (.int i) (.type "int")
 | str (x : Str) : TyOf K H (.str x) (.type "str")
 | flt (x : UInt64) : TyOf K H (.flt x) (.type "float")
 | lst {a : Addr} {xs : List V} (e : H a = some (.lst xs)) : TyOf K H (.ref a) (.type "list")
 | frz {a : Addr} {o : Obj} {xs : List V} (e : H a = some (.frz o (.lst xs))) : TyOf K H (.ref a) (.type "list")
 | tup {a : Addr} {xs : List V} (e : H a = some (.tup xs)) : TyOf K H (.ref a) (.type "tuple")
 | dK {a : Addr} {kvs : List (Key × V)} (e : H a = some (.dK kvs)) : TyOf K H (.ref a) (.type "dict")
 | dT {a : Addr} {kvs : List (List Key × V)} (e : H a = some (.dT kvs)) : TyOf K H (.ref a) (.type "dict")
 | ins {a C dx : Addr} {fs : List (Str × V)} (e : H a = some (.ins C dx fs)) (cl : Cls K C) (ha : PySem.W.findIn K (.ref C) "__class__" = some (some (.builtin "object.__class__")))
   (hn : PySem.W.specialIn K (.builtin "object.__class__") "__get__" = some (some (.builtin "getset_descriptor.__get__"))) (htk : PySem.W.takesIn K (.builtin "object.__class__") = some true)
   (hm : PySem.W.mroIn K C (.type "object") = some true) : TyOf K H (.ref a) (.ref C)
theorem isinst_ok {x : V} {u t : Value} (I : Inv X pins σ H s) (rx : RelV x u) (ty : TyOf X.K H x t) (e : PySem.W.kitOne X.K t c = some b) (h : ∀ tk, Q (.bool b) { s with toks := tk }) :
  wpAny (model X.prog X.w) A (call (.builtin "isinstance") [u, c]) Q E s := by
 cases ty with
 | non => cases (show u = Value.none from rx); exact PySem.W.kia_one PySem.W.kitx_none I.kIn True.intro e (fun z => nomatch z) h
 | bl y => cases (show u = Value.bool y from rx); exact PySem.W.kia_one PySem.W.kitx_bool I.kIn True.intro e (fun z => nomatch z) h
 | int i => obtain ⟨t, q⟩ := (show ∃ t, u = Value.int i t from rx); cases q; exact PySem.W.kia_one PySem.W.kitx_int I.kIn True.intro e (fun z => nomatch z) h
 | str y => obtain ⟨t, q⟩ := (show ∃ t, u = Value.str y t from rx); cases q; exact PySem.W.kia_one PySem.W.kitx_str I.kIn True.intro e (fun z => nomatch z) h
 | flt y => obtain ⟨t, q⟩ := (show ∃ t, u = Value.float y t from rx); cases q; exact PySem.W.kia_one PySem.W.kitx_float I.kIn True.intro e (fun z => nomatch z) h
 | @lst a xs ea =>
  cases (show u = Value.ref a from rx)
  obtain ⟨_, _, n, _, h1⟩ := (show ObjOk X.prog X.w H s.heap a (.lst xs) from I.hok a _ ea)
  exact PySem.W.kia_one PySem.W.kitx_list I.kIn ⟨_, h1, rfl⟩ e (fun z => nomatch z) h
 | @frz a ob xs ea =>
  cases (show u = Value.ref a from rx)
  obtain ⟨_, _, _, n, _, h1⟩ := (show ObjOk X.prog X.w H s.heap a (.frz ob (.lst xs)) from I.hok a _ ea)
  exact PySem.W.kia_one PySem.W.kitx_list I.kIn ⟨_, h1, rfl⟩ e (fun z => nomatch z) h
 | @tup a xs ea =>
  cases (show u = Value.ref a from rx)
  obtain ⟨_, _, _, p⟩ := (show ObjOk X.prog X.w H s.heap a (.tup xs) from I.hok a _ ea)
  obtain ⟨o, h1, h2, _⟩ := p
  exact PySem.W.kia_one PySem.W.kitx_tuple I.kIn ⟨o, h1, h2⟩ e (fun z => nomatch z) h
 | @dK a kvs ea =>
  cases (show u = Value.ref a from rx)
  obtain ⟨_, _, vs, _, p⟩ := (show ObjOk X.prog X.w H s.heap a (.dK kvs) from I.hok a _ ea)
  obtain ⟨o, es, ep, h1, h2, _⟩ := p
  exact PySem.W.kia_one PySem.W.kitx_dict I.kIn ⟨o, h1, h2.1⟩ e (fun z => nomatch z) h
 | @dT a kvs ea =>
  cases (show u = Value.ref a from rx)
  obtain ⟨_, _, xs, _, o, es, ep, h1, h2, _⟩ := (show ObjOk X.prog X.w H s.heap a (.dT kvs) from I.hok a _ ea)
  exact PySem.W.kia_one PySem.W.kitx_dict I.kIn ⟨o, h1, h2.1⟩ e (fun z => nomatch z) h
 | @ins a C dx fs ea cl ha hn htk hm =>
  cases (show u = Value.ref a from rx)
  obtain ⟨mA, O, _⟩ := ins_get I.hok ea
  obtain ⟨od, J, _⟩ := O.look
  exact PySem.W.kia_one (PySem.W.kitx_own (cl.get _) cl.hd ha hn htk hm) I.kIn J e (fun z => nomatch z) h
end
end L2
namespace L2
open PySem PySem.Spec PyProof.Rows
structure Room (k : Nat) (A : Around) : Prop where
 hd : A.handled = none
 dp : A.depth + 3 * k + 5 < recursionLimit
 un : A.units + 16 * k + 200 < cLine
theorem Room.mono {j k : Nat} {A : Around} (r : Room k A) (h : j ≤ k) : Room j A := ⟨r.hd, by have := r.dp; omega, by have := r.un; omega⟩
theorem Room.deeper {k : Nat} {A : Around} (r : Room (k + 1) A) (env : Env) : Room k (A.deeper env) :=
 ⟨r.hd, by have := r.dp; show A.depth + 1 + 3 * k + 5 < _; omega, by have := r.un; show A.units + 3 + 16 * k + 200 < _; omega⟩
theorem make_depth {A : Around} {C : Addr} {us : List Value} {kw : List (Str × Value)} : (A.under (.builtin "type.__call__" ⟨.ref C :: us, kw⟩)).depth = A.depth + 1 := by
 first | rfl | simp [Around.under, Code.weight, Code.isCreation, Code.isGuard, Code.isCaller, Code.frames, Code.isFrame, guardIds]
theorem make_units {A : Around} {C : Addr} {us : List Value} {kw : List (Str × Value)} : (A.under (.builtin "type.__call__" ⟨.ref C :: us, kw⟩)).units = A.units + 1 := by
 first | rfl | simp [Around.under, Code.cUnits, Code.frames, Code.isFrame]
theorem Room.make {k : Nat} {A : Around} (r : Room (k + 1) A) (C : Addr) (us : List Value) (kw : List (Str × Value)) : Room k (A.under (.builtin "type.__call__" ⟨.ref C :: us, kw⟩)) :=
 ⟨r.hd, by have := r.dp; rw [make_depth]; omega, by have := r.un; rw [make_units]; omega⟩
theorem Room.depth {k : Nat} {A : Around} (r : Room k A) : A.depth < recursionLimit := by have := r.dp; omega
theorem Room.units {k : Nat} {A : Around} (r : Room k A) : A.units + 64 < cLine := by have := r.un; omega
def tNil : TA := fun _ H Q => Q [] H
def tCons (ta : TE) (tr : TA) : TA := fun σ H Q => ta σ H fun x H1 => tr σ H1 fun xs H2 => Q (x :: xs) H2
section
variable {X : Cx} {e : Expr} {es : List Expr} {te : TE} {t : TA} {pos : Pos}
theorem pa_nil : PA X [] tNil := fun _ _ _ _ H Q I h => Calls.spliced_nil ⟨[], H, I, .nil, h⟩
theorem pa_cons (ha : PE X e te) (hr : PA X es t) (hs : starEach (e :: es) X.env = (false, eval e X.env) :: starEach es X.env := by rfl) : PA X (e :: es) (tCons te t) := by
 intro pos pins s σ H Q I h
 rw [hs]
 show wpAny _ _ (spliced ((false, eval e X.env) :: backTo pos (starEach es X.env))) _ _ s
 refine Calls.spliced_cons (thn (ha pins s σ H _ I h) fun u s1 ⟨x, H1, I1, r1, q1⟩ => ?_)
 exact thn (hr pos pins s1 σ H1 _ I1 q1) fun us s2 ⟨xs, H2, I2, r2, q2⟩ => ⟨x :: xs, H2, I2, .cons r1 r2, q2⟩
end
abbrev Sp := List V → Hp → VK → XK → Prop
abbrev CXT := List Env → Hp → Shared → XK → Value → Shared → Prop
structure Env0 (P : Program) (w : World) (K : PySem.W.Frag) (mg : Str → Option Value) (base : Heap) (A : Around) (outer : List Env) (s : Shared) (H : Hp) : Prop where
 frames : A.frames = some outer
 mod : Mod K mg base
 bs : ∀ b o, base.get? b = some o → s.heap.get? b = some o ∧ H b = none
 bsz : base.objs.size ≤ s.heap.objs.size
 funs : s.heap.FunFrames base outer
 frf : ∀ b ∈ frs outer, H b = none
 hok : HOk P w H s.heap
 bare : AllBare s.gens
def CE (outer : List Env) (P : Program) (w : World) (H : Hp) (s : Shared) (Q : VK) (u : Value) (s' : Shared) : Prop :=
 ∃ v H', s'.os = s.os ∧ AllBare s'.gens ∧ Un (frs outer) [] H H' s.heap s'.heap ∧ HOk P w H' s'.heap ∧ RelV v u ∧ Q v H'
def CR (CX : CXT) (outer : List Env) (P : Program) (w : World) (H : Hp) (s : Shared) (Q : VK) (E : XK) (r : Result) (s' : Shared) : Prop :=
 match r with
 | .ok (.ret u) => CE outer P w H s Q u s'
 | .ok _ => False
 | .error e => CX outer H s E e s'
structure FnOk (P : Program) (w : World) (K : PySem.W.Frag) (mg : Str → Option Value) (base : Heap) (CX : CXT) (k : Nat) (f : Addr) (fd : FuncData) (ps : List Str) (sp : Sp) : Prop where
 len : ∀ vs H Q E, sp vs H Q E → vs.length = ps.length
 run : ∀ (A : Around) (outer : List Env) (s : Shared) (H : Hp) (args : Args) (us : List Value) (vs : List V) (Q : VK) (E : XK), Room k A → Env0 P w K mg base A outer s H → BindsTo s fd args (ps.zip us) → Vals vs us → sp vs H Q E →
  codeAny (model P w) A (.call (.ref f) args) (CR CX outer P w H s Q E) s
theorem FnOk.mono {P : Program} {w : World} {K : PySem.W.Frag} {mg : Str → Option Value} {base : Heap} {CX : CXT} {j k : Nat} {f : Addr} {fd : FuncData} {ps : List Str} {sp : Sp} (F : FnOk P w K mg base CX j f fd ps sp) (h : j ≤ k) :
  FnOk P w K mg base CX k f fd ps sp := ⟨F.len, fun A outer s H args us vs Q E hr => F.run A outer s H args us vs Q E (hr.mono h)⟩
theorem FnOk.imp {P : Program} {w : World} {K : PySem.W.Frag} {mg : Str → Option Value} {base : Heap} {CX : CXT} {k : Nat} {f : Addr} {fd : FuncData} {ps : List Str} {sp sp' : Sp} (F : FnOk P w K mg base CX k f fd ps sp)
  (h : ∀ vs H Q E, sp' vs H Q E → sp vs H Q E) : FnOk P w K mg base CX k f fd ps sp' :=
 ⟨fun vs H Q E q => F.len vs H Q E (h _ _ _ _ q), fun A outer s H args us vs Q E hr he hb hv hs => F.run A outer s H args us vs Q E hr he hb hv (h _ _ _ _ hs)⟩
theorem Env0.make {P : Program} {w : World} {K : PySem.W.Frag} {mg : Str → Option Value} {base : Heap} {A : Around} {outer : List Env} {s : Shared} {H : Hp} (e : Env0 P w K mg base A outer s H) (C : Addr) (us : List Value) (kw : List (Str × Value)) :
  Env0 P w K mg base (A.under (.builtin "type.__call__" ⟨.ref C :: us, kw⟩)) outer s H := ⟨by first | exact e.frames | (simpa [Around.under, Code.envs, Code.isFrame, pushEnvs] using e.frames), e.mod, e.bs, e.bsz, e.funs, e.frf, e.hok, e.bare⟩
section
variable {X : Cx} {pins : List (Addr × Obj)} {σ : St} {H : Hp} {s s' : Shared}
theorem Inv.env0 (I : Inv X pins σ H s) : Env0 X.prog X.w X.K X.mg X.base X.A X.stack s H :=
 ⟨I.ok.frames, I.ok.mod, I.bs, Nat.le_trans I.ok.bsz I.sz, I.stack, I.stkFree, I.hok, I.bare⟩
theorem Inv.after {Q : VK} {u : Value} (I : Inv X pins σ H s) (h : CE X.stack X.prog X.w H s Q u s') : EP X pins σ Q u s' := by
 obtain ⟨v, H', os, bare, un, hok, r, q⟩ := h
 obtain ⟨hh, g, d, t, os'⟩ := s'
 obtain rfl : os' = s.os := os
 exact ⟨v, H', I.call (h' := hh) (g' := g) (d' := d) (t' := t) (ch := []) un hok bare (fun b z => absurd z (by simp)), r, q⟩
end
def tCall (sp : Sp) (dvs : List V) (E : XK) (t : TA) : TE := fun σ H Q => t σ H fun vs H1 => sp (vs ++ dvs) H1 Q E
def tMeth (C : Addr) (m : Str) (sp : Sp) (dvs : List V) (E : XK) (ta : TE) (t : TA) : TE := fun σ H Q => ta σ H fun x H1 => ∃ a dx fs, x = .ref a ∧ H1 a = some (.ins C dx fs) ∧ fs.lookup m = none ∧
 t σ H1 fun vs H2 => sp (x :: (vs ++ dvs)) H2 Q E
def tMake (C : Addr) (sp : Sp) (dvs : List V) (E : XK) (t : TA) : TE := fun σ H Q => t σ H fun vs H1 => ∀ x dx, H1 x = none → H1 dx = none → dx ≠ x →
 sp (.ref x :: (vs ++ dvs)) (upd (upd H1 dx (.own x)) x (.ins C dx [])) (fun v H2 => v = .non ∧ Q (.ref x) H2) E
def Binds (K : PySem.W.Frag) (fd : FuncData) (ps : List Str) (ds : List Value) : Prop :=
 ∀ (s : Shared) (us : List Value), K.In s.heap → (us ++ ds).length = ps.length → BindsTo s fd ⟨us, []⟩ (ps.zip (us ++ ds))
theorem Binds.all {K : PySem.W.Frag} {fd : FuncData} {ps : List Str} (h : ∀ us : List Value, us.length = ps.length → bindArgs fd ⟨us, []⟩ = pure (ps.zip us)) : Binds K fd ps [] := fun s us _ hl => by
 rw [List.append_nil] at hl ⊢
 exact .of_eq (h us hl)
def Passes (CX : CXT) (X : Cx) (E : XK) : Prop := ∀ (pins : List (Addr × Obj)) (σ : St) (H : Hp) (s : Shared) (e : Value) (s' : Shared), Inv X pins σ H s → CX X.stack H s E e s' → X.xe e s'
section
variable {X : Cx} {CX : CXT} {k : Nat} {f C : Addr} {fd : FuncData} {ps : List Str} {sp : Sp} {dvs : List V} {ds : List Value} {E : XK} {x m : Str} {p pos apos : Pos} {e o : Expr} {es : List Expr} {ta : TE} {t : TA}
theorem run_fn {pins : List (Addr × Obj)} {σ : St} {H : Hp} {s : Shared} {Q : VK} {us : List Value} {vs : List V} (F : FnOk X.prog X.w X.K X.mg X.base CX k f fd ps sp) (hr : Room k X.A) (hb : Binds X.K fd ps ds) (hd : Vals dvs ds) (hx : Passes CX X E)
  (I : Inv X pins σ H s) (r : Vals vs us) (h : sp (vs ++ dvs) H Q E) : wpAny (model X.prog X.w) X.A (call (.ref f) us) (EP X pins σ Q) X.xe s := by
 have r2 : Vals (vs ++ dvs) (us ++ ds) := r.append hd
 have hl : (us ++ ds).length = ps.length := by rw [← r2.length]; exact F.len _ _ _ _ h
 refine wpAny_call (codeAny_mono (F.run X.A X.stack s H ⟨us, []⟩ (us ++ ds) (vs ++ dvs) Q E hr I.env0 (hb s us I.kIn hl) r2 h) fun r s' hq => ?_)
 cases r with
 | error e => exact hx pins σ H s e s' I hq
 | ok fl =>
  cases fl with
  | ret u => exact I.after hq
  | next => exact False.elim hq
  | brk => exact False.elim hq
  | cont => exact False.elim hq
theorem pe_call (F : FnOk X.prog X.w X.K X.mg X.base CX k f fd ps sp) (hr : Room k X.A) (hg : Gl X x) (hm : X.mg x = some (.ref f)) (hk : PySem.W.keepIn X.K (.ref f) = true) (hb : Binds X.K fd ps ds) (hd : Vals dvs ds) (hx : Passes CX X E)
  (ha : PA X (e :: es) t) (hdb : (x == ("__debug__" : Str)) = false := by decide) (he : starEach (e :: es) X.env = (false, eval e X.env) :: starEach es X.env := by rfl) (hpl : (backTo pos (starEach es X.env)).any (·.1) = false := by rfl) :
  PE X (.Call (.Name x p) (e :: es) [] pos) (tCall sp dvs E t) := by
 intro pins s σ H Q I h
 refine wpAny_Call_Name_kw (ld_glob I hg hm ?_ hdb)
 refine PySem.W.callWith_K (h₀ := X.base) I.ok.mod.kin hk (thn (ha pos pins s σ H _ I h) fun us s1 ⟨vs, H1, I1, r, q⟩ => ⟨I1.kIn, ?_⟩) he hpl
 exact run_fn F hr hb hd hx I1 r q
theorem pe_meth {pl : Sem Bool} (he : PE X o ta) (c : Cls X.K C) (hm : Meth X.K C m f) (F : FnOk X.prog X.w X.K X.mg X.base CX k f fd ps sp) (hr : Room k X.A) (hb : Binds X.K fd ps ds) (hd : Vals dvs ds) (hx : Passes CX X E) (ha : PA X (e :: es) t)
  (hst : starEach (e :: es) X.env = (false, eval e X.env) :: starEach es X.env := by rfl) (hpl : (backTo pos (starEach es X.env)).any (·.1) = false := by rfl)
  (ht : eval (.Call (.Attribute o m apos) (e :: es) [] pos) X.env = (do
   let ov ← eval o X.env
   standAt apos.atName
   let (f, first) ← holding [ov] (getMethod ov m pl)
   callWith pos f first (backTo pos (starEach (e :: es) X.env)) (backToKw pos (keywordEach [] X.env))) := by rfl) :
  PE X (.Call (.Attribute o m apos) (e :: es) [] pos) (tMeth C m sp dvs E ta t) := by
 intro pins s σ H Q I h
 refine PySem.W.methodCall_KW (pl := pl) (thn (he pins s σ H _ I h) fun u s1 ⟨x, H1, I1, rx, a, dx, fs, ex, ea, l, q⟩ => ?_) ht
 subst ex
 obtain rfl : u = Value.ref a := rx
 refine getmeth_ok I1 ea c hm l ?_
 refine PySem.W.callWith_K (first := [.ref a]) (h₀ := X.base) I.ok.mod.kin hm.kp (thn (ha pos pins s1 σ H1 _ I1 q) fun us s2 ⟨vs, H2, I2, r, q2⟩ => ⟨I2.kIn, ?_⟩) hst hpl
 exact run_fn (us := .ref a :: us) (vs := .ref a :: vs) F hr hb hd hx I2 (.cons rfl r) q2
theorem pe_meth0 {pl : Sem Bool} (he : PE X o ta) (c : Cls X.K C) (hm : Meth X.K C m f) (F : FnOk X.prog X.w X.K X.mg X.base CX k f fd ps sp) (hr : Room k X.A) (hb : Binds X.K fd ps ds) (hd : Vals dvs ds) (hx : Passes CX X E)
  (ht : eval (.Call (.Attribute o m apos) [] [] pos) X.env = (do
   let ov ← eval o X.env
   standAt apos.atName
   let (f, first) ← holding [ov] (getMethod ov m pl)
   callWith pos f first (backTo pos (starEach [] X.env)) (backToKw pos (keywordEach [] X.env))) := by rfl) :
  PE X (.Call (.Attribute o m apos) [] [] pos) (tMeth C m sp dvs E ta tNil) := by
 intro pins s σ H Q I h
 refine PySem.W.methodCall_KW (pl := pl) (thn (he pins s σ H _ I h) fun u s1 ⟨x, H1, I1, rx, a, dx, fs, ex, ea, l, q⟩ => ?_) ht
 subst ex
 obtain rfl : u = Value.ref a := rx
 refine getmeth_ok I1 ea c hm l ?_
 exact PySem.W.callWith_K0 (first := [.ref a]) I1.kIn hm.kp (run_fn (us := [.ref a]) (vs := [.ref a]) F hr hb hd hx I1 (.cons rfl .nil) q)
structure Mk (K : PySem.W.Frag) (C f : Addr) : Prop where
 makes : PySem.W.makesIn K C = true
 init : PySem.W.findIn K (.ref C) "__init__" = some (some (.ref f))
 fn : PySem.W.isFn K (.ref f) = true
 kp : PySem.W.keepIn K (.ref C) = true
theorem run_make {pins : List (Addr × Obj)} {σ : St} {H : Hp} {s : Shared} {Q : VK} {us : List Value} {vs : List V} (M : Mk X.K C f) (F : FnOk X.prog X.w X.K X.mg X.base CX k f fd ps sp) (hr : Room (k + 1) X.A) (hb : Binds X.K fd ps ds) (hd : Vals dvs ds)
  (hx : Passes CX X E) (I : Inv X pins σ H s) (r : Vals vs us)
  (h : ∀ x dx, H x = none → H dx = none → dx ≠ x → sp (.ref x :: (vs ++ dvs)) (upd (upd H dx (.own x)) x (.ins C dx [])) (fun v H2 => v = .non ∧ Q (.ref x) H2) E) :
  wpAny (model X.prog X.w) X.A (call (.ref C) us) (EP X pins σ Q) X.xe s := by
 have hq := h (s.heap.objs.size + 1) s.heap.objs.size (I.hok.fresh (Nat.le_succ _)) (I.hok.fresh (Nat.le_refl _)) (Nat.ne_of_lt (Nat.lt_succ_self _))
 have I2 := Inv.made (C := C) I
 have r2 : Vals (V.ref (s.heap.objs.size + 1) :: (vs ++ dvs)) (Value.ref (s.heap.objs.size + 1) :: (us ++ ds)) := .cons rfl (r.append hd)
 have hl : (Value.ref (s.heap.objs.size + 1) :: us ++ ds).length = ps.length := by
  have e := r2.length
  rw [F.len _ _ _ _ hq] at e
  exact e.symm
 refine wpAny_call (make_map (f := f) I.kIn M.makes M.init (beq_iff_eq.mp M.fn) (codeAny_mono (F.run _ X.stack _ _ ⟨Value.ref (s.heap.objs.size + 1) :: us, []⟩ (Value.ref (s.heap.objs.size + 1) :: (us ++ ds)) _ _ E (hr.make C us [])
  (I2.env0.make C us []) (hb _ (Value.ref (s.heap.objs.size + 1) :: us) I2.kIn hl) r2 hq) fun r s' hq' => ?_))
 cases r with
 | error e => exact hx pins σ _ _ e s' I2 hq'
 | ok fl =>
  cases fl with
  | ret u =>
   obtain ⟨v, H', I3, rv, ev, q3⟩ := I2.after hq'
   subst ev
   exact ⟨rv, ⟨V.ref (s.heap.objs.size + 1), H', I3, rfl, q3⟩⟩
  | next => exact False.elim hq'
  | brk => exact False.elim hq'
  | cont => exact False.elim hq'
theorem pe_make (M : Mk X.K C f) (F : FnOk X.prog X.w X.K X.mg X.base CX k f fd ps sp) (hr : Room (k + 1) X.A) (hg : Gl X x) (hm : X.mg x = some (.ref C)) (hb : Binds X.K fd ps ds) (hd : Vals dvs ds) (hx : Passes CX X E)
  (ha : PA X (e :: es) t) (hdb : (x == ("__debug__" : Str)) = false := by decide) (he : starEach (e :: es) X.env = (false, eval e X.env) :: starEach es X.env := by rfl) (hpl : (backTo pos (starEach es X.env)).any (·.1) = false := by rfl) :
  PE X (.Call (.Name x p) (e :: es) [] pos) (tMake C sp dvs E t) := by
 intro pins s σ H Q I h
 refine wpAny_Call_Name_kw (ld_glob I hg hm ?_ hdb)
 refine PySem.W.callWith_K (h₀ := X.base) I.ok.mod.kin M.kp (thn (ha pos pins s σ H _ I h) fun us s1 ⟨vs, H1, I1, r, q⟩ => ⟨I1.kIn, ?_⟩) he hpl
 exact run_make M F hr hb hd hx I1 r q
end
section
variable {X : Cx} {CX : CXT} {k : Nat} {f C : Addr} {fd : FuncData} {ps ks : List Str} {sp : Sp} {E : XK} {x m : Str} {p pos apos kpos : Pos} {e o : Expr} {es : List Expr} {kws : List Keyword} {te ta : TE} {t tk : TA} {nm : Option Str}
structure KBinds (K : PySem.W.Frag) (fd : FuncData) (ps ks : List Str) (g : List Value → List Value → List Value) (gV : List V → List V → List V) : Prop where
 to : ∀ (s : Shared) (us ws : List Value), K.In s.heap → (g us ws).length = ps.length → BindsTo s fd ⟨us, ks.zip ws⟩ (ps.zip (g us ws))
 rel : ∀ {vs : List V} {us : List Value} {zs : List V} {ws : List Value}, Vals vs us → Vals zs ws → Vals (gV vs zs) (g us ws)
variable {g : List Value → List Value → List Value} {gV : List V → List V → List V}
end
structure FnScope (N P : List Str) (sc : Scope) : Prop where
 kind : sc.kind = .function
 co : sc.isCoroutine = false
 gen : sc.isGenerator = false
 nd : N.Nodup
 pre : N.take P.length = P
 par : ∀ x ∈ P, sc.names.lookup x = some .local ∨ sc.names.lookup x = some .cell
 nofree : ∀ y ∈ sc.names, y.2 ≠ .free
theorem bindL_out {kindOf : Str → Option NameKind} {x : Str} : ∀ {binds : List (Str × Value)} {m : Str → Option Value}, (∀ v, (x, v) ∉ binds) → bindL kindOf binds m x = m x
 | [], _, _ => rfl
 | (n, v) :: r, m, h => by
  unfold bindL
  rw [bindL_out fun w hw => h w (List.mem_cons_of_mem _ hw)]
  split
  ·have : x ≠ n := by rintro rfl; exact h v List.mem_cons_self
   simp [this]
  ·rfl
theorem bindC_out {kindOf : Str → Option NameKind} {x : Str} : ∀ {binds : List (Str × Value)} {m : Str → Option Value}, (∀ v, (x, v) ∉ binds) → bindC kindOf binds m x = m x
 | [], _, _ => rfl
 | (n, v) :: r, m, h => by
  unfold bindC
  rw [bindC_out fun w hw => h w (List.mem_cons_of_mem _ hw)]
  split
  ·rfl
  ·have : x ≠ n := by rintro rfl; exact h v List.mem_cons_self
   simp [this]
theorem bindL_get {kindOf : Str → Option NameKind} {x : Str} {v : Value} : ∀ {P : List Str} {vs : List Value} {i : Nat} {m : Str → Option Value}, P.Nodup → P[i]? = some x → vs[i]? = some v → kindOf x = some .local →
  bindL kindOf (P.zip vs) m x = some v
 | [], _, _, _, _, h, _, _ => by simp at h
 | _ :: _, [], _, _, _, _, h, _ => by simp at h
 | p :: P, w :: vs, 0, m, nd, h1, h2, hk => by
  simp at h1 h2; subst h1; subst h2
  show bindL kindOf ((p, w) :: P.zip vs) m p = _
  unfold bindL
  rw [bindL_out fun v hv => (List.nodup_cons.mp nd).1 (List.of_mem_zip hv).1, if_pos hk]
  simp
 | p :: P, w :: vs, i + 1, m, nd, h1, h2, hk => by
  show bindL kindOf ((p, w) :: P.zip vs) m x = _
  unfold bindL
  exact bindL_get (i := i) (List.nodup_cons.mp nd).2 (by simpa using h1) (by simpa using h2) hk
theorem bindC_get {kindOf : Str → Option NameKind} {x : Str} {v : Value} : ∀ {P : List Str} {vs : List Value} {i : Nat} {m : Str → Option Value}, P.Nodup → P[i]? = some x → vs[i]? = some v → kindOf x ≠ some .local →
  bindC kindOf (P.zip vs) m x = some v
 | [], _, _, _, _, h, _, _ => by simp at h
 | _ :: _, [], _, _, _, _, h, _ => by simp at h
 | p :: P, w :: vs, 0, m, nd, h1, h2, hk => by
  simp at h1 h2; subst h1; subst h2
  show bindC kindOf ((p, w) :: P.zip vs) m p = _
  unfold bindC
  rw [bindC_out fun v hv => (List.nodup_cons.mp nd).1 (List.of_mem_zip hv).1, if_neg hk]
  simp
 | p :: P, w :: vs, i + 1, m, nd, h1, h2, hk => by
  show bindC kindOf ((p, w) :: P.zip vs) m x = _
  unfold bindC
  exact bindC_get (i := i) (List.nodup_cons.mp nd).2 (by simpa using h1) (by simpa using h2) hk
def start (N : List Str) (vs : List V) : St := vs.map some ++ List.replicate (N.length - vs.length) none
def cxOf (CX : CXT) (P : Program) (w : World) (K : PySem.W.Frag) (mg : Str → Option Value) (base : Heap) (N : List Str) (qual : Str) (scope : Scope) (f : Addr) (cd : Value) (A : Around) (outer : List Env) (s : Shared) (H : Hp) (E : XK) : Cx where
 prog := P
 w := w
 K := K
 mg := mg
 base := base
 A := A.deeper (envOfC qual scope s.heap.objs.size f cd)
 N := N
 s₀ := s
 H₀ := H
 env := envOfC qual scope s.heap.objs.size f cd
 outer := outer
 stack := envOfC qual scope s.heap.objs.size f cd :: outer
 ex := []
 calm := true
 fn := fun _ => true
 pn := []
 xe := fun e s' => wpAny (model P w) (A.deeper (envOfC qual scope s.heap.objs.size f cd)) (leaving (envOfC qual scope s.heap.objs.size f cd) e) (fun _ s'' => CX outer H s E e s'') (fun e' s'' => CX outer H s E e' s'') s'
theorem cell_has {sc : Scope} {n : Nat} {x : Str} (h : sc.names.lookup x = some .cell) : ∃ c, (cellsFrom n sc.names []).lookup x = some c := by
 have q := PySem.W.cellsFrom_some sc.names n [] (.inl h)
 exact Option.isSome_iff_exists.mp q
theorem inv_start {CX : CXT} {P : Program} {w : World} {K : PySem.W.Frag} {mg : Str → Option Value} {base : Heap} {N ps : List Str} {qual : Str} {scope : Scope} {f : Addr} {cd : Value} {A : Around} {outer : List Env} {s s1 : Shared} {H : Hp} {E : XK} {us : List Value} {vs : List V}
  (S : FnScope N ps scope) (hd : A.handled = none) (e0 : Env0 P w K mg base A outer s H) (hl : vs.length = ps.length) (r : Vals vs us)
  (x : InCallC s s.heap.objs.size (bindL (envOfC qual scope s.heap.objs.size f cd).kindOf (ps.zip us) fun _ => none) (cellsFrom (s.heap.objs.size + 1) scope.names []) (bindC (envOfC qual scope s.heap.objs.size f cd).kindOf (ps.zip us) fun _ => none) s1) :
  Inv (cxOf CX P w K mg base N qual scope f cd A outer s H E) [] (start N vs) H s1 := by
 have hpl : ps.length ≤ N.length := by have := congrArg List.length S.pre; rw [List.length_take] at this; omega
 obtain ⟨h1, tk, rfl, hk⟩ := x.done
 have noA : ∀ b : Addr, b ∉ (cxOf CX P w K mg base N qual scope f cd A outer s H E).ex := fun b z => absurd (show b ∈ ([] : List Addr) from z) (by simp)
 refine ⟨⟨e0.mod, S.kind, rfl, rfl, Nat.le_refl _, fun y z c h1 h2 => ?_, fun y hy => ?_, fun y c _ h => ?_, fun _ => hd, Around.frames_deeper e0.frames, .inr ⟨rfl, rfl⟩, fun b z => absurd z (noA b), e0.bs, e0.bsz, fun b _ _ => noA b, fun b z => absurd z (noA b), e0.funs, e0.frf⟩,
  rfl, e0.bare, Un.kept hk, ⟨_, x.toInCall.ns, fun i y v h1 h2 h3 => ?_⟩, fun y c h => ⟨_, x.cell y c h⟩, e0.hok.fresh (Nat.le_refl _), fun y c h => ?_, fun p hp => absurd (show p ∈ ([] : List (Addr × Obj)) from hp) (by simp), e0.hok.kept hk, ?_⟩
 ·exact name_of_addr x.apart (PySem.mem_of_lookup h1) (PySem.mem_of_lookup h2)
 ·have hy : scope.names.lookup y = some .cell ∨ scope.names.lookup y = some .free := hy
  rcases hy with hy | hy
  ·exact cell_has hy
  ·exact absurd rfl (S.nofree _ (PySem.mem_of_lookup hy))
 ·exact Nat.le_of_lt (x.above y c (PySem.mem_of_lookup h))
 ·have hi : i < vs.length := by
   unfold start at h2
   by_cases hi : i < vs.length
   ·exact hi
   ·rw [List.getElem?_append_right (by simpa using hi)] at h2
    rw [List.getElem?_replicate] at h2
    split at h2 <;> cases h2
  have ha : vs[i]? = some v := by
   unfold start at h2
   rw [List.getElem?_append_left (by simpa using hi), List.getElem?_map] at h2
   cases e : vs[i]? with
   | none => rw [e] at h2; cases h2
   | some a => rw [e] at h2; cases h2; rfl
  obtain ⟨u, hu, rv⟩ := r.get ha
  have hp : ps[i]? = some y := by
   rw [← S.pre, List.getElem?_take_of_lt (by omega)]; exact h1
  have ndP : ps.Nodup := by rw [← S.pre]; exact S.nd.sublist (List.take_sublist _ _)
  refine ⟨u, rv, ?_⟩
  rcases S.par y (List.mem_of_getElem? hp) with k | k
  ·exact .inl ⟨k, bindL_get ndP hp hu k⟩
  ·obtain ⟨c, e⟩ := cell_has (n := s.heap.objs.size + 1) k
   refine .inr ⟨.inl k, c, e, ?_⟩
   have q := x.cell y c e
   rw [bindC_get ndP hp hu (by show scope.names.lookup y ≠ _; rw [k]; decide)] at q
   exact q
 ·exact e0.hok.fresh (Nat.le_of_lt (x.above y c (PySem.mem_of_lookup h)))
 ·unfold start
  show _ = N.length
  rw [List.length_append, List.length_map, List.length_replicate]
  omega
theorem fn_of {CX : CXT} {P : Program} {w : World} {K : PySem.W.Frag} {mg : Str → Option Value} {base : Heap} {k : Nat} {f : Addr} {name qual : Str} {params : Arguments} {body : List Stmt} {scope : Scope} {dV kV doc pm cdv ct oc : Value} {an od : Option Addr}
  {osl : Array (Option Value)} {N ps : List Str} {sp : Sp} (lk : K.lookup f = some ⟨oc, od, .func (PySem.W.fnOf name qual params body scope dV kV doc pm an cdv ct), osl⟩) (hcd : PySem.W.codeIn K cdv qual = true) (S : FnScope N ps scope)
  (len : ∀ vs H Q E, sp vs H Q E → vs.length = ps.length)
  (hbody : ∀ (A : Around) (outer : List Env) (s : Shared) (H : Hp) (vs : List V) (Q : VK) (E : XK), Room k (A.deeper (envOfC qual scope s.heap.objs.size f cdv)) → sp vs H Q E →
   ∃ t, PSs (cxOf CX P w K mg base N qual scope f cdv A outer s H E) body t ∧ t { nx := fun _ H' => Q .non H', rt := Q } (start N vs) H) :
  FnOk P w K mg base CX (k + 1) f (PySem.W.fnOf name qual params body scope dV kV doc pm an cdv ct) ps sp := by
 refine ⟨len, fun A outer s H args us vs Q E hr e0 hb r hsp => ?_⟩
 have hl := len _ _ _ _ hsp
 have KX : K.In s.heap := e0.mod.kin.keeps fun b o e => (e0.bs b o e).1
 have lim : s.heap.NoLimit := e0.mod.nolimit.keeps fun b o e => (e0.bs b o e).1
 have hkind : ∀ y ∈ ps.zip us, scope.names.lookup y.1 = some .local ∨ (scope.names.lookup y.1 = some .cell ∧ ((cellsFrom (s.heap.objs.size + 1) scope.names []).lookup y.1).isSome = true) := fun ⟨n, v⟩ hy => by
  rcases S.par n (List.of_mem_zip hy).1 with q | q
  ·exact .inl q
  ·exact .inr ⟨q, PySem.W.cellsFrom_some _ _ _ (.inl q)⟩
 refine codeAny_call_function hr.depth (KX _ _ lk) rfl S.co S.gen rfl (PySem.W.codeRec_of KX hcd) (hb _ _ _ _ ?_)
 refine wpAny_newFunctionEnv_cells S.kind hkind fun env he s1 x => ?_
 subst he
 refine ⟨lim.keeps x.toInCall.keep, codeAny_func ?_⟩
 obtain ⟨t, ht, hq⟩ := hbody A outer s H vs Q E (hr.deeper _) hsp
 have I : Inv (cxOf CX P w K mg base N qual scope f cdv A outer s H E) [] (start N vs) H s1 := inv_start S hr.hd e0 hl r x
 refine wpAny_mono (ht [] s1 (start N vs) H _ I hq) (fun fl s' hs => ?_) fun e s' hs => hs
 have fin : ∀ {σ' : St} {H' : Hp} {v : V} {u : Value}, Inv (cxOf CX P w K mg base N qual scope f cdv A outer s H E) [] σ' H' s' → RelV v u → Q v H' → CE outer P w H s Q u s' :=
  fun {σ' H' v u} J rv q => ⟨v, H', J.os, J.bare, J.base, J.hok, rv, q⟩
 cases fl with
 | ret u =>
  obtain ⟨v, σ', H', J, rv, q⟩ := hs
  exact fin J rv q
 | next =>
  obtain ⟨σ', H', J, q⟩ := hs
  exact fin (v := V.non) (u := Value.none) J rfl q
 | brk =>
  obtain ⟨_, _, _, q⟩ := hs
  exact False.elim q
 | cont =>
  obtain ⟨_, _, _, q⟩ := hs
  exact False.elim q
end L2
namespace L2
open PySem PySem.Spec PyProof.Rows
section
variable {X : Cx} {x : Str} {p pos : Pos} {e : Expr} {es : List Expr} {t : TA} {id T : String} {r : List V → Hp → VK → Prop}
def tCB (r : List V → Hp → VK → Prop) (t : TA) : TE := fun σ H Q => t σ H fun vs H1 => r vs H1 Q
theorem pe_callB (hc : CallR X (.builtin id) r) (hg : Gl X x) (hm : X.mg x = none) (hv : bootBuiltins x = some (.builtin id)) (ha : PA X (e :: es) t) (hn : x ≠ "__name__" := by decide) (hdb : (x == ("__debug__" : Str)) = false := by decide)
  (he : starEach (e :: es) X.env = (false, eval e X.env) :: starEach es X.env := by rfl) (hpl : (backTo pos (starEach es X.env)).any (·.1) = false := by rfl) : PE X (.Call (.Name x p) (e :: es) [] pos) (tCB r t) := by
 intro pins s σ H Q I h
 refine wpAny_Call_Name_kw (ld_blt I hg hm hv ?_ hn hdb)
 exact PyProof.Rows.callWith_builtin1 (thn (ha pos pins s σ H _ I h) fun us s1 ⟨vs, H1, I1, r1, q1⟩ => hc pins s1 σ H1 vs us Q I1 r1 q1) he hpl
theorem pe_callTy (hc : CallR X (.type T) r) (hg : Gl X x) (hm : X.mg x = none) (hv : bootBuiltins x = some (.type T)) (ha : PA X (e :: es) t) (hn : x ≠ "__name__" := by decide) (hdb : (x == ("__debug__" : Str)) = false := by decide)
  (he : starEach (e :: es) X.env = (false, eval e X.env) :: starEach es X.env := by rfl) (hpl : (backTo pos (starEach es X.env)).any (·.1) = false := by rfl) : PE X (.Call (.Name x p) (e :: es) [] pos) (tCB r t) := by
 intro pins s σ H Q I h
 refine wpAny_Call_Name_kw (ld_blt I hg hm hv ?_ hn hdb)
 exact PyProof.Rows.callWith_type1 (thn (ha pos pins s σ H _ I h) fun us s1 ⟨vs, H1, I1, r1, q1⟩ => hc pins s1 σ H1 vs us Q I1 r1 q1) he hpl
end
end L2
namespace HT
open PySem PyProof.Rows
section
open PySem.SeqAt
open PySem.AutoSeq1 (wpAny_loadPart')
open PySem.MeetsSeq PySem.MeetsSeq2 PySem.MeetsSeq3
end
section
variable {prog : Program} {w : World} {A : Around} {E : Value → Shared → Prop} {s : Shared}
def sIx (n d : Nat) : Option Int → Nat
 | none => d
 | some v => if v < 0 then (v + (n : Int)).toNat else min v.toNat n
end
end HT
namespace L2
open PySem PySem.Spec PyProof.Rows
abbrev TO := St → Hp → (Option Int → Hp → Prop) → Prop
def PO (X : Cx) (e : Option Expr) (t : TO) : Prop :=
 ∀ (pins : List (Addr × Obj)) (s : Shared) (σ : St) (H : Hp) (Q : Option Int → Hp → Prop), Inv X pins σ H s → t σ H Q →
  wpAny (model X.prog X.w) X.A (evalPart e X.env) (fun u s' => ∃ o H', Inv X pins σ H' s' ∧ IsPart u o ∧ Q o H') X.xe s
def tNoPart : TO := fun _ H Q => Q none H
def tPart (t : TE) : TO := fun σ H Q => t σ H fun x H1 => ∃ i, x = .int i ∧ Q (some i) H1
section
variable {X : Cx} {e : Expr} {te : TE} {lo hi : Option Expr} {tl th : TO} {pos p2 : Pos}
theorem po_none : PO X none tNoPart := by
 intro pins s σ H Q I h
 rw [evalPart_none]
 exact wpAny_pure ⟨none, H, I, .none, h⟩
theorem po_some (h : PE X e te) : PO X (some e) (tPart te) := by
 intro pins s σ H Q I hw
 rw [evalPart_some]
 refine thn (h pins s σ H _ I hw) fun u s1 ⟨x, H1, I1, r1, q1⟩ => ?_
 obtain ⟨i, rfl, q⟩ := q1
 obtain ⟨t, rfl⟩ := r1
 exact ⟨some i, H1, I1, .int i t, q⟩
def SlR (X : Cx) (r : V → Option Int → Option Int → Hp → VK → Prop) : Prop :=
 ∀ (pins : List (Addr × Obj)) (s : Shared) (σ : St) (H : Hp) (x : V) (v vl vu : Value) (lo hi : Option Int) (sl : Addr) (Q : VK), Inv X pins σ H s → RelV x v → s.heap.IsSliceOf sl vl vu .none → IsPart vl lo → IsPart vu hi → r x lo hi H Q →
  ∃ T id, typeLookup (.type T) "__getitem__" = pure (some (.builtin id)) ∧ s.TypeIs v T ∧ wpAny (model X.prog X.w) X.A (getItem v (.ref sl)) (EP X pins σ Q) X.xe s
def tSl (r : V → Option Int → Option Int → Hp → VK → Prop) (te : TE) (tl th : TO) : TE := fun σ H Q => te σ H fun x H1 => tl σ H1 fun l H2 => th σ H2 fun u H3 => r x l u H3 Q
theorem pe_slice {r : V → Option Int → Option Int → Hp → VK → Prop} (hr : SlR X r) (he : PE X e te) (hl : PO X lo tl) (hu : PO X hi th) : PE X (.Subscript e (.Slice lo hi none p2) pos) (tSl r te tl th) := by
 intro pins s σ H Q I h
 refine Subscript_ (thn (he pins s σ H _ I h) fun v s1 ⟨x, H1, I1, r1, q1⟩ => ?_)
 refine wpAny_Slice (thn (hl pins s1 σ H1 _ I1 q1) fun vl s2 ⟨l, H2, I2, pl, q2⟩ => thn (hu pins s2 σ H2 _ I2 q2) fun vu s3 ⟨u, H3, I3, pu, q3⟩ => ?_)
 rw [evalPart_none]
 refine wpAny_pure ?_
 have I4 : Inv X pins σ H3 { s3 with heap := s3.heap.push { cls := .type "slice", data := .fields #[vl, vu, .none] } } := I3.kept (t' := s3.toks) fun b ob q => Heap.get?_push_of_some _ q
 obtain ⟨T, id, hT, ht, hg⟩ := hr pins { s3 with heap := s3.heap.push { cls := .type "slice", data := .fields #[vl, vu, .none] } } σ H3 x v vl vu l u s3.heap.objs.size Q I4 r1 (Heap.IsSliceOf.new ..) pl pu q3
 show wpAny (model X.prog X.w) X.A (subscriptTail e (.Slice lo hi none p2) v (.ref s3.heap.objs.size)) (EP X pins σ Q) X.xe { s3 with heap := s3.heap.push { cls := .type "slice", data := .fields #[vl, vu, .none] } }
 exact tail_any (ops := [.ref s3.heap.objs.size, v]) ht hT hg (by with_unfolding_all rfl)
def cutV (xs : List V) (lo hi : Option Int) : List V := (xs.drop (HT.sIx xs.length 0 lo)).take (HT.sIx xs.length xs.length hi - HT.sIx xs.length 0 lo)
theorem cutV_length (xs : List V) (lo hi : Option Int) : (cutV xs lo hi).length ≤ xs.length := by
 unfold cutV
 rw [List.length_take, List.length_drop]
 omega
end
end L2
namespace L2
open PySem PySem.Spec PyProof.Rows
def ixN (n : Nat) (i : Int) : Option Nat := if 0 ≤ i then (if i < n then some i.toNat else none) else if -(n : Int) ≤ i then some (i + n).toNat else none
def atI {α : Type} (xs : List α) (i : Int) : Option α := (ixN xs.length i).bind fun j => xs[j]?
theorem ixN_seq {n : Nat} {i : Int} {j : Nat} (h : ixN n i = some j) : seqIndex? i n = some j ∧ j < n ∧ -(n : Int) ≤ i ∧ i < n := by
 unfold ixN at h
 by_cases h0 : 0 ≤ i
 ·rw [if_pos h0] at h
  by_cases h1 : i < n
  ·rw [if_pos h1] at h
   have e : i.toNat = j := Option.some.inj h
   exact ⟨by rw [seqIndex_of h0 h1, e], by omega, by omega, h1⟩
  ·rw [if_neg h1] at h; cases h
 ·rw [if_neg h0] at h
  by_cases h1 : -(n : Int) ≤ i
  ·rw [if_pos h1] at h
   have e : (i + n).toNat = j := Option.some.inj h
   exact ⟨by rw [seqIndex_neg (by omega) h1, e], by omega, h1, by omega⟩
  ·rw [if_neg h1] at h; cases h
theorem atI_get {α : Type} {xs : List α} {i : Int} {v : α} (h : atI xs i = some v) : ∃ j, seqIndex? i xs.length = some j ∧ xs[j]? = some v ∧ j < xs.length ∧ -(xs.length : Int) ≤ i ∧ i < xs.length := by
 unfold atI at h
 cases e : ixN xs.length i with
 | none => rw [e] at h; cases h
 | some j =>
  rw [e] at h
  obtain ⟨h1, h2, h3, h4⟩ := ixN_seq e
  exact ⟨j, h1, h, h2, h3, h4⟩
theorem atI_nat {α : Type} {xs : List α} {j : Nat} {v : α} (h : xs[j]? = some v) : atI xs (j : Int) = some v := by
 have hj : j < xs.length := (List.getElem?_eq_some_iff.mp h).1
 have e : ixN xs.length (j : Int) = some j := by
  unfold ixN
  rw [if_pos (by omega), if_pos (by omega)]; simp
 unfold atI; rw [e]; exact h
def PlainIx (b : Expr) : Prop := ∀ o i, subscripted b false o i = operate [o, i] (getItem o i)
def IxR (X : Cx) (r : R2) : Prop :=
 ∀ (value slice : Expr) (pins : List (Addr × Obj)) (s : Shared) (σ : St) (H : Hp) (x y : V) (v u : Value) (Q : VK), Inv X pins σ H s → RelV x v → RelV y u → r x y H Q →
  subscripted slice false v u = operate [v, u] (getItem v u) → wpAny (model X.prog X.w) X.A (subscriptTail value slice v u) (EP X pins σ Q) X.xe s
section
variable {X : Cx} {a b : Expr} {ta tb : TE} {pos : Pos}
theorem pe_ix {r : R2} (hr : IxR X r) (ha : PE X a ta) (hb : PE X b tb) (hs : PlainIx b) : PE X (.Subscript a b pos) (tOp r ta tb) := by
 intro pins s σ H Q I h
 exact Subscript_ (binT ha hb I h fun v u s2 x y H2 I2 rx ry q => hr a b pins s2 σ H2 x y v u Q I2 rx ry q (hs _ _))
def rIxL (K : PySem.W.Frag) : R2 := fun x y H Q => ∃ p xs i v, x = .ref p ∧ y = .int i ∧ SqL K H p xs ∧ atI xs i = some v ∧ Q v H
def rIxT (K : PySem.W.Frag) : R2 := fun x y H Q => ∃ p xs i v, x = .ref p ∧ y = .int i ∧ SqT K H p xs ∧ atI xs i = some v ∧ Q v H
def rIxS : R2 := fun x y H Q => ∃ z i c, x = .str z ∧ y = .int i ∧ z.length ≤ sizeLine ∧ atI z.cps.toList i = some c ∧ Q (.str ⟨#[c]⟩) H
theorem ix_list : IxR X (rIxL X.K) := by
 intro value slice pins s σ H x y v u Q I rx ry h hs
 obtain ⟨p, xs, i, z, rfl, rfl, hq, he, q⟩ := h
 cases rx
 obtain ⟨t, rfl⟩ := ry
 obtain ⟨its, r, pl, hz⟩ := I.list hq
 obtain ⟨j, h1, h2, h3, h4, h5⟩ := atI_get he
 obtain ⟨w, ew, rw'⟩ := r.get h2
 have hl := r.length
 have hn := line63
 have fin : EP X pins σ Q w s := ⟨z, H, I, rw', q⟩
 by_cases h0 : 0 ≤ i
 ·have hj : i.toNat = j := by
   rw [seqIndex_of h0 h5] at h1
   exact Option.some.inj h1
  exact item_listR pl.isList h0 (by omega) (by rw [hj]; simpa using ew) fin hs
 ·have hj : (i + (its.toArray.size : Int)).toNat = j := by
   rw [seqIndex_neg (by omega) h4] at h1
   rw [List.size_toArray, ← hl]
   exact Option.some.inj h1
  exact subscriptTail_builtinR (x := w) pl.isList.typeIs slot_list_getitem.lookup
   (wpAny_getItem_list_neg (Q := fun r s' => r = w ∧ EP X pins σ Q r s') pl.isList (by omega) (by rw [List.size_toArray] <;> omega) (by omega) (by rw [hj]; simpa using ew) ⟨rfl, fin⟩) hs
theorem ix_tup : IxR X (rIxT X.K) := by
 intro value slice pins s σ H x y v u Q I rx ry h hs
 obtain ⟨p, xs, i, z, rfl, rfl, hq, he, q⟩ := h
 cases rx
 obtain ⟨t, rfl⟩ := ry
 obtain ⟨its, r, pl, hz⟩ := I.tuple hq
 obtain ⟨j, h1, h2, h3, h4, h5⟩ := atI_get he
 obtain ⟨w, ew, rw'⟩ := r.get h2
 have hl := r.length
 have hn := line63
 have fin : EP X pins σ Q w s := ⟨z, H, I, rw', q⟩
 exact subscriptTail_builtinR (x := w) pl.typeIs slot_tuple_getitem.lookup
  (getItem_tuple (j := j) (Q := fun r s' => r = w ∧ EP X pins σ Q r s') pl (by omega) (by omega) (by rw [List.size_toArray, ← hl]; exact h1) (by simpa using ew) ⟨rfl, fin⟩) hs
theorem ix_str : IxR X rIxS := by
 intro value slice pins s σ H x y v u Q I rx ry h hs
 obtain ⟨z, i, c, rfl, rfl, hz, he, q⟩ := h
 obtain ⟨t, rfl⟩ := rx
 obtain ⟨t', rfl⟩ := ry
 obtain ⟨j, h1, h2, h3, h4, h5⟩ := atI_get he
 have hl : z.cps.toList.length = z.length := by simp [Str.length]
 rw [hl] at h1 h4 h5
 have hn := line63
 exact tail_any (typeIs_str s z t) slot_str_getitem.lookup (getItem_str (c := c) (by
  have e1 : decide (i < -(2 ^ 63 : Int)) = false := decide_eq_false (by omega)
  have e2 : decide (i ≥ 2 ^ 63) = false := decide_eq_false (by omega)
  rw [e1, e2, Bool.or_false]) (by rw [h1]; simpa using h2) ⟨.str ⟨#[c]⟩, H, I.tok _, ⟨_, rfl⟩, q⟩) hs
theorem Inv.lst {pins : List (Addr × Obj)} {σ : St} {H : Hp} {s : Shared} {p : Addr} {xs : List V} (I : Inv X pins σ H s) (h : H p = some (.lst xs)) :
  ∃ (its : List Value) (n : Nat), Vals xs its ∧ s.heap.get? p = some { cls := .type "list", data := .seq its.toArray n } ∧ xs.length ≤ sizeLine := by
 obtain ⟨z, its, n, r, e⟩ := I.hok p _ h
 exact ⟨its, n, r, e, z⟩
def rSetL : V → V → V → Hp → (Hp → Prop) → Prop := fun o i v H Q => ∃ p xs k j, o = .ref p ∧ i = .int k ∧ H p = some (.lst xs) ∧ ixN xs.length k = some j ∧ Q (upd H p (.lst (xs.set j v)))
theorem slice_bounds (lo hi : Option Int) (n : Nat) : (sliceBounds lo hi none n).1 = ((HT.sIx n 0 lo : Nat) : Int) ∧ (sliceBounds lo hi none n).2.1 = ((HT.sIx n n hi : Nat) : Int) ∧ (sliceBounds lo hi none n).2.2 = 1 := by
 refine ⟨?_, ?_, rfl⟩
 ·cases lo with
  | none => simp [sliceBounds, HT.sIx]
  | some i =>
   simp only [sliceBounds, HT.sIx, Option.getD_none, show (1 : Int) > 0 by decide, if_true]
   by_cases h : i < 0
   ·simp only [h, if_true] <;> omega
   ·simp only [h, if_false] <;> omega
 ·cases hi with
  | none => simp [sliceBounds, HT.sIx]
  | some i =>
   simp only [sliceBounds, HT.sIx, Option.getD_none, show (1 : Int) > 0 by decide, if_true]
   by_cases h : i < 0
   ·simp only [h, if_true] <;> omega
   ·simp only [h, if_false] <;> omega
theorem slicePick_cut (its : List Value) (lo hi : Option Int) : slicePick its.toArray lo hi none = ((its.drop (HT.sIx its.length 0 lo)).take (HT.sIx its.length its.length hi - HT.sIx its.length 0 lo)).toArray := by
 obtain ⟨h1, h2, h3⟩ := slice_bounds lo hi its.toArray.size
 unfold slicePick
 rw [h1, h2, h3]
 simp only [sliceRange_one, pick_run, List.size_toArray] <;> rfl
def rSlL (K : PySem.W.Frag) : V → Option Int → Option Int → Hp → VK → Prop := fun x lo hi H Q => ∃ a xs, x = .ref a ∧ SqL K H a xs ∧ ∀ p, H p = none → Q (.ref p) (upd H p (.lst (cutV xs lo hi)))
theorem sl_list : SlR X (rSlL X.K) := by
 intro pins s σ H x v vl vu lo hi sl Q I rx hs pl pu h
 obtain ⟨a, xs, rfl, hx, q⟩ := h
 cases rx
 obtain ⟨its, r, ht, hz⟩ := I.list hx
 have hlen := r.length
 refine ⟨"list", _, slot_list_getitem.lookup, ht.isList.typeIs, ?_⟩
 refine wpAny_getItem_list_slice ht.isList hs pl pu .none (by simp) ?_ (by rw [List.size_toArray] <;> omega)
 rw [slicePick_cut, ← hlen]
 refine ⟨.ref s.heap.objs.size, _, I.laid (t' := s.toks) (o := .lst (cutV xs lo hi)) (fun b ob q => Heap.get?_push_of_some _ q) (Nat.le_refl _) ?_, rfl, q _ (I.hok.fresh (Nat.le_refl _))⟩
 exact ⟨Nat.le_trans (cutV_length xs lo hi) hz, _, 0, (r.drop (HT.sIx xs.length 0 lo)).take (HT.sIx xs.length xs.length hi - HT.sIx xs.length 0 lo), Heap.get?_push_size _ rfl⟩
def flatV : V → Bool
 | .non => true
 | .bl _ => true
 | .int _ => true
 | .str _ => true
 | _ => false
def eqV : V → V → Bool
 | .non, .non => true
 | .bl a, .bl b => a == b
 | .bl a, .int b => (if a then 1 else 0) == b
 | .int a, .bl b => a == (if b then 1 else 0)
 | .int a, .int b => a == b
 | .str a, .str b => a == b
 | _, _ => false
theorem eqAt_V {A : Around} {s : Shared} {y x : V} {u v : Value} (ry : RelV y u) (rx : RelV x v) (fy : flatV y = true) (fx : flatV x = true) : SeqAt.EqAt A s u v (eqV y x) := by
 cases y with
 | non =>
  cases ry
  cases x with
  | non => cases rx; exact SeqAt.EqAt.same _
  | bl b => cases rx; exact SeqAt.EqAt.none_bool b
  | int b => obtain ⟨t, rfl⟩ := rx; exact SeqAt.EqAt.none_int b t
  | str b => obtain ⟨t, rfl⟩ := rx; exact SeqAt.EqAt.none_str b t
  | _ => exact absurd (show false = true from fx) Bool.false_ne_true
 | bl a =>
  cases ry
  cases x with
  | non => cases rx; exact SeqAt.EqAt.bool_none a
  | bl b => cases rx; exact SeqAt.EqAt.bool_bool a b
  | int b => obtain ⟨t, rfl⟩ := rx; exact SeqAt.EqAt.bool_int a b t
  | str b => obtain ⟨t, rfl⟩ := rx; exact SeqAt.EqAt.bool_str a b t
  | _ => exact absurd (show false = true from fx) Bool.false_ne_true
 | int a =>
  obtain ⟨t', rfl⟩ := ry
  cases x with
  | non => cases rx; exact SeqAt.EqAt.int_none a t'
  | bl b => cases rx; exact SeqAt.EqAt.int_bool a t' b
  | int b => obtain ⟨t, rfl⟩ := rx; exact SeqAt.EqAt.int_int a t' b t
  | str b => obtain ⟨t, rfl⟩ := rx; exact SeqAt.EqAt.int_str a t' b t
  | _ => exact absurd (show false = true from fx) Bool.false_ne_true
 | str a =>
  obtain ⟨t', rfl⟩ := ry
  cases x with
  | non => cases rx; exact SeqAt.EqAt.str_none a t'
  | bl b => cases rx; exact SeqAt.EqAt.str_bool a t' b
  | int b => obtain ⟨t, rfl⟩ := rx; exact SeqAt.EqAt.str_int a t' b t
  | str b => obtain ⟨t, rfl⟩ := rx; exact SeqAt.EqAt.str_str a t' b t
  | _ => exact absurd (show false = true from fx) Bool.false_ne_true
 | _ => exact absurd (show false = true from fy) Bool.false_ne_true
theorem call_len_seq : CallR X (.builtin "len") (fun xs H Q => ∃ p ys, xs = [.ref p] ∧ (SqL X.K H p ys ∨ SqT X.K H p ys) ∧ Q (.int ys.length) H) := by
 intro pins s σ H xs us Q I r h
 obtain ⟨p, ys, rfl, hq, q⟩ := h
 obtain ⟨u, rfl, rx⟩ := vals1 r
 cases rx
 have hn := line63
 rcases hq with hq | hq
 ·obtain ⟨its, r', pl, hz⟩ := I.list hq
  have hlen := r'.length
  exact Calls.call_len_list pl.isList (by simp only [List.size_toArray] <;> omega) ⟨.int ys.length, H, I.tok _, ⟨s.toks + 1, by rw [List.size_toArray, hlen]⟩, q⟩
 ·obtain ⟨its, r', pl, hz⟩ := I.tuple hq
  have hlen := r'.length
  exact len_tuple pl (by simp only [List.size_toArray] <;> omega) ⟨.int ys.length, H, I.tok _, ⟨s.toks + 1, by rw [List.size_toArray, hlen]⟩, q⟩
theorem call_len_str : CallR X (.builtin "len") (fun xs H Q => ∃ z, xs = [.str z] ∧ z.length ≤ sizeLine ∧ Q (.int z.length) H) := by
 intro pins s σ H xs us Q I r h
 obtain ⟨z, rfl, hz, q⟩ := h
 obtain ⟨u, rfl, t, rfl⟩ := vals1 r
 have hn := line63
 exact len_str (by omega) ⟨.int z.length, H, I.tok _, ⟨_, rfl⟩, q⟩
theorem call_list_of : CallR X (.type "list") (fun xs H Q => ∃ p ys, xs = [.ref p] ∧ (SqL X.K H p ys ∨ SqT X.K H p ys) ∧ ∀ l, H l = none → Q (.ref l) (upd H l (.lst ys))) := by
 intro pins s σ H xs us Q I r h
 obtain ⟨p, ys, rfl, hq, q⟩ := h
 obtain ⟨u, rfl, rx⟩ := vals1 r
 cases rx
 have fin : ∀ (its : List Value), Vals ys its → ys.length ≤ sizeLine → ∀ (h' : Heap) (c' : Nat), (∀ b o', s.heap.get? b = some o' → h'.get? b = some o') →
   h'.get? s.heap.objs.size = some { cls := .type "list", dict := none, data := .seq its.toArray c', slots := #[] } → EP X pins σ Q (.ref s.heap.objs.size) { s with heap := h' } := fun its r' hz h' c' kp e =>
  ⟨.ref s.heap.objs.size, _, I.laid (t' := s.toks) kp (Nat.le_refl _) (show ObjOk X.prog X.w _ h' _ (.lst ys) from ⟨hz, its, c', r', e⟩), rfl, q _ (I.hok.fresh (Nat.le_refl _))⟩
 rcases hq with hq | hq
 ·obtain ⟨its, r', pl, hz⟩ := I.list hq
  have hlen := r'.length
  obtain ⟨o, ho, hc, n, hd⟩ := pl.isList
  exact call_list_seq p (.inl rfl) ho hc hd (fun h' c' kp e => fin its r' hz h' c' kp e) (by simp only [List.size_toArray] <;> omega)
 ·obtain ⟨its, r', pl, hz⟩ := I.tuple hq
  have hlen := r'.length
  obtain ⟨o, ho, hc, n, hd⟩ := pl
  exact call_list_seq p (.inr rfl) ho hc hd (fun h' c' kp e => fin its r' hz h' c' kp e) (by simp only [List.size_toArray] <;> omega)
def tyV (K : PySem.W.Frag) (T : String) (x : V) (H : Hp) : Prop := match x with
 | .str _ => T = "str"
 | .int _ => T = "int"
 | .ref p => (T = "list" ∧ ∃ xs, SqL K H p xs) ∨ (T = "tuple" ∧ ∃ o, K.lookup p = some o ∧ o.cls = .type "tuple" ∧ o.dict = none) ∨
   (T = "dict" ∧ ((∃ kvs, H p = some (.dK kvs)) ∨ ∃ kvs, H p = some (.dT kvs))) ∨ (T = "set" ∧ ∃ S n, H p = some (.set S n))
 | _ => False
theorem tyV_is {pins : List (Addr × Obj)} {σ : St} {H : Hp} {s : Shared} {T : String} {x : V} {v : Value} (I : Inv X pins σ H s) (r : RelV x v) (ty : tyV X.K T x H) :
  s.TypeIs v T ∧ ∀ a, v = .ref a → ∃ ob, s.heap.get? a = some ob ∧ ob.dict = none := by
 cases x with
 | str z =>
  obtain ⟨t, rfl⟩ := r
  cases (show T = "str" from ty)
  exact ⟨typeIs_str s z t, fun _ e => nomatch e⟩
 | int i =>
  obtain ⟨t, rfl⟩ := r
  cases (show T = "int" from ty)
  exact ⟨typeIs_int s i t, fun _ e => nomatch e⟩
 | ref p =>
  cases r
  rcases ty with ⟨rfl, xs, hq⟩ | ⟨rfl, o, hk, hc, hd⟩ | ⟨rfl, hk⟩ | ⟨rfl, S, n, hk⟩
  ·obtain ⟨its, _, pl, _⟩ := I.list hq
   refine ⟨pl.isList.typeIs, fun a e => ?_⟩
   cases e
   obtain ⟨o, n, e, c, hd, _⟩ := pl
   exact ⟨o, e, hd⟩
  ·refine ⟨⟨o, I.kIn p o hk, hc⟩, fun a e => ?_⟩
   cases e
   exact ⟨o, I.kIn _ o hk, hd⟩
  ·have z : ∃ o, s.heap.get? p = some o ∧ o.ExactDict := by
    rcases hk with ⟨kvs, hk⟩ | ⟨kvs, hk⟩
    ·obtain ⟨_, _, _, _, o, _, _, e, ex, _⟩ := I.hok p _ hk
     exact ⟨o, e, ex⟩
    ·obtain ⟨_, _, _, _, o, _, _, e, ex, _⟩ := I.hok p _ hk
     exact ⟨o, e, ex⟩
   obtain ⟨o, e, ex⟩ := z
   refine ⟨⟨o, e, ex.1⟩, fun a e2 => ?_⟩
   cases e2
   exact ⟨o, e, ex.2.1⟩
  ·obtain ⟨o, _, _, _, e, ex, _⟩ := I.hok p _ hk
   refine ⟨⟨o, e, ex.1⟩, fun a e2 => ?_⟩
   cases e2
   exact ⟨o, e, ex.2.1⟩
 | _ => exact False.elim ty
def tBM (K : PySem.W.Frag) (T : String) (r : V → List V → Hp → VK → Prop) (to : TE) (t : TA) : TE := fun σ H Q => to σ H fun x H1 => tyV K T x H1 ∧ t σ H1 fun xs H2 => r x xs H2 Q
variable {o e : Expr} {es : List Expr} {to : TE} {t : TA} {name : Str} {apos cpos : Pos} {T id : String} {r : V → List V → Hp → VK → Prop}
end
end L2
namespace L2
open PySem PySem.Spec PyProof.Rows
def MtM (X : Cx) (id : String) (r : V → List V → Hp → VK → Prop) : Prop :=
 ∀ (pins : List (Addr × Obj)) (s : Shared) (σ : St) (H : Hp) (x : V) (xs : List V) (v : Value) (us : List Value) (Q : VK), Inv X pins σ H s → RelV x v → Vals xs us → r x xs H Q →
  wpAny (model X.prog X.w) X.A (call (.builtin id) (v :: us)) (EP X pins σ Q) X.xe s
theorem Vals.one : ∀ {x : V} {us : List Value}, Vals [x] us → ∃ u, us = [u] ∧ RelV x u
 | _, _, .cons r .nil => ⟨_, rfl, r⟩
section
variable {X : Cx} {pins : List (Addr × Obj)} {σ : St} {H : Hp} {s : Shared} {l b : Addr} {xs ys zs : List V}
theorem Inv.lset {its its' : List Value} {n : Nat} {f : Array Value → Array Value} {t' : Nat} (I : Inv X pins σ H s) (hH : H l = some (.lst xs))
  (e : s.heap.get? l = some { cls := .type "list", data := .seq its.toArray n }) (hf : f its.toArray = its'.toArray) (hv : Vals ys its') (hz : ys.length ≤ sizeLine) :
  Inv X pins σ (upd H l (.lst ys)) { s with heap := s.heap.update l (Obj.mapSeq f), toks := t' } := by
 have q := PySem.IsL.update e f
 rw [hf] at q
 refine I.write (x := l) (e := l) (by rw [hH]; exact trivial) (.inl rfl) (fun b' u hb hu => (Heap.get?_update_other s.heap (Obj.mapSeq f) (Ne.symm hb)).trans hu) ⟨_, q⟩ ?_
 exact ⟨hz, its', _, hv, q⟩
theorem Inv.lnew {its : List Value} {t' : Nat} (I : Inv X pins σ H s) (hv : Vals ys its) (hz : ys.length ≤ sizeLine) :
  Inv X pins σ (upd H s.heap.objs.size (.lst ys)) { s with heap := s.heap.push { cls := .type "list", data := .seq its.toArray }, toks := t' } :=
 I.laid (fun _ _ q => Heap.get?_push_of_some _ q) (Nat.le_refl _) ⟨hz, its, 0, hv, Heap.get?_push_size _ rfl⟩
theorem Inv.fresh (I : Inv X pins σ H s) : H s.heap.objs.size = none := I.hok.fresh (Nat.le_refl _)
theorem Inv.lstM (I : Inv X pins σ H s) (hH : H l = some (.lst xs)) : xs.length ≤ sizeLine ∧ ∃ (its : List Value) (n : Nat), Vals xs its ∧ xs.length = its.length ∧ s.heap.get? l = some { cls := .type "list", data := .seq its.toArray n } := by
 obtain ⟨z, its, n, r, e⟩ := I.hok l _ hH
 exact ⟨z, its, n, r, r.length, e⟩
end
section
variable {X : Cx}
def rAppend : V → List V → Hp → VK → Prop := fun x vs H Q => ∃ l xs y, x = .ref l ∧ vs = [y] ∧ H l = some (.lst xs) ∧ xs.length < sizeLine ∧ Q .non (upd H l (.lst (xs ++ [y])))
theorem mt_append : MtM X "list.append" rAppend := by
 intro pins s σ H x vs v us Q I rx rv h
 obtain ⟨l, xs, y, rfl, rfl, hH, hz, q⟩ := h
 cases rx
 obtain ⟨u, rfl, ru⟩ := rv.one
 obtain ⟨z, its, n, r, hl, e⟩ := I.lstM hH
 refine call_meets F.slot_list_append ⟨_, e, rfl⟩ F.entry_list_append (F.args_list_append_2 _ _) (PySem.list_append l its.toArray n u (by rw [List.size_toArray]; omega)) ⟨e, ?_⟩
 refine ⟨.non, _, I.lset (its' := its ++ [u]) hH e (by simp) (r.append (.cons ru .nil)) ?_, rfl, q⟩
 rw [List.length_append, List.length_singleton]
 omega
def rExtend : V → List V → Hp → VK → Prop := fun x vs H Q => ∃ l b xs zs, x = .ref l ∧ vs = [.ref b] ∧ H l = some (.lst xs) ∧ H b = some (.lst zs) ∧ xs.length + zs.length ≤ sizeLine ∧ Q .non (upd H l (.lst (xs ++ zs)))
def rPop : V → List V → Hp → VK → Prop := fun x vs H Q => ∃ l xs y, x = .ref l ∧ vs = [] ∧ H l = some (.lst xs) ∧ xs[xs.length - 1]? = some y ∧ Q y (upd H l (.lst xs.dropLast))
def rReverse : V → List V → Hp → VK → Prop := fun x vs H Q => ∃ l xs, x = .ref l ∧ vs = [] ∧ H l = some (.lst xs) ∧ Q .non (upd H l (.lst xs.reverse))
def rClear : V → List V → Hp → VK → Prop := fun x vs H Q => ∃ l xs, x = .ref l ∧ vs = [] ∧ H l = some (.lst xs) ∧ Q .non (upd H l (.lst []))
def rCat : R2 := fun x y H Q => ∃ l b xs zs, x = .ref l ∧ y = .ref b ∧ H l = some (.lst xs) ∧ H b = some (.lst zs) ∧ xs.length + zs.length ≤ sizeLine ∧ ∀ p, H p = none → Q (.ref p) (upd H p (.lst (xs ++ zs)))
theorem op_cat : OpR X (binaryOp .Add) rCat := by
 intro pins s σ H x y v u Q I rx ry h
 obtain ⟨l, b, xs, zs, rfl, rfl, hH, hB, hz, q⟩ := h
 cases rx
 cases ry
 obtain ⟨z, its, n, r, hl, e⟩ := I.lstM hH
 obtain ⟨z2, its2, n2, r2, hl2, e2⟩ := I.lstM hB
 refine PySem.P.add_list e e2 ?_ (by rw [List.size_toArray, List.size_toArray]; omega)
 have ea : its.toArray ++ its2.toArray = (its ++ its2).toArray := by simp
 rw [ea]
 exact ⟨.ref _, _, I.lnew (t' := s.toks) (r.append r2) (by rw [List.length_append]; omega), rfl, q _ I.fresh⟩
end
section
variable {prog : Program} {w : World} {A : Around} {E : Value → Shared → Prop} {s : Shared}
end
section
variable {X : Cx}
end
end L2
namespace Att
open PySem PySem.W PySem.Calls PyProof.Rows
theorem ints_of_wellAll {P : Params} {h : Heap} : ∀ (ns : List Int) (vs : List Value), WellAll P h vs (ns.map WData.int) → IntsAre vs ns := by
 intro ns
 induction ns with
 | nil =>
  intro vs w
  rw [List.map_nil] at w
  cases w
  exact .nil
 | cons n ns ih =>
  intro vs w
  rw [List.map_cons] at w
  cases w with
  | cons a b =>
   cases a
   exact .cons _ _ (ih _ b)
theorem script_of {l : OpenLaw} {n : Nat} (hn : l.most = some n) {P : Params} {h : Heap} {args : List WData} {vals : List Value}
  (hpre : l.row.toRowW.claim.pre args = true) (hwl : WellAll P h vals args) :
  ∃ a vs ns, vals = [Value.ref a] ∧ args = [WData.list (ns.map WData.int)] ∧ h.get? a = some { cls := .type "list", data := .seq vs.toArray } ∧ IntsAre vs ns ∧ ns.length ≤ n := by
 have hsh : WShape.hasAll [] args [.list .int] = true := (pre_splitW hpre).1
 have hc : l.pre.holds [] { args := args } = true := (pre_splitW hpre).2
 obtain ⟨d, r, rfl, h1, h2⟩ := hasAllW_cons hsh
 obtain rfl := hasAllW_nil h2
 obtain ⟨xs, rfl, h3⟩ := hasW_list h1
 obtain ⟨ns, rfl⟩ := items_int h3
 have hlen : ns.length ≤ n := by
  unfold OpenLaw.pre at hc
  have h4 : (WTm.not (.lt (.lit (.int (n : Int))) (.len (.arg 0)))).holds [] { args := [.list (ns.map .int)] } = true := by
   have h4 := (holds_andW hc).1
   rw [hn] at h4
   exact h4
  have h5 := condW_of h4 (w_not (w_lt w_lit (w_len_list (w_arg rfl))))
  rw [List.length_map] at h5
  refine Nat.le_of_not_lt fun q => ?_
  have q' : (n : Int) < ((ns.length : Nat) : Int) := by omega
  first
   | (rw [decide_eq_true q'] at h5; exact absurd h5 (by decide))
   | (simp at h5; omega)
 cases hwl with
 | cons w1 w2 =>
  cases w2
  cases w1 with
  | list ho hall => exact ⟨_, _, ns, rfl, rfl, ho, ints_of_wellAll ns _ hall, hlen⟩
theorem post_true (l : OpenLaw) (args : List WData) : l.row.toRowW.claim.post args (.bool true) args = true :=
 postW_of (r := l.row.toRowW) (X := (true == true))
  (show WShape.has [] (.bool true) .bool = true by first | rfl | decide | simp [WShape.has, WShape.arms, WShape.armsAll])
  (show (WTm.eq .res (.lit (.bool true))).value [] { args := args, res := some (.bool true), after := args } = some (.bool (true == true)) from w_eq_bool (w_res rfl) w_lit) rfl
theorem attach_call {l : OpenLaw} {n : Nat} {q : Program} {loose : List Str} {XP : (Str → Option Value) → Heap → Prop} {YP : World → Heap → Prop} {d : DefRec}
  (hn : l.most = some n) (hdf : d.params.defaults = [])
  (call : ∀ (w : World) (s₀ s₁ : Shared) (mg mb : Str → Option Value) (fa : Addr) (o : Obj) (pm cd doc : Value) (a : Addr) (vs : List Value) (ns : List Int),
   Ground q loose [] XP w s₀ mg mb s₁.heap → YP w s₁.heap →
   s₁.heap.get? fa = some o → o.data = .func (docDef d.name d.params d.body d.scope pm cd doc) → s₁.heap.CodeRec cd d.name → mg d.name = some (.ref fa) →
   s₁.heap.get? a = some { cls := .type "list", data := .seq vs.toArray } → IntsAre vs ns → ns.length ≤ n → s₁.gens = #[] →
   codeAny (model l.prog w) callerA (.call (.ref fa) ⟨[.ref a], []⟩) (fun r s' => r = .ok (.ret (.bool true)) ∧ OldK s₁.heap s'.heap ∧ s'.os = s₁.os ∧ AllBare s'.gens) s₁) :
  WalkO q loose XP YP l.row.toRowW d [] (fun f vs => PySem.call f vs) := by
 intro w s₀ s₁ mg mb G Y fa o pm cd doc dV kV ho hd hcd hD hmg hg args vals as hpre hlay hrd hwl hlo
 obtain rfl : dV = .none := Dflts.none hD hdf
 obtain rfl : kV = .none := Dflts.noKw hD
 obtain ⟨a, vs, ns, rfl, rfl, hobj, hints, hlen⟩ := script_of hn hpre hwl
 refine enter_call (codeAny_mono (call w s₀ s₁ mg mb fa o pm cd doc a vs ns G Y ho (fd_plain hd) hcd hmg hobj hints hlen hg) fun r s' hq => ?_)
 obtain ⟨rfl, h2, h3, h4⟩ := hq
 exact ⟨.inl ⟨.bool true, .bool true, [], rfl, fun _ => rfl, .bool true, post_true l _, fun _ => ⟨List.Pairwise.nil, fun _ hm => (nomatch hm)⟩⟩, h2, h3, h4⟩
section
variable {prog : Program} {w : World} {A : Around} {E : Value → Shared → Prop} {s : Shared} {K : Frag}
end
end Att
namespace L2
open PySem PySem.Spec PyProof.Rows
theorem vals_ints : ∀ {vs : List Value} {ns : List Int}, IntsAre vs ns → Vals (ns.map V.int) vs
 | _, _, .nil => .nil
 | _, _, .cons n t h => .cons ⟨t, rfl⟩ (vals_ints h)
def Only (H : Hp) : Prop := ∀ b, H b = none ∨ ∃ o xs, H b = some (.frz o (.lst xs))
theorem law_call {P : Program} {w : World} {K : PySem.W.Frag} {mg mb : Str → Option Value} {CX : CXT} {k : Nat} {fa a : Addr} {fd : FuncData} {x : Str} {sp : Sp} {s₁ : Shared} {vs : List Value} {ns : List Int}
  (KX : K.In s₁.heap) (hns : s₁.heap.Ns mainGlobals mg) (hb : s₁.heap.Ns builtinsNs mb) (hbb : ∀ x : Str, x ≠ "__name__" → mb x = bootBuiltins x) (hlim : s₁.heap.NoLimit) (hg : s₁.gens = #[])
  (ha : s₁.heap.get? a = some { cls := .type "list", data := .seq vs.toArray }) (hi : IntsAre vs ns) (hl : ns.length ≤ sizeLine) (hr : Room k callerA)
  (F : ∀ base : Heap, K.In base → base.Ns mainGlobals mg → FnOk P w K mg base CX k fa fd [x] sp) (hbind : ∀ (s : Shared) (u : Value), BindsTo s fd ⟨[u], []⟩ [(x, u)])
  (hsp : ∀ H : Hp, Only H → SqL K H a (ns.map V.int) → sp [.ref a] H (fun v _ => v = .bl true) fun _ _ _ => False)
  (hCX : ∀ H e s', CX [] H s₁ (fun _ _ _ => False) e s' → False) :
  codeAny (model P w) callerA (.call (.ref fa) ⟨[.ref a], []⟩) (fun r s' => r = .ok (.ret (.bool true)) ∧ OldK s₁.heap s'.heap ∧ s'.os = s₁.os ∧ AllBare s'.gens) s₁ := by
 have rv := vals_ints hi
 have lenV := hi.length
 -- from an abstract heap in which nothing but the script may be tracked
 have core : ∀ H : Hp, Only H → SqL K H a (ns.map V.int) → HOk P w H s₁.heap → (∀ b, H b ≠ none → b = a) → (H a ≠ none → K.lookup a = none) →
   codeAny (model P w) callerA (.call (.ref fa) ⟨[.ref a], []⟩) (fun r s' => r = .ok (.ret (.bool true)) ∧ OldK s₁.heap s'.heap ∧ s'.os = s₁.os ∧ AllBare s'.gens) s₁ := by
  intro H hO hS hok hA hK
  have base_of : ∀ {b : Addr} {o : Obj}, s₁.heap.get? b = some o → H b = none → (hidT s₁.heap H).get? b = some o := fun e n => hidT_get e n
  have noA : ∀ {b : Addr} {o : Obj} {es : Array DictEntry} {ep : Nat}, s₁.heap.get? b = some o → o.data = .dict es ep → H b = none := fun {b o es ep} e d => by
   cases q : H b with
   | none => rfl
   | some u =>
    have e' : b = a := hA b (by rw [q]; simp)
    subst e'
    rw [ha] at e; cases e
    have d' : Data.seq vs.toArray _ = Data.dict es ep := d
    cases d'
  have nsK : ∀ {b : Addr} {m : Str → Option Value}, s₁.heap.Ns b m → (hidT s₁.heap H).Ns b m := fun {b m} ⟨o, es, ep, e, d, r⟩ => ⟨o, es, ep, base_of e (noA e d), d, r⟩
  have hKb : K.In (hidT s₁.heap H) := fun b o e => base_of (KX b o e) (by
   cases q : H b with
   | none => rfl
   | some u =>
    have e' : b = a := hA b (by rw [q]; simp)
    subst e'
    rw [hK (by rw [q]; simp)] at e; cases e)
  have hM : Mod K mg (hidT s₁.heap H) := ⟨hKb, nsK hns, ⟨mb, nsK hb, hbb⟩, let ⟨mc, h1, h2⟩ := hlim; ⟨mc, nsK h1, h2⟩⟩
  have e0 : Env0 P w K mg (hidT s₁.heap H) callerA [] s₁ H := ⟨rfl, hM, fun b o e => of_hidT e, Nat.le_of_eq (hidT_size _ _), trivial, fun b hb => absurd (show b ∈ ([] : List Addr) from hb) (by simp), hok, .of_eq hg⟩
  refine codeAny_mono ((F _ hKb (nsK hns)).run callerA [] s₁ H ⟨[.ref a], []⟩ [.ref a] [.ref a] _ _ hr e0 (hbind s₁ (.ref a)) (.cons rfl .nil) (hsp H hO hS)) fun r s' h => ?_
  cases r with
  | error e => exact (hCX H e s' h).elim
  | ok fl =>
   cases fl with
   | next => exact False.elim h
   | brk => exact False.elim h
   | cont => exact False.elim h
   | ret u =>
    obtain ⟨v, H', os, bare, un, hok', r', q⟩ := h
    have q' : v = .bl true := q
    subst q'
    obtain rfl : u = Value.bool true := r'
    refine ⟨rfl, OldK.of_keep fun b o e => ?_, os, bare⟩
    cases q : H b with
    | none => exact un.keep b o e q (by intro z; exact absurd (show b ∈ ([] : List Addr) from z) (by simp)) (by simp)
    | some u =>
     rcases hO b with z | ⟨ob, xs, z⟩
     ·rw [q] at z; cases z
     ·have z2 := un.frzs b ob _ z
      obtain ⟨e1, _⟩ := hok b _ z
      obtain ⟨e2, _⟩ := hok' b _ z2
      rw [e] at e1; cases e1
      exact e2
 cases hk : K.lookup a with
 | some o =>
  -- the script is one of the module's own objects
  have e := KX a o hk
  rw [ha] at e
  cases e
  refine core (fun _ => none) (fun _ => .inl rfl) (.inr ⟨_, vs.toArray, _, hk, rfl, rfl, rfl, by rw [List.size_toArray, lenV]; exact hl, by simpa using rv⟩) (fun b u z => by have z' : (none : Option HO) = some u := z; cases z') (fun b z => absurd rfl z) fun z => absurd rfl z
 | none =>
  refine core (fun b => if b = a then some (.frz { cls := .type "list", data := .seq vs.toArray } (.lst (ns.map V.int))) else none) (fun b => ?_) (.inl (.inr ⟨{ cls := .type "list", data := .seq vs.toArray }, if_pos rfl⟩)) (fun b u z => ?_) (fun b z => ?_) fun _ => hk
  ·by_cases hb : b = a
   ·exact .inr ⟨_, _, if_pos hb⟩
   ·exact .inl (if_neg hb)
  ·by_cases hb : b = a
   ·have z' := (if_pos hb).symm.trans z
    cases z'
    subst hb
    exact ⟨ha, by rw [List.length_map]; exact hl, vs, _, rv, ha⟩
   ·have z' := (if_neg hb).symm.trans z
    cases z'
  ·by_cases hb : b = a
   ·exact hb
   ·exact absurd (if_neg hb) z
end L2
namespace L2
open PySem PySem.Spec PyProof.Rows
theorem walk_of {l : PySem.W.OpenLaw} {n k : Nat} {q : Program} {loose : List Str} {XP : (Str → Option Value) → Heap → Prop} {YP : World → Heap → Prop} {d : DefRec} {K : Params → PySem.W.Frag} {CX : World → CXT} {sp : World → Sp} {x : Str}
  (hn : l.most = some n) (hn2 : n ≤ sizeLine) (hdf : d.params.defaults = []) (hr : Room k callerA)
  (hY : ∀ (w : World) (h : Heap), YP w h → (K w.params).In h)
  (F : ∀ (w : World) (mg : Str → Option Value) (fa : Addr) (h : Heap), (K w.params).In h → h.Ns mainGlobals mg → mg d.name = some (.ref fa) →
   ∃ fd : FuncData, (∀ (s : Shared) (u : Value), BindsTo s fd ⟨[u], []⟩ [(x, u)]) ∧
    ∀ base : Heap, (K w.params).In base → base.Ns mainGlobals mg → FnOk l.prog w (K w.params) mg base (CX w) k fa fd [x] (sp w))
  (hsp : ∀ (w : World) (H : Hp) (a : Addr) (ns : List Int), ns.length ≤ n → Only H → SqL (K w.params) H a (ns.map V.int) → sp w [.ref a] H (fun v _ => v = .bl true) fun _ _ _ => False)
  (hCX : ∀ (w : World) (H : Hp) (s : Shared) (e : Value) (s' : Shared), CX w [] H s (fun _ _ _ => False) e s' → False) :
  PySem.W.WalkO q loose XP YP l.row.toRowW d [] (fun f vs => PySem.call f vs) := by
 refine Att.attach_call hn hdf fun w s₀ s₁ mg mb fa o pm cd doc a vs ns G Y ho hd hcd hmg hobj hints hlen hg => ?_
 have KX := hY w _ Y
 obtain ⟨fd, hb, hF⟩ := F w mg fa _ KX G.T.g hmg
 exact law_call KX G.T.g G.T.b G.T.builtins G.T.nolimit hg hobj hints (Nat.le_trans hlen hn2) hr hF hb (fun H hO hS => hsp w H a ns hlen hO hS) fun H e s' => hCX w H s₁ e s'
theorem walk_ofK {l : PySem.W.OpenLaw} {n k : Nat} {q : Program} {loose : List Str} {XP : (Str → Option Value) → Heap → Prop} {YP : World → Heap → Prop} {d : DefRec} {K : Params → PySem.W.Frag} {CX : CXT} {sp : PySem.W.Frag → Sp} {x : Str}
  (hn : l.most = some n) (hn2 : n ≤ sizeLine) (hdf : d.params.defaults = []) (hr : Room k callerA)
  (hY : ∀ (w : World) (h : Heap), YP w h → (K w.params).In h)
  (F : ∀ (w : World) (mg : Str → Option Value) (fa : Addr) (h : Heap), (K w.params).In h → h.Ns mainGlobals mg → mg d.name = some (.ref fa) →
   ∃ fd : FuncData, (∀ (s : Shared) (u : Value), BindsTo s fd ⟨[u], []⟩ [(x, u)]) ∧
    ∀ base : Heap, (K w.params).In base → base.Ns mainGlobals mg → FnOk l.prog w (K w.params) mg base CX k fa fd [x] (sp (K w.params)))
  (hsp : ∀ (K : PySem.W.Frag) (H : Hp) (a : Addr) (ns : List Int), ns.length ≤ n → Only H → SqL K H a (ns.map V.int) → sp K [.ref a] H (fun v _ => v = .bl true) fun _ _ _ => False)
  (hCX : ∀ (H : Hp) (s : Shared) (e : Value) (s' : Shared), CX [] H s (fun _ _ _ => False) e s' → False) :
  PySem.W.WalkO q loose XP YP l.row.toRowW d [] (fun f vs => PySem.call f vs) :=
 walk_of (K := K) (CX := fun _ => CX) (sp := fun w => sp (K w.params)) hn hn2 hdf hr hY F (fun w H a ns h1 h2 h3 => hsp (K w.params) H a ns h1 h2 h3) fun _ H s e s' => hCX H s e s'
end L2
namespace L2
open PySem PySem.Spec PyProof.Rows
def inClass (s : Stmt) (j : Nat) : Stmt := match s with
 | .ClassDef _ _ _ body _ _ _ _ _ _ _ => body.getD j (.Pass ⟨0, 0, 0, 0⟩)
 | _ => .Pass ⟨0, 0, 0, 0⟩
def defArgs (s : Stmt) : Arguments := match s with
 | .FunctionDef _ a _ _ _ _ _ _ _ _ => a
 | _ => { posonlyargs := [], args := [], vararg := none, kwonlyargs := [], kw_defaults := [], kwarg := none, defaults := [] }
def defBody (s : Stmt) : List Stmt := match s with
 | .FunctionDef _ _ b _ _ _ _ _ _ _ => b
 | _ => []
def defScope (s : Stmt) : Scope := match s with
 | .FunctionDef _ _ _ _ _ _ sc _ _ _ => sc
 | _ => { kind := .function, names := [], isGenerator := false, isCoroutine := false }
abbrev CX0 : CXT := fun _ _ _ _ _ _ => False
abbrev E0 : XK := fun _ _ _ => False
theorem pass0 {X : Cx} : Passes CX0 X E0 := fun _ _ _ _ _ _ _ h => h.elim
structure Fun (K : PySem.W.Frag) (x qual : Str) (st : Stmt) (f : Addr) (fd : FuncData) : Prop where
 ex : ∃ (oc : Value) (od : Option Addr) (kV doc pm : Value) (an : Option Addr) (cdv ct : Value) (osl : Array (Option Value)),
  fd = PySem.W.fnOf x qual (defArgs st) (defBody st) (defScope st) .none kV doc pm an cdv ct ∧ K.lookup f = some ⟨oc, od, .func fd, osl⟩ ∧ PySem.W.codeIn K cdv qual = true
 kp : PySem.W.keepIn K (.ref f) = true
section
variable {P : Program} {w : World} {K : PySem.W.Frag} {mg : Str → Option Value} {base : Heap}
theorem Fun.ok {x qual : Str} {st : Stmt} {f : Addr} {fd : FuncData} {N ps : List Str} {k : Nat} {sp : Sp} (F : Fun K x qual st f fd) (S : FnScope N ps (defScope st)) (len : ∀ vs H Q E, sp vs H Q E → vs.length = ps.length)
  (hbody : ∀ (cdv : Value) (A : Around) (outer : List Env) (s : Shared) (H : Hp) (vs : List V) (Q : VK) (E : XK), Room k (A.deeper (envOfC qual (defScope st) s.heap.objs.size f cdv)) → sp vs H Q E →
   ∃ t, PSs (cxOf CX0 P w K mg base N qual (defScope st) f cdv A outer s H E).nox (defBody st) t ∧ t { nx := fun _ H' => Q .non H', rt := Q } (start N vs) H) : FnOk P w K mg base CX0 (k + 1) f fd ps sp := by
 obtain ⟨oc, od, kV, doc, pm, an, cdv, ct, osl, rfl, lk, hcd⟩ := F.ex
 refine fn_of lk hcd S len fun A outer s H vs Q E hr hsp => ?_
 obtain ⟨t, h, q⟩ := hbody cdv A outer s H vs Q E hr hsp
 exact ⟨t, h.nox, q⟩
theorem Fun.binds {x qual : Str} {st : Stmt} {f : Addr} {fd : FuncData} {ps : List Str} (F : Fun K x qual st f fd)
  (h : ∀ (kV doc pm : Value) (an : Option Addr) (cdv ct : Value) (us : List Value), us.length = ps.length → bindArgs (PySem.W.fnOf x qual (defArgs st) (defBody st) (defScope st) .none kV doc pm an cdv ct) ⟨us, []⟩ = pure (ps.zip us)) : Binds K fd ps [] := by
 obtain ⟨oc, od, kV, doc, pm, an, cdv, ct, osl, rfl, lk, hcd⟩ := F.ex
 exact .all (h kV doc pm an cdv ct)
theorem fun_mk {x qual : Str} {st : Stmt} {f : Addr} {oc : Value} {od an : Option Addr} {osl : Array (Option Value)} {kV doc pm cdv ct : Value} (l : K.lookup f = some ⟨oc, od, .func (PySem.W.fnOf x qual (defArgs st) (defBody st) (defScope st) .none kV doc pm an cdv ct), osl⟩)
  (c : PySem.W.codeIn K cdv qual = true) (k : PySem.W.keepIn K (.ref f) = true) : Fun K x qual st f (PySem.W.fnOf x qual (defArgs st) (defBody st) (defScope st) .none kV doc pm an cdv ct) := ⟨⟨oc, od, kV, doc, pm, an, cdv, ct, osl, rfl, l, c⟩, k⟩
end
theorem small1000 {n : Nat} (h : n ≤ 1000) : n < sizeLine := Nat.lt_of_le_of_lt h (by decide)
section
variable {X : Cx}
end
theorem ite2 {c A B : Prop} [Decidable c] (h1 : c → A) (h2 : ¬ c → B) : if c then A else B := by
 by_cases h : c
 ·rw [if_pos h]
  exact h1 h
 ·rw [if_neg h]
  exact h2 h
def Same (H H' : Hp) : Prop := ∀ b o, H b = some o → H' b = some o
theorem Same.trans {H H1 H2 : Hp} (a : Same H H1) (b : Same H1 H2) : Same H H2 := fun c o h => b c o (a c o h)
theorem Same.free {H H' : Hp} (e : Same H H') {l : Addr} (h : H' l = Option.none) : H l = Option.none := by
 cases q : H l with
 | none => rfl
 | some o =>
  rw [e l o q] at h
  cases h
theorem Same.seq {K : PySem.W.Frag} {H H' : Hp} {a : Addr} {xs : List V} (e : Same H H') (h : SqL K H a xs) : SqL K H' a xs := by
 rcases h with (h | ⟨o, h⟩) | h
 ·exact .inl (.inl (e _ _ h))
 ·exact .inl (.inr ⟨o, e _ _ h⟩)
 ·exact .inr h
end L2
namespace L2
open PySem PySem.Spec PyProof.Rows
section
variable {κ : Type} [DecidableEq κ]
def valV (kvs : List (κ × V)) (k : κ) : Option V := (kvs.find? fun kv => decide (kv.1 = k)).map (·.2)
def putK (kvs : List (κ × V)) (k : κ) (v : V) : List (κ × V) :=
 if (kvs.any fun kv => decide (kv.1 = k)) = true then kvs.map (fun kv => if kv.1 = k then (kv.1, v) else kv) else kvs ++ [(k, v)]
def dropK (kvs : List (κ × V)) (k : κ) : List (κ × V) := kvs.filter fun kv => decide (kv.1 ≠ k)
theorem valV_nil {k : κ} : valV ([] : List (κ × V)) k = none := rfl
theorem valV_pos {p : κ × V} {r : List (κ × V)} {k : κ} (e : p.1 = k) : valV (p :: r) k = some p.2 := by simp [valV, List.find?_cons, e]
theorem valV_neg {p : κ × V} {r : List (κ × V)} {k : κ} (e : ¬ p.1 = k) : valV (p :: r) k = valV r k := by simp [valV, List.find?_cons, e]
theorem RelO.isSome_eq {o : Option V} {u : Option Value} (r : RelO o u) : o.isSome = u.isSome := by
 cases o with
 | none => cases u with
  | none => rfl
  | some _ => exact (show False from r).elim
 | some _ => cases u with
  | none => exact (show False from r).elim
  | some _ => rfl
theorem RelO.getD {o : Option V} {u : Option Value} {d : V} {d' : Value} (r : RelO o u) (rd : RelV d d') : RelV (o.getD d) (u.getD d') := by
 cases o with
 | none => cases u with
  | none => exact rd
  | some _ => exact (show False from r).elim
 | some _ => cases u with
  | none => exact (show False from r).elim
  | some _ => exact r
theorem KV.val {kvs : List (κ × V)} {vs : List (κ × Value)} (r : KV kvs vs) (k : κ) : RelO (valV kvs k) (valueAt vs k) := by
 unfold KV at r
 induction r with
 | nil => exact True.intro
 | @cons p q ps qs h t ih =>
  obtain ⟨h1, h2⟩ := h
  by_cases e : p.1 = k
  ·have e' : q.1 = k := h1.symm.trans e
   have b : valueAt (q :: qs) k = some q.2 := by simp [valueAt, List.find?_cons, e']
   rw [valV_pos e, b]; exact h2
  ·have e' : ¬ q.1 = k := fun z => e (h1.trans z)
   have b : valueAt (q :: qs) k = valueAt qs k := by simp [valueAt, List.find?_cons, e']
   rw [valV_neg e, b]; exact ih
theorem KV.length {kvs : List (κ × V)} {vs : List (κ × Value)} (r : KV kvs vs) : kvs.length = vs.length := Paired.length r
end
theorem kV_is {P : Program} {w : World} {k : Key} {u : Value} (r : RelV (kV k) u) : (mixKind P w).is k u = true := by
 cases k with
 | inl i => obtain ⟨t, e⟩ := (show ∃ t, u = Value.int i t from r); subst e; exact mixKind_int P w i t
 | inr x => obtain ⟨t, e⟩ := (show ∃ t, u = Value.str x t from r); subst e; exact mixKind_str P w x t
abbrev KT (H : Hp) : List (List Key × V) → List (List Key × Addr × Value) → Prop := Paired fun p q => p.1 = q.1 ∧ H q.2.1 = some (.tup (p.1.map kV)) ∧ RelV p.2 q.2.2
theorem KT.val {H : Hp} {kvs : List (List Key × V)} {xs : List (List Key × Addr × Value)} (r : KT H kvs xs) (k : List Key) : RelO (valV kvs k) ((atKey xs k).map (·.2)) := by
 induction r with
 | nil => exact True.intro
 | @cons p q ps qs h t ih =>
  obtain ⟨h1, _, h2⟩ := h
  by_cases e : p.1 = k
  ·have e' : q.1 = k := h1.symm.trans e
   have b : atKey (q :: qs) k = some q.2 := by simp [atKey, List.find?_cons, e']
   rw [valV_pos e, b]; exact h2
  ·have e' : ¬ q.1 = k := fun z => e (h1.trans z)
   have b : atKey (q :: qs) k = atKey qs k := by simp [atKey, List.find?_cons, e']
   rw [valV_neg e, b]; exact ih
section
variable {P : Program} {w : World} {H : Hp} {h : Heap} {a : Addr}
end
def DGet (H : Hp) (a : Addr) (y : V) (r : Option V) : Prop :=
 (∃ kvs k, Rd H a (.dK kvs) ∧ y = kV k ∧ r = valV kvs k) ∨ ∃ kvs k b, Rd H a (.dT kvs) ∧ y = .ref b ∧ H b = some (.tup (k.map kV)) ∧ r = valV kvs k
def DPut (H : Hp) (a : Addr) (y v : V) (H' : Hp) : Prop :=
 (∃ kvs k, H a = some (.dK kvs) ∧ y = kV k ∧ kvs.length < sizeLine ∧ H' = upd H a (.dK (putK kvs k v))) ∨
 ∃ kvs k b, H a = some (.dT kvs) ∧ y = .ref b ∧ H b = some (.tup (k.map kV)) ∧ kvs.length < sizeLine ∧ H' = upd H a (.dT (putK kvs k v))
theorem DGet.k {H : Hp} {a : Addr} {kvs : List (Key × V)} {k : Key} (e : H a = some (.dK kvs)) : DGet H a (kV k) (valV kvs k) := .inl ⟨kvs, k, .inl e, rfl, rfl⟩
theorem DGet.t {H : Hp} {a b : Addr} {kvs : List (List Key × V)} {k : List Key} (e : H a = some (.dT kvs)) (eb : H b = some (.tup (k.map kV))) : DGet H a (.ref b) (valV kvs k) := .inr ⟨kvs, k, b, .inl e, rfl, eb, rfl⟩
theorem DPut.k {H : Hp} {a : Addr} {kvs : List (Key × V)} {k : Key} {v : V} (e : H a = some (.dK kvs)) (hl : kvs.length < sizeLine) : DPut H a (kV k) v (upd H a (.dK (putK kvs k v))) := .inl ⟨kvs, k, e, rfl, hl, rfl⟩
theorem DPut.t {H : Hp} {a b : Addr} {kvs : List (List Key × V)} {k : List Key} {v : V} (e : H a = some (.dT kvs)) (eb : H b = some (.tup (k.map kV))) (hl : kvs.length < sizeLine) :
  DPut H a (.ref b) v (upd H a (.dT (putK kvs k v))) := .inr ⟨kvs, k, b, e, rfl, eb, hl, rfl⟩
section
variable {X : Cx} {pins : List (Addr × Obj)} {σ : St} {H : Hp} {s : Shared} {a : Addr} {y v : V} {u r : Value} {o : Option V} {A : Around} {E : Value → Shared → Prop}
theorem Inv.big (I : Inv X pins σ H s) : sysModules < s.heap.objs.size := by
 have h : mainGlobals < s.heap.objs.size := (I.mod.glob.keeps I.bk).lt
 exact Nat.lt_trans (by decide) h
end
section
variable {X : Cx} {pins : List (Addr × Obj)} {σ : St} {H : Hp} {s : Shared} {a : Addr} {kvs : List (Key × V)} {k : Key} {u : Value} {A : Around} {E : Value → Shared → Prop}
end
section
variable {X : Cx} {o i e value : Expr} {pos pos' tpos : Pos} {td ty tv : TE}
end
theorem dk_empty {P : Program} {w : World} {H : Hp} (h : Heap) (hb : sysModules < h.objs.size) : ObjOk P w H (h.push { cls := .type "dict", data := .dict #[] }) h.objs.size (.dK []) :=
 ⟨Nat.zero_le _, beq_eq_false_iff_ne.mpr (Ne.symm (Nat.ne_of_lt hb)), [], .nil, Heap.DictOf.new h⟩
def tDNewK : TE := fun _ H Q => ∀ p, H p = none → Q (.ref p) (upd H p (.dK []))
section
variable {X : Cx} {pos : Pos}
theorem pe_dnewK : PE X (.Dict [] [] pos) tDNewK := fun pins s σ H Q I h =>
 wpAny_Dict_empty ⟨.ref s.heap.objs.size, _, I.laid (a := s.heap.objs.size) (o := .dK []) (t' := s.toks) (fun _ _ q => Heap.get?_push_of_some _ q) (Nat.le_refl _) (dk_empty s.heap I.big), rfl, h _ (I.hok.fresh (Nat.le_refl _))⟩
end
structure M1 (X : Cx) (o : Expr) (m : Str) (apos : Pos) (e : Expr) (cpos : Pos) : Prop where
 base : attributeBase o m X.env (eval o X.env) = eval o X.env
 few : ((backTo cpos (starEach [e] X.env)).all (fun x => !x.1) && (backToKw cpos (keywordEach [] X.env)).all (fun x => x.1.isSome)
  && decide (([e] : List Expr).length + ([] : List Keyword).length + (if ([] : List Keyword).isEmpty then 0 else 1) < 30)) = true
 line : (apos.endLine == cpos.line) = true
 trees : backTo cpos (starEach [e] X.env) = [(false, eval e X.env)]
structure M2 (X : Cx) (o : Expr) (m : Str) (apos : Pos) (e f : Expr) (cpos : Pos) : Prop where
 base : attributeBase o m X.env (eval o X.env) = eval o X.env
 few : ((backTo cpos (starEach [e, f] X.env)).all (fun x => !x.1) && (backToKw cpos (keywordEach [] X.env)).all (fun x => x.1.isSome)
  && decide (([e, f] : List Expr).length + ([] : List Keyword).length + (if ([] : List Keyword).isEmpty then 0 else 1) < 30)) = true
 line : (apos.endLine == cpos.line) = true
 trees : backTo cpos (starEach [e, f] X.env) = [(false, eval e X.env), (false, eval f X.env)]
def IsD (H : Hp) (a : Addr) : Prop := (∃ kvs, Rd H a (.dK kvs)) ∨ ∃ kvs, Rd H a (.dT kvs)
section
variable {X : Cx} {pins : List (Addr × Obj)} {σ : St} {H : Hp} {s : Shared} {a : Addr} {y d : V} {u r : Value} {o : Option V} {A : Around} {E : Value → Shared → Prop}
end
def tDGet2 (td ty tx : TE) : TE := fun σ H Q => td σ H fun x H1 => ∃ a, x = .ref a ∧ IsD H1 a ∧ ty σ H1 fun y H2 => tx σ H2 fun z H3 => ∃ o, DGet H3 a y o ∧ Q (o.getD z) H3
def tDPop1 (td ty : TE) : TE := fun σ H Q => td σ H fun x H1 => ∃ a, x = .ref a ∧ IsD H1 a ∧ ty σ H1 fun y H2 => ∃ kvs k v, H2 a = some (.dK kvs) ∧ y = kV k ∧ valV kvs k = some v ∧ Q v (upd H2 a (.dK (dropK kvs k)))
section
variable {X : Cx} {o e f : Expr} {apos cpos : Pos} {td ty tx : TE}
end
section
variable {X : Cx} {pins : List (Addr × Obj)} {σ : St} {H : Hp} {s : Shared} {a : Addr} {kvs : List (Key × V)} {A : Around} {E : Value → Shared → Prop}
end
section
variable {X : Cx} {pins : List (Addr × Obj)} {σ : St} {H : Hp} {s : Shared} {a : Addr} {y : V} {u : Value} {A : Around} {E : Value → Shared → Prop}
end
end L2
namespace My
theorem gcd_turn {a b : Int} : Int.gcd b (a % b) = Int.gcd a b := by
 rw [Int.emod_def, Int.gcd_comm a b]
 exact Int.gcd_sub_mul_left_right b a (a / b)
theorem gcd_turnN {a b : Int} : Int.gcd b (a.fmod b) = Int.gcd a b := by
 rw [Int.fmod_def, Int.gcd_comm a b]
 exact Int.gcd_sub_mul_left_right b a (a.fdiv b)
theorem fmod_lt_abs {a b : Int} (hb : b ≠ 0) : (a.fmod b).natAbs < b.natAbs := by
 rcases Int.lt_or_gt_of_ne hb with h | h
 ·have e : a.fmod b = -((-a).fmod (-b)) := by rw [Int.neg_fmod_neg, Int.neg_neg]
  have h1 := Int.fmod_nonneg_of_pos (-a) (b := -b) (by omega)
  have h2 := Int.fmod_lt_of_pos (-a) (b := -b) (by omega)
  omega
 ·have h1 := Int.fmod_nonneg_of_pos a h
  have h2 := Int.fmod_lt_of_pos a h
  omega
theorem emod_lt_nat {a b : Int} (hb : 0 < b) : (a % b).toNat < b.toNat := by
 have h1 := Int.emod_nonneg a (Int.ne_of_gt hb)
 have h2 := Int.emod_lt_of_pos a hb
 omega
theorem abs_ite (i : Int) : (if i < 0 then -i else i) = (i.natAbs : Int) := by
 split <;> omega
theorem gcd_abs (a b : Int) : Int.gcd (a.natAbs : Int) (b.natAbs : Int) = Int.gcd a b := by
 simp [Int.gcd]
def sgcd (t b : Int) : Int := if b < 0 then -(Int.gcd t b : Int) else (Int.gcd t b : Int)
theorem sgcd_ne {t b : Int} (hb : b ≠ 0) : sgcd t b ≠ 0 := by
 have h := Int.gcd_pos_of_ne_zero_right t hb
 unfold sgcd
 split <;> omega
theorem sgcd_dvd_left (t b : Int) : sgcd t b ∣ t := by
 unfold sgcd
 split
 ·exact Int.neg_dvd.mpr (Int.gcd_dvd_left t b)
 ·exact Int.gcd_dvd_left t b
theorem sgcd_dvd_right (t b : Int) : sgcd t b ∣ b := by
 unfold sgcd
 split
 ·exact Int.neg_dvd.mpr (Int.gcd_dvd_right t b)
 ·exact Int.gcd_dvd_right t b
theorem sgcd_abs (t b : Int) : (sgcd t b).natAbs = Int.gcd t b := by
 unfold sgcd
 split <;> simp
theorem fdiv_of_dvd {a d : Int} (h : d ∣ a) : a.fdiv d = a / d := by
 rw [Int.fdiv_eq_ediv_of_dvd h]
theorem sden_pos {t b : Int} (hb : b ≠ 0) : 0 < b / sgcd t b := by
 have hg := Int.gcd_pos_of_ne_zero_right t hb
 obtain ⟨k, hk⟩ := sgcd_dvd_right t b
 have e : b / sgcd t b = k := Int.ediv_eq_of_eq_mul_right (sgcd_ne hb) hk
 rw [e]
 unfold sgcd at hk
 generalize hG : (Int.gcd t b : Int) = g at hk
 have hg' : 0 < g := by omega
 by_cases h : 0 < k
 ·exact h
 ·exfalso
  have h2 : 0 ≤ g * (-k) := Int.mul_nonneg (by omega) (by omega)
  have h3 : g * (-k) = -(g * k) := Int.mul_neg g k
  split at hk
  ·have h4 : -g * k = -(g * k) := Int.neg_mul g k
   omega
  ·omega
theorem scop {t b : Int} (hb : b ≠ 0) : Int.gcd (t / sgcd t b) (b / sgcd t b) = 1 := by
 rw [Int.gcd_ediv (sgcd_dvd_left t b) (sgcd_dvd_right t b), sgcd_abs]
 exact Nat.div_self (Int.gcd_pos_of_ne_zero_right t hb)
theorem ratio_parts {t b : Int} (hb : b ≠ 0) : t / sgcd t b = (Rat.divInt t b).num ∧ b / sgcd t b = ((Rat.divInt t b).den : Int) := by
 have hp := sden_pos (t := t) hb
 have hc := scop (t := t) hb
 have hn := sgcd_ne (t := t) hb
 have e1 : t = sgcd t b * (t / sgcd t b) := (Int.mul_ediv_cancel' (sgcd_dvd_left t b)).symm
 have e2 : b = sgcd t b * (b / sgcd t b) := (Int.mul_ediv_cancel' (sgcd_dvd_right t b)).symm
 have hden : (b / sgcd t b).toNat ≠ 0 := by omega
 have hcop : (t / sgcd t b).natAbs.Coprime (b / sgcd t b).toNat := by
  have : (b / sgcd t b).natAbs = (b / sgcd t b).toNat := by omega
  rw [← this]; exact hc
 have key : Rat.divInt t b = ⟨t / sgcd t b, (b / sgcd t b).toNat, hden, hcop⟩ := by
  have : Rat.divInt (t / sgcd t b) (((b / sgcd t b).toNat : Nat) : Int) = ⟨t / sgcd t b, (b / sgcd t b).toNat, hden, hcop⟩ := by
   rw [Rat.divInt_ofNat]
   exact Rat.mkRat_self ⟨t / sgcd t b, (b / sgcd t b).toNat, hden, hcop⟩
  rw [← this]
  rw [Rat.divInt_eq_divInt_iff hb (by omega)]
  have e3 : (((b / sgcd t b).toNat : Nat) : Int) = b / sgcd t b := by omega
  rw [e3]
  conv => lhs; rw [e1]
  conv => rhs; rw [e2]
  grind
 constructor
 ·rw [key]
 ·rw [key]; show b / sgcd t b = (((b / sgcd t b).toNat : Nat) : Int); omega
theorem pow_mono {a c n : Nat} (h : n < 2 ^ a) (hac : a ≤ c) : n < 2 ^ c := Nat.lt_of_lt_of_le h (Nat.pow_le_pow_right (by decide) hac)
theorem divInt_num_le {t b : Int} (hb : b ≠ 0) : (Rat.divInt t b).num.natAbs ≤ t.natAbs := by
 rw [← (ratio_parts hb).1]
 exact Int.natAbs_ediv_le_natAbs _ _
theorem divInt_den_le {t b : Int} (hb : b ≠ 0) : (Rat.divInt t b).den ≤ b.natAbs := by
 have h : ((Rat.divInt t b).den : Int).natAbs ≤ b.natAbs := by
  rw [← (ratio_parts (t := t) hb).2]
  exact Int.natAbs_ediv_le_natAbs _ _
 simpa using h
theorem log2_lt_of {n k : Nat} (h : n < 2 ^ k) (hk : 0 < k) : n.log2 < k := by
 by_cases h0 : n = 0
 ·rw [h0]; simpa using hk
 ·exact (Nat.log2_lt h0).mpr h
theorem gcd_le_abs {t b : Int} (hb : b ≠ 0) : Int.gcd t b ≤ b.natAbs := Nat.le_of_dvd (by omega) (Nat.gcd_dvd_right _ _)
end My
set_option Elab.async false
set_option maxRecDepth 100000
namespace My
open PySem PySem.Spec L2
open PyProof.Rows hiding St
def plainE : Expr → Bool
 | .Starred .. => false
 | _ => true
theorem se_cons {e : Expr} {es : List Expr} {env : Env} (h : plainE e = true) : starEach (e :: es) env = (false, eval e env) :: starEach es env := by
 cases e <;> first | rfl | cases h
theorem se_any {env : Env} {pos : Pos} : ∀ {es : List Expr}, es.all plainE = true → (backTo pos (starEach es env)).any (·.1) = false
 | [], _ => rfl
 | e :: es, h => by
  rw [List.all_cons, Bool.and_eq_true] at h
  rw [se_cons h.1]
  have := se_any (env := env) (pos := pos) h.2
  unfold backTo at this ⊢
  simpa using this
section
variable {X : Cx} {e : Expr} {es : List Expr} {te : TE} {t : TA} {pos p : Pos} {x : Str} {id T : String} {r : List V → Hp → VK → Prop}
theorem pa_c (ha : PE X e te) (hr : PA X es t) (hp : plainE e = true := by rfl) : PA X (e :: es) (tCons te t) := pa_cons ha hr (se_cons hp)
theorem hd_plain {e : Expr} {es : List Expr} (h : (e :: es).all plainE = true) : plainE e = true ∧ es.all plainE = true := by
 rw [List.all_cons, Bool.and_eq_true] at h
 exact h
theorem pe_cB (hc : CallR X (.builtin id) r) (hg : Gl X x) (hm : X.mg x = none) (hv : bootBuiltins x = some (.builtin id)) (ha : PA X (e :: es) t) (hp : (e :: es).all plainE = true := by rfl) (hn : x ≠ "__name__" := by decide) (hdb : (x == ("__debug__" : Str)) = false := by decide) :
  PE X (.Call (.Name x p) (e :: es) [] pos) (tCB r t) := pe_callB hc hg hm hv ha hn hdb (se_cons (hd_plain hp).1) (se_any (hd_plain hp).2)
theorem pe_cTy (hc : CallR X (.type T) r) (hg : Gl X x) (hm : X.mg x = none) (hv : bootBuiltins x = some (.type T)) (ha : PA X (e :: es) t) (hp : (e :: es).all plainE = true := by rfl) (hn : x ≠ "__name__" := by decide) (hdb : (x == ("__debug__" : Str)) = false := by decide) :
  PE X (.Call (.Name x p) (e :: es) [] pos) (tCB r t) := pe_callTy hc hg hm hv ha hn hdb (se_cons (hd_plain hp).1) (se_any (hd_plain hp).2)
end
structure Fn (P : Program) (w : World) (K : PySem.W.Frag) (mg : Str → Option Value) (base : Heap) (CX : CXT) (k : Nat) (x : Str) (ps : List Str) (sp : Sp) : Prop where
 ex : ∃ (f : Addr) (fd : FuncData), FnOk P w K mg base CX k f fd ps sp ∧ Binds K fd ps [] ∧ PySem.W.keepIn K (.ref f) = true ∧ mg x = some (.ref f)
section
variable {X : Cx} {CX : CXT} {j k : Nat} {x : Str} {ps : List Str} {sp : Sp} {p pos : Pos} {e : Expr} {es : List Expr} {t : TA}
theorem pe_fn (F : Fn X.prog X.w X.K X.mg X.base CX0 j x ps sp) (hr : Room k X.A) (hj : j ≤ k) (hg : Gl X x) (ha : PA X (e :: es) t) (hp : (e :: es).all plainE = true := by rfl) (hdb : (x == ("__debug__" : Str)) = false := by decide) :
  PE X (.Call (.Name x p) (e :: es) [] pos) (tCall sp [] E0 t) := by
 obtain ⟨f, fd, G, b, kp, m⟩ := F.ex
 exact pe_call G (hr.mono hj) hg m kp b .nil pass0 ha hdb (se_cons (hd_plain hp).1) (se_any (hd_plain hp).2)
end
section
variable {X : Cx}
theorem op_fdivL : OpR X (binaryOp .FloorDiv) (rI (fun _ j => j ≠ 0 ∧ j.natAbs.log2 < 9000) fun i j => .int (i.fdiv j)) :=
 opI fun _ _ _ _ _ _ _ hc q => floordiv_int hc.1 q (.inl (PyProof.noPylong_of_log2 hc.2))
end
def kindV (H : Hp) : V → Option String
 | .non => some "NoneType"
 | .bl _ => some "bool"
 | .int _ => some "int"
 | .str _ => some "str"
 | .ref a => match H a with
  | some (.lst _) => some "list"
  | some (.tup _) => some "tuple"
  | some (.dK _) => some "dict"
  | _ => none
 | _ => none
def kinds : List String := ["NoneType", "bool", "int", "str", "list", "tuple", "dict"]
def asks : List String := ["bool", "int", "str", "list", "tuple", "dict"]
def isA (t n : String) : Bool := t == n || (t == "bool" && n == "int")
theorem kind_bl (H : Hp) (x : Bool) : kindV H (.bl x) = some "bool" := rfl
theorem kind_int (H : Hp) (i : Int) : kindV H (.int i) = some "int" := rfl
theorem kind_tup {H : Hp} {a : Addr} {xs : List V} (h : H a = some (.tup xs)) : kindV H (.ref a) = some "tuple" := by unfold kindV; dsimp only; rw [h]
theorem kind_lst {H : Hp} {a : Addr} {xs : List V} (h : H a = some (.lst xs)) : kindV H (.ref a) = some "list" := by unfold kindV; dsimp only; rw [h]
theorem ask_int : ("int" ∈ asks) = True := eq_true (by decide)
theorem ask_bool : ("bool" ∈ asks) = True := eq_true (by decide)
theorem ask_tuple : ("tuple" ∈ asks) = True := eq_true (by decide)
theorem ask_list : ("list" ∈ asks) = True := eq_true (by decide)
theorem ask_str : ("str" ∈ asks) = True := eq_true (by decide)
theorem isa_bb : isA "bool" "bool" = true := by decide
theorem isa_bi : isA "bool" "int" = true := by decide
theorem isa_ii : isA "int" "int" = true := by decide
theorem isa_ib : isA "int" "bool" = false := by decide
theorem isa_tt : isA "tuple" "tuple" = true := by decide
theorem isa_ll : isA "list" "list" = true := by decide
theorem kindV_ty {K : PySem.W.Frag} {H : Hp} {x : V} {t : String} (e : kindV H x = some t) : TyOf K H x (.type t) ∧ t ∈ kinds := by
 unfold kindV at e
 split at e
 ·cases e; exact ⟨.non, by decide⟩
 ·cases e; exact ⟨.bl _, by decide⟩
 ·cases e; exact ⟨.int _, by decide⟩
 ·cases e; exact ⟨.str _, by decide⟩
 ·split at e
  ·cases e; exact ⟨.lst (by assumption), by decide⟩
  ·cases e; exact ⟨.tup (by assumption), by decide⟩
  ·cases e; exact ⟨.dK (by assumption), by decide⟩
  ·cases e
 ·cases e
theorem kit_table (K : PySem.W.Frag) : ∀ t ∈ kinds, ∀ n ∈ asks, PySem.W.kitOne K (.type t) (.type n) = some (isA t n) := by
 intro t ht n hn
 simp only [kinds, asks, List.mem_cons, List.not_mem_nil, or_false] at ht hn
 rcases ht with rfl | rfl | rfl | rfl | rfl | rfl | rfl <;> rcases hn with rfl | rfl | rfl | rfl | rfl | rfl <;> rfl
section
variable {X : Cx}
theorem call_inst : CallR X (.builtin "isinstance") (fun xs H Q => ∃ x n t, xs = [x, .ty n] ∧ kindV H x = some t ∧ n ∈ asks ∧ Q (.bl (isA t n)) H) := by
 intro pins s σ H xs us Q I r h
 obtain ⟨x, n, t, rfl, e, hn, q⟩ := h
 obtain ⟨u, v, rfl, ru, rv⟩ := vals2 r
 cases (show v = Value.type n from rv)
 obtain ⟨ty, ht⟩ := kindV_ty (K := X.K) e
 exact isinst_ok I ru ty (kit_table X.K t ht n hn) fun tk => ⟨.bl (isA t n), H, I.tok tk, rfl, q⟩
theorem pe_ty {x : Str} {T : String} {pos : Pos} (hg : Gl X x) (hm : X.mg x = none) (hv : bootBuiltins x = some (.type T)) (hn : x ≠ "__name__" := by decide) (hd : (x == ("__debug__" : Str)) = false := by decide) : PE X (.Name x pos) (tC (.ty T)) :=
 pe_bltn hg hm hv rfl hn hd
end
section
variable {X : Cx} {e : Expr} {es : List Expr} {te : TE} {t : TA} {pos : Pos}
theorem same_new {H : Hp} {p : Addr} (h : H p = none) (o : HO) : Same H (upd H p o) := fun b u q => by rw [upd_ne (ne_of_none q h)]; exact q
def tTup2 (t : TA) : TE := fun σ H Q => t σ H fun xs H1 => xs.length ≤ 1000 ∧ ∀ p H2, H1 p = none → Same H1 H2 → H2 p = some (.tup xs) → Q (.ref p) H2
def tLst2 (t : TA) : TE := fun σ H Q => t σ H fun xs H1 => xs.length ≤ 1000 ∧ ∀ p H2, H1 p = none → Same H1 H2 → H2 p = some (.lst xs) → Q (.ref p) H2
theorem le1000 {n : Nat} (h : n ≤ 1000) : n ≤ sizeLine := Nat.le_of_lt (small1000 h)
theorem pe_tup2 {x1} (h : PA X es t) : PE X (.Tuple es x1 pos) (tTup2 t) := by
 intro pins s σ H Q I hq
 refine wpAny_Tuple_spliced (thn (h pos pins s σ H _ I hq) fun us s1 ⟨xs, H1, I1, r, z, q⟩ => ⟨by rw [← r.length]; exact le1000 z, ?_⟩)
 have hf : H1 s1.heap.objs.size = none := I1.hok.fresh (Nat.le_refl _)
 refine ⟨.ref s1.heap.objs.size, upd H1 s1.heap.objs.size (.tup xs), I1.laid (t' := s1.toks) (fun b u e => Heap.get?_push_of_some _ e) (Nat.le_refl _) ?_, rfl, q _ _ hf (same_new hf _) upd_same⟩
 exact ⟨le1000 z, us, r, ⟨_, Heap.get?_push_size _ rfl, rfl, _, rfl⟩⟩
theorem pe_lst2 (h : PA X es t) : PE X (.List es pos) (tLst2 t) := by
 intro pins s σ H Q I hq
 refine wpAny_List_spliced (thn (h pos pins s σ H _ I hq) fun us s1 ⟨xs, H1, I1, r, z, q⟩ => ⟨by rw [← r.length]; exact le1000 z, ?_⟩)
 have hf : H1 s1.heap.objs.size = none := I1.hok.fresh (Nat.le_refl _)
 refine ⟨.ref s1.heap.objs.size, upd H1 s1.heap.objs.size (.lst xs), I1.laid (t' := s1.toks) (fun b u e => Heap.get?_push_of_some _ e) (Nat.le_refl _) ?_, rfl, q _ _ hf (same_new hf _) upd_same⟩
 exact ⟨le1000 z, us, 0, r, Heap.get?_push_size _ rfl⟩
theorem ix_imp {r r' : R2} (h : IxR X r) (i : ∀ x y H Q, r' x y H Q → r x y H Q) : IxR X r' :=
 fun value slice pins s σ H x y v u Q I rx ry q hs => h value slice pins s σ H x y v u Q I rx ry (i x y H Q q) hs
def rIxT2 : R2 := fun x y H Q => ∃ p xs i v, x = .ref p ∧ y = .int i ∧ H p = some (.tup xs) ∧ atI xs i = some v ∧ Q v H
def rIxL2 : R2 := fun x y H Q => ∃ p xs i v, x = .ref p ∧ y = .int i ∧ H p = some (.lst xs) ∧ atI xs i = some v ∧ Q v H
theorem ix_tup2 : IxR X rIxT2 := ix_imp ix_tup fun _ _ _ _ ⟨p, xs, i, v, h1, h2, h3, h4, q⟩ => ⟨p, xs, i, v, h1, h2, SqT.of h3, h4, q⟩
theorem ix_lst2 : IxR X rIxL2 := ix_imp ix_list fun _ _ _ _ ⟨p, xs, i, v, h1, h2, h3, h4, q⟩ => ⟨p, xs, i, v, h1, h2, SqL.of h3, h4, q⟩
theorem call_len2 : CallR X (.builtin "len") (fun xs H Q => ∃ p ys, xs = [.ref p] ∧ (H p = some (.lst ys) ∨ H p = some (.tup ys)) ∧ Q (.int ys.length) H) :=
 fun pins s σ H xs us Q I r ⟨p, ys, h1, h2, q⟩ => call_len_seq pins s σ H xs us Q I r ⟨p, ys, h1, h2.imp SqL.of SqT.of, q⟩
def tApp (to : TE) (t : TA) : TE := fun σ H Q => to σ H fun x H1 => ∃ l zs, x = .ref l ∧ H1 l = some (.lst zs) ∧ t σ H1 fun vs H2 => ∃ y xs, vs = [y] ∧ H2 l = some (.lst xs) ∧ xs.length < 1000000 ∧ Q .non (upd H2 l (.lst (xs ++ [y])))
theorem mill {n : Nat} (h : n < 1000000) : n < sizeLine := Nat.lt_trans h (by decide)
theorem pe_append {o : Expr} {to : TE} {apos cpos : Pos} (ho : PE X o to) (ha : PA X (e :: es) t)
  (hbase : attributeBase o "append" X.env (eval o X.env) = eval o X.env := by rfl)
  (hfew : ((backTo cpos (starEach (e :: es) X.env)).all (fun x => !x.1) && (backToKw cpos (keywordEach [] X.env)).all (fun x => x.1.isSome)
   && decide ((e :: es).length + ([] : List Keyword).length + (if ([] : List Keyword).isEmpty then 0 else 1) < 30)) = true := by rfl)
  (hline : (apos.endLine == cpos.line) = true := by rfl) (hs : starEach (e :: es) X.env = (false, eval e X.env) :: starEach es X.env := by rfl) (hplain : (backTo cpos (starEach es X.env)).any (·.1) = false := by rfl) :
  PE X (.Call (.Attribute o "append" apos) (e :: es) [] cpos) (tApp to t) := by
 intro pins s σ H Q I h
 refine wpAny_Call_method_late hbase hfew hline rfl (thn (ho pins s σ H _ I h) fun v s1 ⟨x, H1, I1, r1, l, zs, e1, e2, q1⟩ => ?_)
 obtain ⟨h1, h2⟩ := tyV_is (T := "list") I1 r1 (by rw [e1]; exact .inl ⟨rfl, zs, SqL.of e2⟩)
 refine ⟨"list", "list.append", PySem.F.plainAttrs_list, PySem.F.slot_list_append, PySem.F.type_list_append, h1, h2, ?_⟩
 have hA := ha cpos pins s1 σ H1 _ I1 q1
 rw [hs] at hA ⊢
 refine Calls.callWith_builtin (by show (false || (backTo cpos (starEach es X.env)).any (·.1)) = false; rw [hplain] <;> rfl) (Calls.evalArgs_plain ?_)
 exact thn hA fun us s2 ⟨vs, H2, I2, r2, y, xs, e3, e4, z, q2⟩ => mt_append pins s2 σ H2 x vs v us Q I2 r1 r2 ⟨l, xs, y, e1, e3, e4, mill z, q2⟩
theorem same_upd {H H' : Hp} {p : Addr} {o : HO} (hp : H p = none) (hs : Same H H') : Same H (upd H' p o) := fun b u q => by rw [upd_ne (ne_of_none q hp)]; exact hs b u q
def gTup2 (n : Nat) (t : TGs) : TG := fun v σ H Q => ∃ a xs, v = .ref a ∧ H a = some (.tup xs) ∧ xs.length = n ∧ t xs σ H Q
theorem pg_tup2 {es : List Expr} {k : Nat} {t : TGs} {n : Nat} (hc : X.calm = true) (h : PGs X es t)
  (hn : (assignEach es X.env).length = n := by rfl) (hst : (assignEach es X.env).findIdx? (·.1) = none := by rfl) : PG X (.Tuple es k pos) (gTup2 n t) :=
 fun pins s σ H v u Q I r ⟨a, xs, h1, h2, h3, q⟩ => pg_tup hc h hn hst pins s σ H v u Q I r ⟨a, xs, h1, SqT.of h2, h3, q⟩
end
theorem atI0 {α : Type} (x : α) (xs : List α) : atI (x :: xs) 0 = some x := atI_nat (j := 0) rfl
theorem atI1 {α : Type} (x y : α) (xs : List α) : atI (x :: y :: xs) 1 = some y := atI_nat (j := 1) rfl
theorem atI2 {α : Type} (x y z : α) (xs : List α) : atI (x :: y :: z :: xs) 2 = some z := atI_nat (j := 2) rfl
theorem atI3 {α : Type} (x y z u : α) (xs : List α) : atI (x :: y :: z :: u :: xs) 3 = some u := atI_nat (j := 3) rfl
theorem atI_mem {α : Type} {xs : List α} {i : Int} (h0 : 0 ≤ i) (h1 : i < (xs.length : Int)) : ∃ v, atI xs i = some v ∧ v ∈ xs := by
 have hk : i.toNat < xs.length := by omega
 refine ⟨xs[i.toNat], ?_, List.getElem_mem hk⟩
 have e : i = ((i.toNat : Nat) : Int) := by omega
 conv => lhs; rw [e]
 exact atI_nat (List.getElem?_eq_getElem hk)
def cellOf (ns : List Int) (k : Nat) : Int := ns.getD k (2 * (k : Int) + 1)
theorem cell_in {ns : List Int} {k : Nat} (h : k < ns.length) : atI (ns.map V.int) (k : Int) = some (.int (cellOf ns k)) := by
 refine atI_nat ?_
 rw [List.getElem?_map, List.getElem?_eq_getElem h]
 simp [cellOf, List.getD, List.getElem?_eq_getElem h]
theorem cell_out {ns : List Int} {k : Nat} (h : ¬ k < ns.length) : cellOf ns k = 2 * (k : Int) + 1 := by
 unfold cellOf
 rw [List.getD, List.getElem?_eq_none (by omega)]
 rfl
def slotI (σ : St) (i : Nat) : Int := match σ[i]? with
 | some (some (.int m)) => m
 | _ => 0
theorem while_w {c : TT} {tb : TS} {D : Ends} {σ : St} {H : Hp} (Pv : St → Hp → Prop) (μ : St → Hp → Nat) (h0 : Pv σ H)
  (hs : ∀ σ H, Pv σ H → c σ H fun b H1 => if b = true then ∃ N : St → Hp → Prop, (∀ σ' H', N σ' H' → ∃ m', m' < μ σ H ∧ (m' = μ σ' H' ∧ Pv σ' H')) ∧ tb { D with nx := N, ct := N, bk := D.nx } σ H1 else D.nx σ H1) : tWhile c tb D σ H := by
 refine ⟨fun m σ H => m = μ σ H ∧ Pv σ H, ⟨_, rfl, h0⟩, ?_⟩
 rintro m σ H ⟨rfl, p⟩
 exact hs σ H p
end My
namespace My
open PySem PySem.Spec L2
open PyProof.Rows hiding St
structure QE (X : Cx) (e : Expr) (t : TE) : Prop where
 h : PE X e t
structure QT (X : Cx) (e : Expr) (t : TT) : Prop where
 h : PT X e t
structure QW (X : Cx) (e : Expr) (t : TT) : Prop where
 h : PW X e t
structure QA (X : Cx) (es : List Expr) (t : TA) : Prop where
 h : PA X es t
structure QS (X : Cx) (st : Stmt) (t : TS) : Prop where
 h : PS X st t
structure QB (X : Cx) (sts : List Stmt) (t : TS) : Prop where
 h : PSs X sts t
structure QI (X : Cx) (tg it : Expr) (t : TI) : Prop where
 h : PI X tg it t
structure QG (X : Cx) (tg : Expr) (t : TG) : Prop where
 h : PG X tg t
structure QGs (X : Cx) (tgs : List Expr) (t : TGs) : Prop where
 h : PGs X tgs t
section
variable {X : Cx} {a b c e : Expr} {es rest : List Expr} {ta tb tc te : TE} {tA tB' : TT} {t : TA} {pos p : Pos} {x : Str}
theorem q_v (i : Nat) (hN : X.N[i]? = some x := by rfl) (hv : Vis X.env.scope x := by first | exact Or.inl rfl | exact Or.inr (Or.inl rfl) | exact Or.inr (Or.inr rfl)) (hd : (x == ("__debug__" : Str)) = false := by decide)
  (hcd : (x == ("__classdict__" : Str)) = false := by decide) : QE X (.Name x pos) (tVar i) := ⟨pe_var hN hv hd hcd⟩
theorem q_int {i j} : QE X (.Constant (.int i) j pos) (tC (.int i)) := ⟨pe_int⟩
theorem q_bl {k j} : QE X (.Constant (.bool k) j pos) (tC (.bl k)) := ⟨pe_bl⟩
theorem q_non {j} : QE X (.Constant .none j pos) (tC .non) := ⟨pe_non⟩
theorem q_str {y j} : QE X (.Constant (.str y) j pos) (tC (.str y)) := ⟨pe_str⟩
theorem q_ty {T : String} (hg : Gl X x) (hm : X.mg x = none) (hv : bootBuiltins x = some (.type T)) (hn : x ≠ "__name__" := by decide) (hd : (x == ("__debug__" : Str)) = false := by decide) : QE X (.Name x pos) (tC (.ty T)) := ⟨pe_ty hg hm hv hn hd⟩
theorem q_cls {a : Addr} (hg : Gl X x) (hm : X.mg x = some (.ref a)) (hd : (x == ("__debug__" : Str)) = false := by decide) : QE X (.Name x pos) (tC (.ref a)) := ⟨pe_glob hg hm rfl hd⟩
theorem q_add (ha : QE X a ta) (hb : QE X b tb) : QE X (.BinOp a .Add b pos) (tOp (rI0 fun i j => .int (i + j)) ta tb) := ⟨pe_op op_add ha.h hb.h⟩
theorem q_sub (ha : QE X a ta) (hb : QE X b tb) : QE X (.BinOp a .Sub b pos) (tOp (rI0 fun i j => .int (i - j)) ta tb) := ⟨pe_op op_sub ha.h hb.h⟩
theorem q_mul (ha : QE X a ta) (hb : QE X b tb) : QE X (.BinOp a .Mult b pos) (tOp (rI CMul fun i j => .int (i * j)) ta tb) := ⟨pe_op op_mul ha.h hb.h⟩
theorem q_mod (ha : QE X a ta) (hb : QE X b tb) : QE X (.BinOp a .Mod b pos) (tOp (rI (fun _ j => 0 < j) fun i j => .int (i % j)) ta tb) := ⟨pe_op op_mod ha.h hb.h⟩
theorem q_modN (ha : QE X a ta) (hb : QE X b tb) : QE X (.BinOp a .Mod b pos) (tOp (rI (fun _ j => j ≠ 0) fun i j => .int (i.fmod j)) ta tb) := ⟨pe_op op_modN ha.h hb.h⟩
theorem q_fdiv (ha : QE X a ta) (hb : QE X b tb) : QE X (.BinOp a .FloorDiv b pos) (tOp (rI CDiv fun i j => .int (i / j)) ta tb) := ⟨pe_op op_fdiv ha.h hb.h⟩
theorem q_fdivL (ha : QE X a ta) (hb : QE X b tb) : QE X (.BinOp a .FloorDiv b pos) (tOp (rI (fun _ j => j ≠ 0 ∧ j.natAbs.log2 < 9000) fun i j => .int (i.fdiv j)) ta tb) := ⟨pe_op op_fdivL ha.h hb.h⟩
theorem q_pow (ha : QE X a ta) (hb : QE X b tb) : QE X (.BinOp a .Pow b pos) (tOp (rI CPow fun i j => .int (i ^ j.toNat)) ta tb) := ⟨pe_op op_pow ha.h hb.h⟩
theorem q_cat (ha : QE X a ta) (hb : QE X b tb) : QE X (.BinOp a .Add b pos) (tOp rCat ta tb) := ⟨pe_op op_cat ha.h hb.h⟩
theorem q_addS (ha : QE X a ta) (hb : QE X b tb) : QE X (.BinOp a .Add b pos) (tOp (fun x y H Q => ∃ i j, x = .str i ∧ y = .str j ∧ i.length + j.length ≤ sizeLine ∧ Q (.str (i ++ j)) H) ta tb) := ⟨pe_op op_add_str ha.h hb.h⟩
theorem q_neg (ha : QE X a ta) : QE X (.UnaryOp .USub a pos) (tUn (rU fun i => .int (-i)) ta) := ⟨pe_un un_neg ha.h⟩
theorem q_not (ha : QE X a ta) : QE X (.UnaryOp .Not a pos) (tNotV ta) := ⟨pe_not ha.h⟩
theorem q_one {op} (ha : QE X a ta) : QE X (.BoolOp op [a] pos) ta := ⟨pe_one ha.h⟩
theorem q_and (ha : QE X a ta) (hb : QE X (.BoolOp .And (b :: rest) pos) tb) : QE X (.BoolOp .And (a :: b :: rest) pos) (tAndV ta tb) := ⟨pe_and ha.h hb.h⟩
theorem q_ifE (hc : QT X c tA) (ha : QE X a ta) (hb : QE X b tb) : QE X (.IfExp c a b pos) (tIf tA ta tb) := ⟨pe_ifExp hc.h ha.h hb.h⟩
theorem q_eq (ha : QE X a ta) (hb : QE X b tb) : QE X (.Compare a [.Eq] [b] pos) (tOp rEq ta tb) := ⟨pe_cmpR op_eq ha.h hb.h (nomark _)⟩
theorem q_ge (ha : QE X a ta) (hb : QE X b tb) : QE X (.Compare a [.GtE] [b] pos) (tOp (rI0 fun i j => .bl (decide (j ≤ i))) ta tb) := ⟨pe_cmpR op_ge ha.h hb.h (nomark _)⟩
theorem t_val (ha : QE X e te) (he : ∀ whole, isTrue e X.env whole = (do let v ← whole; standAt e.pos; holding [v] (truthy v)) := by intro _; rfl) : QT X e (tB te) := ⟨pt_val ha.h he⟩
theorem t_not (ha : QT X a tA) : QT X (.UnaryOp .Not a pos) (tNot tA) := ⟨pt_not ha.h⟩
theorem w_and1 (ha : QT X a tA) : QW X (.BoolOp .And [a] pos) tA := ⟨pw_and1 ha.h⟩
theorem w_or1 (ha : QT X a tA) : QW X (.BoolOp .Or [a] pos) tA := ⟨pw_or1 ha.h⟩
theorem w_and (ha : QT X a tA) (hb : QW X (.BoolOp .And (b :: rest) pos) tB') : QW X (.BoolOp .And (a :: b :: rest) pos) (tAnd tA tB') := ⟨pw_and ha.h hb.h⟩
theorem w_or (ha : QT X a tA) (hb : QW X (.BoolOp .Or (b :: rest) pos) tB') : QW X (.BoolOp .Or (a :: b :: rest) pos) (tOr tA tB') := ⟨pw_or ha.h hb.h⟩
theorem t_w (h : QW X e tA) : QT X e tA := ⟨h.h.pt⟩
theorem t_eq (ha : QE X a ta) (hb : QE X b tb) : QT X (.Compare a [.Eq] [b] pos) (tTest (tOp rEq ta tb)) := ⟨pt_cmpR op_eq ha.h hb.h (nomark _)⟩
theorem t_ne (ha : QE X a ta) (hb : QE X b tb) : QT X (.Compare a [.NotEq] [b] pos) (tTest (tOp rNe ta tb)) := ⟨pt_cmpR op_ne ha.h hb.h (nomark _)⟩
theorem t_lt (ha : QE X a ta) (hb : QE X b tb) : QT X (.Compare a [.Lt] [b] pos) (tTest (tOp (rI0 fun i j => .bl (decide (i < j))) ta tb)) := ⟨pt_cmpR op_lt ha.h hb.h (nomark _)⟩
theorem t_gt (ha : QE X a ta) (hb : QE X b tb) : QT X (.Compare a [.Gt] [b] pos) (tTest (tOp (rI0 fun i j => .bl (decide (j < i))) ta tb)) := ⟨pt_cmpR op_gt ha.h hb.h (nomark _)⟩
theorem t_isN (ha : QE X a ta) (hb : QE X b tb) : QT X (.Compare a [.Is] [b] pos) (tTest (tOp (fun x y H Q => y = .non ∧ Q (.bl (decide (x = .non))) H) ta tb)) := ⟨pt_cmpR op_isN ha.h hb.h (nomark _)⟩
theorem a_nil : QA X [] tNil := ⟨pa_nil⟩
theorem a_c (ha : QE X e te) (hr : QA X es t) (hp : plainE e = true := by rfl) : QA X (e :: es) (tCons te t) := ⟨pa_c ha.h hr.h hp⟩
theorem q_tup {x1} (h : QA X es t) : QE X (.Tuple es x1 pos) (tTup2 t) := ⟨pe_tup2 h.h⟩
theorem q_lst (h : QA X es t) : QE X (.List es pos) (tLst2 t) := ⟨pe_lst2 h.h⟩
theorem q_ixT (ha : QE X a ta) (hb : QE X b tb) (hs : PlainIx b := by intro _ _; rfl) : QE X (.Subscript a b pos) (tOp rIxT2 ta tb) := ⟨pe_ix ix_tup2 ha.h hb.h hs⟩
theorem q_ixL (ha : QE X a ta) (hb : QE X b tb) (hs : PlainIx b := by intro _ _; rfl) : QE X (.Subscript a b pos) (tOp rIxL2 ta tb) := ⟨pe_ix ix_lst2 ha.h hb.h hs⟩
theorem q_ixS (ha : QE X a ta) (hb : QE X b tb) (hs : PlainIx b := by intro _ _; rfl) : QE X (.Subscript a b pos) (tOp (rIxL X.K) ta tb) := ⟨pe_ix ix_list ha.h hb.h hs⟩
theorem q_len (hg : Gl X "len") (hm : X.mg "len" = none) (ha : QA X (e :: es) t) (hp : (e :: es).all plainE = true := by rfl) :
  QE X (.Call (.Name "len" p) (e :: es) [] pos) (tCB (fun xs H Q => ∃ p ys, xs = [.ref p] ∧ (H p = some (.lst ys) ∨ H p = some (.tup ys)) ∧ Q (.int ys.length) H) t) := ⟨pe_cB call_len2 hg hm PySem.boot_len ha.h hp⟩
theorem q_lenS (hg : Gl X "len") (hm : X.mg "len" = none) (ha : QA X (e :: es) t) (hp : (e :: es).all plainE = true := by rfl) :
  QE X (.Call (.Name "len" p) (e :: es) [] pos) (tCB (fun xs H Q => ∃ p ys, xs = [.ref p] ∧ (SqL X.K H p ys ∨ SqT X.K H p ys) ∧ Q (.int ys.length) H) t) := ⟨pe_cB call_len_seq hg hm PySem.boot_len ha.h hp⟩
theorem q_abs (hg : Gl X "abs") (hm : X.mg "abs" = none) (ha : QA X (e :: es) t) (hp : (e :: es).all plainE = true := by rfl) :
  QE X (.Call (.Name "abs" p) (e :: es) [] pos) (tCB (fun xs H Q => ∃ i, xs = [.int i] ∧ Q (.int (if i < 0 then -i else i)) H) t) := ⟨pe_cB call_abs hg hm (by rfl) ha.h hp⟩
theorem q_inst (hg : Gl X "isinstance") (hm : X.mg "isinstance" = none) (ha : QA X (e :: es) t) (hp : (e :: es).all plainE = true := by rfl) :
  QE X (.Call (.Name "isinstance" p) (e :: es) [] pos) (tCB (fun xs H Q => ∃ x n t, xs = [x, .ty n] ∧ kindV H x = some t ∧ n ∈ asks ∧ Q (.bl (isA t n)) H) t) := ⟨pe_cB call_inst hg hm (by rfl) ha.h hp⟩
variable {j k : Nat} {ps : List Str} {sp : Sp}
theorem q_fn (F : Fn X.prog X.w X.K X.mg X.base CX0 j x ps sp) (hr : Room k X.A) (hj : j ≤ k) (hg : Gl X x) (ha : QA X (e :: es) t) (hp : (e :: es).all plainE = true := by rfl) (hdb : (x == ("__debug__" : Str)) = false := by decide) :
  QE X (.Call (.Name x p) (e :: es) [] pos) (tCall sp [] E0 t) := ⟨pe_fn F hr hj hg ha.h hp hdb⟩
theorem q_app {o : Expr} {to : TE} {apos cpos : Pos} (ho : QE X o to) (ha : QA X [e] t) (hbase : attributeBase o "append" X.env (eval o X.env) = eval o X.env := by rfl) (hline : (apos.endLine == cpos.line) = true := by rfl) (hp : plainE e = true := by rfl) :
  QE X (.Call (.Attribute o "append" apos) [e] [] cpos) (tApp to t) :=
 ⟨pe_append ho.h ha.h hbase (by rw [se_cons hp]; rfl) hline (se_cons hp) rfl⟩
end
section
variable {X : Cx} {st : Stmt} {rest a b body : List Stmt} {t u tb : TS} {e c tg it : Expr} {te : TE} {tc : TT} {pos : Pos} {g : TG} {wi : TI}
theorem b_nil : QB X [] tNext := ⟨pss_nil⟩
theorem b_cons (h1 : QS X st t) (h2 : QB X rest u) : QB X (st :: rest) (tSeq t u) := ⟨pss_cons h1.h h2.h⟩
theorem b_one (h1 : QS X st t) : QB X [st] t := ⟨pss_one h1.h⟩
theorem s_ret (he : QE X e te) : QS X (.Return (some e) pos) (tRet te) := ⟨ps_ret he.h⟩
theorem s_if (hc : QT X c tc) (ha : QB X a t) (hb : QB X b u) : QS X (.If c a b pos) (tIfS tc t u) := ⟨ps_if hc.h ha.h hb.h⟩
theorem s_expr (he : QE X e te) (hs : swapsWith e none pos.line X.env = pure false := by rfl) : QS X (.Expr e pos) (tDrop te) := ⟨ps_expr he.h hs⟩
theorem s_set {x : Str} {pos' : Pos} (i : Nat) (hN : X.N.Nodup) (he : QE X e te) (hi : X.N[i]? = some x := by rfl) (hx : Loc X.env.scope x := by first | exact Or.inl rfl | exact Or.inr rfl) (hs : swapsWith e (some (.Name x pos')) pos.line X.env = pure false := by rfl)
  (hf : X.fn x = true ∨ X.env.scope.names.lookup x = some .local := by first | exact .inl rfl | exact .inr rfl | assumption) : QS X (.Assign [.Name x pos'] e pos) (tAsg te (gName i)) := ⟨ps_set hN hi hx he.h hs hf⟩
theorem s_par {x y : Str} {c d : Expr} {ta : TA} {px py pt : Pos} {kt k2 pt2} (i j : Nat) (hN : X.N.Nodup) (ha : QA X [c, d] ta) (hc : X.calm = true := by rfl) (hi : X.N[i]? = some x := by rfl) (hj : X.N[j]? = some y := by rfl) (hij : i ≠ j := by decide)
  (hx : X.env.scope.names.lookup x = some .local := by rfl) (hy : X.env.scope.names.lookup y = some .local := by rfl)
  (hw : swappedStores [.Tuple [.Name x px, .Name y py] kt pt] (.Tuple [c, d] k2 pt2) X.env = pure (some [x, y]) := by rfl)
  (hs : swapsWithSole [.Tuple [.Name x px, .Name y py] kt pt] (.Tuple [c, d] k2 pt2) pos.line X.env = pure false := by rfl) :
  QS X (.Assign [.Tuple [.Name x px, .Name y py] kt pt] (.Tuple [c, d] k2 pt2) pos) (tPar i j ta) := ⟨ps_par hc hN hi hj hij hx hy ha.h hw hs⟩
theorem g_name {x : Str} (i : Nat) (hN : X.N.Nodup) (hi : X.N[i]? = some x := by rfl) (hx : Loc X.env.scope x := by first | exact Or.inl rfl | exact Or.inr rfl) (hf : X.fn x = true ∨ X.env.scope.names.lookup x = some .local := by first | exact .inl rfl | exact .inr rfl | assumption) :
  QG X (.Name x pos) (gName i) := ⟨pg_name hN hi hx hf⟩
theorem gs_nil : QGs X [] gNil := ⟨pgs_nil⟩
theorem gs_cons {es : List Expr} {v : TGs} (h1 : QG X e g) (h2 : QGs X es v) (hs : (assignEach (e :: es) X.env).map (·.2) = assign e X.env :: (assignEach es X.env).map (·.2) := by rfl) : QGs X (e :: es) (gCons g v) := ⟨pgs_cons h1.h h2.h hs⟩
theorem g_tup {es : List Expr} {k : Nat} {v : TGs} {n : Nat} (h : QGs X es v) (hc : X.calm = true := by rfl) (hn : (assignEach es X.env).length = n := by rfl) (hst : (assignEach es X.env).findIdx? (·.1) = none := by rfl) :
  QG X (.Tuple es k pos) (gTup2 n v) := ⟨pg_tup2 hc h.h hn hst⟩
theorem s_while (hp : PassesOwn (model X.prog X.w) X.A X.env X.xe) (hc : QT X c tc) (hb : QB X body tb) : QS X (.While c body [] pos) (tWhile tc tb) := ⟨ps_while hp hc.h hb.h⟩
theorem s_for (hp : PassesOwn (model X.prog X.w) X.A X.env X.xe) (hi : QI X tg it wi) (hg : QG X tg g) (hb : QB X body tb) (hc : X.calm = true := by rfl) (hs : ∀ x, foldedSetIterable it X.env x = pure x := by intro _; rfl) :
  QS X (.For tg it body [] pos) (tFor wi g tb) := ⟨ps_for hp hc hi.h hg.h hb.h hs⟩
theorem i_list (hl : QE X e te) : QI X tg e (iList X.K te) := ⟨pi_list hl.h⟩
theorem i_rng1 {c : Expr} {ta : TA} {p : Pos} (hg : Gl X "range") (hm : X.mg "range" = none) (ha : QA X [c] ta) (hp : plainE c = true := by rfl) : QI X tg (.Call (.Name "range" p) [c] [] pos) (iRng1 ta) := ⟨pi_range1 hg hm ha.h (se_cons hp)⟩
theorem i_rng2 {c d : Expr} {ta : TA} {p : Pos} (hg : Gl X "range") (hm : X.mg "range" = none) (ha : QA X [c, d] ta) (hp : plainE c = true := by rfl) (hq : plainE d = true := by rfl) :
  QI X tg (.Call (.Name "range" p) [c, d] [] pos) (iRng2 ta) := ⟨pi_range2 hg hm ha.h (by rw [se_cons hp, se_cons hq]; rfl) (se_cons hq)⟩
end
theorem okQ {P : Program} {w : World} {K : PySem.W.Frag} {mg : Str → Option Value} {base : Heap} {x qual : Str} {st : Stmt} {f : Addr} {fd : FuncData} {N ps : List Str} {k : Nat} {sp : Sp} (F : Fun K x qual st f fd) (S : FnScope N ps (defScope st)) (len : ∀ vs H Q E, sp vs H Q E → vs.length = ps.length)
  (hbody : ∀ (cdv : Value) (A : Around) (outer : List Env) (s : Shared) (H : Hp) (vs : List V) (Q : VK) (E : XK), Room k (A.deeper (envOfC qual (defScope st) s.heap.objs.size f cdv)) → sp vs H Q E →
   ∃ t, QB (cxOf CX0 P w K mg base N qual (defScope st) f cdv A outer s H E).nox (defBody st) t ∧ t { nx := fun _ H' => Q .non H', rt := Q } (start N vs) H) : FnOk P w K mg base CX0 (k + 1) f fd ps sp :=
 F.ok S len fun cdv A outer s H vs Q E hr h => by
  obtain ⟨t, q, r⟩ := hbody cdv A outer s H vs Q E hr h
  exact ⟨t, q.h, r⟩
end My
namespace My
open PySem PySem.Spec L2
open PyProof.Rows hiding St
theorem there_of {P : Program} {w : World} {H : Hp} {h : Heap} {a : Addr} {o : HO} (x : ObjOk P w H h a o) : ∃ u, h.get? a = some u := by
 cases o with
 | lst xs => obtain ⟨_, _, _, _, e⟩ := x; exact ⟨_, e⟩
 | tup xs => obtain ⟨_, _, _, u, e, _⟩ := x; exact ⟨_, e⟩
 | dK kvs => obtain ⟨_, _, _, _, u, _, _, e, _⟩ := x; exact ⟨u, e⟩
 | dT kvs => obtain ⟨_, _, _, _, u, _, _, e, _⟩ := x; exact ⟨u, e⟩
 | set S n => obtain ⟨u, _, _, _, e, _⟩ := x; exact ⟨_, e⟩
 | ins C dx fs => obtain ⟨_, _, _, e, _⟩ := x; exact ⟨_, e⟩
 | own y => exact x
 | xd fs => obtain ⟨_, ⟨u, _, _, e, _⟩, _⟩ := x; exact ⟨_, e⟩
 | rng lo hi => obtain ⟨_, _, _, e⟩ := x; exact ⟨_, e⟩
 | frz ob u => exact ⟨_, x.1⟩
 | tbl ps => obtain ⟨_, e, _⟩ := x; exact ⟨_, e⟩
 | met f y => exact ⟨_, x⟩
 | ext φ => exact x.2.1
structure Cv (X : Cx) (pins : List (Addr × Obj)) (B : Heap) (H : Hp) : Prop where
 old : ∀ b o, X.s₀.heap.get? b = some o → b ∉ frs X.stack → ∃ o', B.get? b = some o'
 trk : ∀ b o, H b = some o → ∃ o', B.get? b = some o'
 cel : ∀ x c, X.env.cells.lookup x = some c → ∃ o', B.get? c = some o'
 pin : ∀ p ∈ X.pn ++ pins, ∃ o', B.get? p.1 = some o'
section
variable {X : Cx} {pins : List (Addr × Obj)} {σ : St} {H : Hp} {s : Shared}
theorem step2 {h' : Heap} {t' : Nat} {ch : List Addr} (I : Inv X pins σ H s)
  (hch : ∀ b ∈ ch, (∀ o, X.s₀.heap.get? b = some o → b ∈ X.ex) ∧ b ≠ X.env.locals ∧ (∀ x c, X.env.cells.lookup x = some c → c ≠ b) ∧ ∀ p ∈ X.pn ++ pins, p.1 ≠ b)
  (keep : ∀ b o, b ≠ X.env.locals → b ∉ X.fs → b ∉ ch → s.heap.get? b = some o → h'.get? b = some o)
  (slot : ∀ b o, b ∈ X.fs → s.heap.get? b = some o → ∃ sl, h'.get? b = some { o with slots := sl })
  (ns : ∀ m, s.heap.Ns X.env.locals m → h'.Ns X.env.locals m) (hok : HOk X.prog X.w H h') :
  Inv X pins σ H { s with heap := h', toks := t' } := by
 have neL : ∀ b o, X.s₀.heap.get? b = some o → b ≠ X.env.locals := fun b o e => Nat.ne_of_lt (Nat.lt_of_lt_of_le (Heap.lt_size e) I.ok.above)
 have neC : ∀ b o, X.s₀.heap.get? b = some o → b ∉ X.ex → b ∉ ch := fun b o e hx hb => hx ((hch b hb).1 o e)
 have cellK : ∀ x c, X.env.cells.lookup x = some c → ∀ v, s.heap.IsCell c v → h'.IsCell c v := fun x c e v ⟨o, ho, hd⟩ => by
  have nch : c ∉ ch := fun z => (hch c z).2.2.1 x c e rfl
  by_cases hc : c ∈ X.fs
  ·obtain ⟨sl, q⟩ := slot c o hc ho
   exact ⟨_, q, hd⟩
  ·exact ⟨o, keep c o (I.cne x c e) hc nch ho, hd⟩
 refine ⟨I.ok, I.os, I.bare, ⟨fun b o e n hb hx => ?_, fun b o e n hb hx => ?_, I.base.free, fun b o e hx => ?_, I.base.tups, I.base.frzs, I.base.tbls⟩, ?_, fun x c e => ?_, I.free, I.freeC, fun p hp => ?_, hok, I.len⟩
 ·exact keep b o (neL b o e) hb (neC b o e hx) (I.base.keep b o e n hb hx)
 ·obtain ⟨sl, e1⟩ := I.base.slot b o e n hb hx
  obtain ⟨sl', e2⟩ := slot b _ hb e1
  exact ⟨sl', e2⟩
 ·obtain ⟨o', e1⟩ := I.base.there b o e hx
  by_cases hb : b ∈ X.fs
  ·obtain ⟨sl, e2⟩ := slot b _ hb e1
   exact ⟨_, e2⟩
  ·exact ⟨o', keep b o' (neL b o e) hb (neC b o e hx) e1⟩
 ·obtain ⟨m, hn, hl⟩ := I.loc
  refine ⟨m, ns m hn, fun i x v e1 e2 e3 => ?_⟩
  obtain ⟨u, r, l⟩ := hl i x v e1 e2 e3
  refine ⟨u, r, ?_⟩
  rcases l with l | ⟨k, c, e, z⟩
  ·exact .inl l
  ·exact .inr ⟨k, c, e, cellK x c e _ z⟩
 ·obtain ⟨v, z⟩ := I.cell x c e
  exact ⟨v, cellK x c e v z⟩
 ·obtain ⟨e, n, ne, nf, d⟩ := I.pin p hp
  have nch : p.1 ∉ ch := fun z => (hch p.1 z).2.2.2 p hp rfl
  exact ⟨keep p.1 p.2 ne nf nch e, n, ne, nf, d⟩
theorem fly {B h' : Heap} {t' : Nat} (I : Inv X pins σ H s) (hst : X.stack = X.env :: X.outer) (hfr : X.env.frame = some X.env.locals) (c : Cv X pins B H)
  (k0 : B.StaysIn s.heap) (k : B.StaysIn h') (u : s.heap.UpToSlots h') : Inv X pins σ H { s with heap := h', toks := t' } := by
 have mem : ∀ b, b ∈ frs X.stack ↔ b = X.env.locals ∨ b ∈ X.fs := fun b => by
  show b ∈ frs X.stack ↔ b = X.env.locals ∨ b ∈ frs X.outer
  rw [hst]
  unfold frs
  rw [List.filterMap_cons_some hfr, List.mem_cons]
 let ch : List Addr := (List.range s.heap.objs.size).filter fun b => (B.get? b).isNone && (s.heap.get? b).isSome && !decide (b ∈ frs X.stack)
 have hc : ∀ b, b ∈ ch → B.get? b = none ∧ b ∉ frs X.stack := fun b hb => by
  have z := (List.mem_filter.mp hb).2
  simp only [Bool.and_eq_true, Option.isNone_iff_eq_none, Bool.not_eq_true', decide_eq_false_iff_not] at z
  exact ⟨z.1.1, z.2⟩
 have inB : ∀ b o, s.heap.get? b = some o → b ∉ ch → b ∉ frs X.stack → B.get? b = some o := fun b o e nc nf => by
  cases q : B.get? b with
  | none =>
   refine absurd (List.mem_filter.mpr ⟨List.mem_range.mpr (Heap.lt_size e), ?_⟩) nc
   simp only [q, e, Option.isNone_none, Option.isSome_some, Bool.true_and, Bool.and_true, Bool.not_eq_true', decide_eq_false_iff_not]
   exact nf
  | some o' =>
   have z := k0 b o' q
   rw [e] at z
   exact z.symm ▸ rfl
 refine step2 (ch := ch) I (fun b hb => ?_) (fun b o n1 n2 n3 e => ?_) (fun b o hb e => ?_) (fun m hm => u.ns hm) (fun b o e => ?_)
 ·obtain ⟨n, nf⟩ := hc b hb
  refine ⟨fun o e => ?_, fun z => nf ((mem b).mpr (.inl z)), fun x a e z => ?_, fun p hp z => ?_⟩
  ·obtain ⟨o', q⟩ := c.old b o e nf
   rw [n] at q; cases q
  ·obtain ⟨o', q⟩ := c.cel x a e
   rw [z, n] at q; cases q
  ·obtain ⟨o', q⟩ := c.pin p hp
   rw [z, n] at q; cases q
 ·exact k b o (inB b o e n3 fun z => ((mem b).mp z).elim n1 n2)
 ·obtain ⟨_, o', e', nd⟩ := I.funs.mem hb
  rw [e] at e'; cases e'
  exact u b o e nd
 ·refine (I.hok b o e).stay (fun a v ha q => ?_) (fun _ q => q) fun _ _ q => q
  have tr : ∃ o', H a = some o' := by
   rcases ha with rfl | z
   ·exact ⟨_, e⟩
   ·exact ⟨_, z⟩
  obtain ⟨o', z⟩ := tr
  obtain ⟨o2, z2⟩ := c.trk a o' z
  have z3 := k0 a o2 z2
  rw [q] at z3
  cases z3
  exact k a v z2
end
def CX1 (P : Program) (w : World) : CXT := fun outer H s E e s' => ∃ (ea C : Addr) (a0 : Value) (B : Heap) (H' : Hp), e = .ref ea ∧ s'.os = s.os ∧ AllBare s'.gens ∧ Un (frs outer) [] H H' s.heap s'.heap ∧ HOk P w H' s'.heap ∧
 Heap.FlyingW B outer ea (.ref C) a0 s'.heap ∧ (∀ b o, s.heap.get? b = some o → b ∉ frs outer → ∃ o', B.get? b = some o') ∧ (∀ b o, H' b = some o → ∃ o', B.get? b = some o') ∧ E (.ref C) none H'
structure Body (X : Cx) : Prop where
 st : X.stack = X.env :: X.outer
 fr : X.env.frame = some X.env.locals
 ex : X.ex = []
 fn : ∀ x, X.fn x = true
structure Goes (X : Cx) (E : XK) : Prop extends Body X where
 xe : ∀ e s', wpAny (model X.prog X.w) X.A (leaving X.env e) (fun _ s'' => CX1 X.prog X.w X.outer X.H₀ X.s₀ E e s'') (fun e' s'' => CX1 X.prog X.w X.outer X.H₀ X.s₀ E e' s'') s' → X.xe e s'
section
variable {X : Cx} {E : XK} {pins : List (Addr × Obj)} {σ : St} {H : Hp} {s : Shared}
theorem Body.apart (b : Body X) (I : Inv X pins σ H s) : (∀ x c, X.env.cells.lookup x = some c → (∃ o, s.heap.get? c = some o) ∧ c ∉ frs X.stack) ∧ (∀ p ∈ X.pn ++ pins, s.heap.get? p.1 = some p.2 ∧ p.1 ∉ frs X.stack) ∧
  (∀ a o, X.s₀.heap.get? a = some o → ∃ o', s.heap.get? a = some o') ∧ (∀ a o, H a = some o → (∃ o', s.heap.get? a = some o') ∧ a ∉ frs X.stack) := by
 refine ⟨fun x c e => ?_, fun p hp => ?_, fun a o e => ?_, fun a o e => ?_⟩
 ·obtain ⟨v, o, ho, hd⟩ := I.cell x c e
  refine ⟨⟨o, ho⟩, fun z => ?_⟩
  rcases List.mem_cons.mp (I.stkSub c z) with q | q
  ·exact I.cne x c e q
  ·obtain ⟨_, o', e', _⟩ := I.ok.funs.mem q
   exact absurd (Nat.lt_of_lt_of_le (Heap.lt_size e') (I.ok.cab x c (b.fn x) e)) (Nat.lt_irrefl _)
 ·obtain ⟨e, n, ne, nf, d⟩ := I.pin p hp
  exact ⟨e, fun z => (List.mem_cons.mp (I.stkSub _ z)).elim ne nf⟩
 ·exact I.base.there a o e (by rw [b.ex]; exact List.not_mem_nil)
 ·exact ⟨there_of (I.hok a o e), fun z => by rw [I.stkFree a z] at e; cases e⟩
theorem Body.cv (b : Body X) (I : Inv X pins σ H s) {B : Heap} {H' : Hp} (cov : ∀ a o, s.heap.get? a = some o → a ∉ frs X.stack → ∃ o', B.get? a = some o') (trk : ∀ a o, H' a = some o → ∃ o', B.get? a = some o') : Cv X pins B H' := by
 obtain ⟨h1, h2, h3, _⟩ := b.apart I
 refine ⟨fun a o e n => ?_, trk, fun x c e => ?_, fun p hp => ?_⟩
 ·obtain ⟨o', e'⟩ := h3 a o e
  exact cov a o' e' n
 ·obtain ⟨⟨o, e'⟩, n⟩ := h1 x c e
  exact cov c o e' n
 ·obtain ⟨e', n⟩ := h2 p hp
  exact cov p.1 p.2 e' n
theorem Goes.raise (b : Goes X E) (I : Inv X pins σ H s) {h' : Heap} {e C : Addr} {vs : List Value} (hx : Heap.MadeExcOf s.heap h' e (.ref C) vs) (q : E (.ref C) none H) : X.xe (.ref e) { s with heap := h' } := by
 refine b.xe _ _ ?_
 have hB : (PySem.W.hideAll s.heap (frs X.stack)).StaysIn s.heap := fun a o z => PySem.W.of_hideAll _ z
 have hl : s.heap.FunFrames (PySem.W.hideAll s.heap (frs X.stack)) (X.env :: X.outer) := by
  have z := PySem.W.funFrames_hide (as := frs X.stack) I.stack fun env he a ha => List.mem_filterMap.mpr ⟨env, he, ha⟩
  rw [b.st] at z ⊢
  exact z
 have hfr : X.A.frames = some (X.env :: X.outer) := by rw [I.ok.frames, b.st]
 have cov : ∀ a o, s.heap.get? a = some o → a ∉ frs X.stack → ∃ o', (PySem.W.hideAll s.heap (frs X.stack)).get? a = some o' := fun a o z n => ⟨o, PySem.W.hideAll_get _ z n⟩
 have cv : Cv X pins (PySem.W.hideAll s.heap (frs X.stack)) H := b.toBody.cv I cov fun a o z => by
  obtain ⟨⟨o', z'⟩, n⟩ := (b.toBody.apart I).2.2.2 a o z
  exact cov a o' z' n
 refine wpAny_leaves_madeW (s := { s with heap := h' }) hfr b.fr hB hl hx fun h'' t fl tp bt us => ?_
 have us' : s.heap.UpToSlots h'' := (Heap.UpToSlots.of_keeps hx.keeps).trans us
 have I' := fly (t' := s.toks) I b.st b.fr cv hB fl.1 us'
 refine ⟨e, C, .ref t, _, H, rfl, I'.os, I'.bare, ?_, I'.hok, fl, fun a o z n => ?_, cv.trk, q⟩
 ·have z := I'.base
  rw [b.ex] at z
  exact z
 ·obtain ⟨o', z'⟩ := (b.toBody.apart I).2.2.1 a o z
  refine cov a o' z' fun m => ?_
  rcases List.mem_cons.mp (I.stkSub a m) with w | w
  ·exact absurd (Nat.lt_of_lt_of_le (Heap.lt_size z) (w ▸ I.ok.above)) (Nat.lt_irrefl _)
  ·exact n w
theorem Goes.pass (b : Goes X E) : Passes (CX1 X.prog X.w) X E := by
 intro pins σ H s e s' I h
 obtain ⟨ea, C, a0, B, H', rfl, ho, hg, un, hok, fl, cov, trk, q⟩ := h
 refine b.xe _ _ ?_
 have I1 : Inv X pins σ H' s' := I.call' (ch := []) ho un hok hg fun _ z => nomatch z
 have hfr : X.A.frames = some (X.env :: X.outer) := by rw [I.ok.frames, b.st]
 have cv : Cv X pins B H' := b.toBody.cv I cov trk
 rw [b.st] at fl
 refine wpAny_leaves_onW hfr b.fr fl fun h'' fl' us => ?_
 have I' := fly (t' := s'.toks) I1 b.st b.fr cv fl.1 fl'.1 us
 refine ⟨ea, C, a0, B, H', rfl, I'.os, I'.bare, ?_, I'.hok, fl', fun a o z n => ?_, trk, q⟩
 ·have z := I'.base
  rw [b.ex] at z
  exact z
 ·obtain ⟨o', z'⟩ := (b.toBody.apart I).2.2.1 a o z
  refine cov a o' z' fun m => ?_
  rcases List.mem_cons.mp (I.stkSub a m) with w | w
  ·exact absurd (Nat.lt_of_lt_of_le (Heap.lt_size z) (w ▸ I.ok.above)) (Nat.lt_irrefl _)
  ·exact n w
end
theorem goes_of {P : Program} {w : World} {K : PySem.W.Frag} {mg : Str → Option Value} {base : Heap} {N : List Str} {qual : Str} {scope : Scope} {f : Addr} {cd : Value} {A : Around} {outer : List Env} {s : Shared} {H : Hp} {E : XK} :
  Goes (cxOf (CX1 P w) P w K mg base N qual scope f cd A outer s H E) E := ⟨⟨rfl, rfl, rfl, fun _ => rfl⟩, fun _ _ h => h⟩
def veMro : List Value := [.type "ValueError", .type "Exception", .type "BaseException", .type "object"]
def ErrC (K : PySem.W.Frag) (C : Addr) : Prop := PySem.W.excIn K C veMro "ValueError.__new__" = true
theorem own_cls {K : PySem.W.Frag} {h : Heap} {mg : Str → Option Value} {x : Str} {C : Addr} (X : K.In h) (m : mg x = some (.ref C)) (q : ErrC K C) : OwnCls x C veMro "ValueError.__new__" mg h := by
 refine ⟨m, ?_⟩
 have q := q
 unfold ErrC PySem.W.excIn at q
 split at q
 ·rename_i dd cd sl look
  split at q
  ·rename_i C1 bm1 z0 z1 z2 z3 n1 z5 mro1 sl1
   simp only [Bool.and_eq_true, beq_iff_eq, Bool.not_eq_true'] at q
   obtain ⟨⟨⟨⟨⟨rfl, rfl⟩, nodel⟩, tl⟩, nsok⟩, noinit⟩ := q
   obtain ⟨nm, bs, mro, ns, qn, hd, sn, sub, ab, col, del⟩ := cd
   dsimp only at mro1 nodel nsok noinit
   subst mro1 nodel
   have e2 : sl = #[z0, z1, z2, z3, some (.builtin "ValueError.__new__"), z5] := by
    cases sl with
    | mk l => exact congrArg Array.mk sl1
   subst e2
   exact ⟨bm1, ns, nm, qn, bs, hd, sn, sub, ab, col, dd, z0, z1, z2, z3, z5, _, X _ _ look, .of_isNs (PySem.W.isNs_of_in X nsok), PySem.W.nsMap_none_of_in X nsok noinit, PySem.W.tail_of_in X tl⟩
  ·cases q
 ·cases q
section
variable {X : Cx} {E : XK} {x : Str} {C : Addr} {np cpos pos : Pos} {e₀ : Expr} {rest : List Expr} {t : TA}
def tRaise (C : Addr) (E : XK) (t : TA) : TS := fun _ σ H => t σ H fun vs H1 => vs.length ≤ 1000 ∧ E (.ref C) none H1
theorem ps_raise (b : Goes X E) (hc : X.calm = true) (hg : Gl X x) (hm : X.mg x = some (.ref C)) (q : ErrC X.K C) (ha : PA X (e₀ :: rest) t) (hdb : (x == ("__debug__" : Str)) = false := by decide)
  (he : starEach (e₀ :: rest) X.env = (false, eval e₀ X.env) :: starEach rest X.env := by rfl) (hpl : (backTo cpos (starEach rest X.env)).any (·.1) = false := by rfl) :
  PS X (.Raise (some (.Call (.Name x np) (e₀ :: rest) [] cpos)) none pos) (tRaise C E t) := by
 intro pins s σ H D I h
 obtain ⟨bm, N, nm, qn, bs, hdct, sn, sub, ab, col, dd, k0, k1, k2, k3, k5, mN, hC, hN, hni, T⟩ := (own_cls (x := x) I.ok.mod.kin hm q).obj
 refine wpAny_Raise_call_subT (C := C) (nm := nm) (q := qn) (N := N) (bs := bs) (bm := bm) (hdct := hdct) (sn := sn) (sub := sub) (ab := ab) (col := col) (dd := dd) (k0 := k0) (k1 := k1) (k2 := k2) (k3 := k3) (k5 := k5) (mN := mN)
  PySem.F.excBase_ValueError (T.hasType (by decide +kernel)) (I.ok.hd hc) (by rw [he]; show (false || (backTo cpos (starEach rest X.env)).any (·.1)) = false; rw [hpl]; rfl) hni (ld_glob I hg hm ⟨rfl, ?_⟩ hdb)
 have h2 := ha cpos pins s σ H _ I h
 rw [he] at h2 ⊢
 refine Calls.evalArgs_plain (thn h2 fun us s1 ⟨vs, H1, I1, r, z, qE⟩ => ?_)
 exact ⟨rfl, by show us.length ≤ sizeLine; rw [← r.length]; exact le1000 z, I1.bk _ _ hC, hN.keeps I1.bk, T.keeps I1.bk, fun h' e hx => b.raise I1 hx qE⟩
end
def XP (X : Cx) (pins : List (Addr × Obj)) (σ : St) (EX : XK) (e : Value) (s' : Shared) : Prop :=
 ∃ (ea C : Addr) (a0 : Value) (B : Heap) (H' : Hp), e = .ref ea ∧ Inv X pins σ H' s' ∧ Heap.FlyingW B X.stack ea (.ref C) a0 s'.heap ∧ Cv X pins B H' ∧ EX (.ref C) none H'
abbrev TEX := St → Hp → VK → XK → Prop
def PEX (X : Cx) (e : Expr) (t : TEX) : Prop :=
 ∀ (pins : List (Addr × Obj)) (s : Shared) (σ : St) (H : Hp) (Q : VK) (EX : XK), Inv X pins σ H s → t σ H Q EX → wpAny (model X.prog X.w) X.A (eval e X.env) (EP X pins σ Q) (XP X pins σ EX) s
abbrev TSX := Ends → (St → XK) → St → Hp → Prop
def PSsX (X : Cx) (sts : List Stmt) (t : TSX) : Prop :=
 ∀ (pins : List (Addr × Obj)) (s : Shared) (σ : St) (H : Hp) (D : Ends) (EX : St → XK), Inv X pins σ H s → t D EX σ H →
  wpAny (model X.prog X.w) X.A (execs sts X.env) (SP X pins D) (fun e s' => ∃ σ', XP X pins σ' (EX σ') e s') s
def PSX (X : Cx) (st : Stmt) (t : TSX) : Prop :=
 ∀ (pins : List (Addr × Obj)) (s : Shared) (σ : St) (H : Hp) (D : Ends) (EX : St → XK), Inv X pins σ H s → t D EX σ H →
  wpAny (model X.prog X.w) X.A (exec st X.env) (SP X pins D) (fun e s' => ∃ σ', XP X pins σ' (EX σ') e s') s
section
variable {X : Cx} {j k : Nat} {x : Str} {ps : List Str} {sp : Sp} {p pos : Pos} {e : Expr} {es : List Expr} {t : TA} {f : Addr} {fd : FuncData} {ds : List Value} {dvs : List V}
def tCallX (sp : Sp) (dvs : List V) (t : TA) : TEX := fun σ H Q EX => t σ H fun vs H1 => sp (vs ++ dvs) H1 Q EX
theorem runX (b : Body X) (F : FnOk X.prog X.w X.K X.mg X.base (CX1 X.prog X.w) k f fd ps sp) (hr : Room k X.A) (hb : Binds X.K fd ps ds) (hd : Vals dvs ds) {pins : List (Addr × Obj)} {σ : St} {H : Hp} {s : Shared} {Q : VK} {EX : XK} {us : List Value} {vs : List V}
  (I : Inv X pins σ H s) (r : Vals vs us) (h : sp (vs ++ dvs) H Q EX) : wpAny (model X.prog X.w) X.A (call (.ref f) us) (EP X pins σ Q) (XP X pins σ EX) s := by
 have r2 : Vals (vs ++ dvs) (us ++ ds) := r.append hd
 have hl : (us ++ ds).length = ps.length := by rw [← r2.length]; exact F.len _ _ _ _ h
 refine wpAny_call (codeAny_mono (F.run X.A X.stack s H ⟨us, []⟩ (us ++ ds) (vs ++ dvs) Q EX hr I.env0 (hb s us I.kIn hl) r2 h) fun r s' hq => ?_)
 cases r with
 | error e =>
  obtain ⟨ea, C, a0, B, H', rfl, ho, hg, un, hok, fl, cov, trk, q⟩ := hq
  exact ⟨ea, C, a0, B, H', rfl, I.call' (ch := []) ho un hok hg (fun _ z => nomatch z), fl, b.cv I cov trk, q⟩
 | ok w =>
  cases w with
  | ret u => exact I.after hq
  | next => exact False.elim hq
  | brk => exact False.elim hq
  | cont => exact False.elim hq
theorem pex_call (b : Body X) (F : FnOk X.prog X.w X.K X.mg X.base (CX1 X.prog X.w) k f fd ps sp) (hr : Room k X.A) (hg : Gl X x) (hm : X.mg x = some (.ref f)) (hk : PySem.W.keepIn X.K (.ref f) = true) (hb : Binds X.K fd ps ds) (hd : Vals dvs ds)
  (ha : PA X.nox (e :: es) t) (hdb : (x == ("__debug__" : Str)) = false := by decide) (he : starEach (e :: es) X.env = (false, eval e X.env) :: starEach es X.env := by rfl) (hpl : (backTo pos (starEach es X.env)).any (·.1) = false := by rfl) :
  PEX X (.Call (.Name x p) (e :: es) [] pos) (tCallX sp dvs t) := by
 intro pins s σ H Q EX I h
 refine wpAny_Call_Name_kw (ld_glob I hg hm ?_ hdb)
 refine PySem.W.callWith_K (h₀ := X.base) I.ok.mod.kin hk (wpAny_mono (ha pos pins s σ H _ (I.wish _) h) (fun us s1 ⟨vs, H1, I1, r, q⟩ => ⟨I1.kIn, ?_⟩) fun _ _ z => z.elim) he hpl
 exact runX b F hr hb hd I1.unwish r q
theorem psx_expr {te : TEX} (he : PEX X e te) (hs : swapsWith e none pos.line X.env = pure false := by rfl) : PSX X (.Expr e pos) (fun D EX σ H => te σ H (fun _ H1 => D.nx σ H1) (EX σ)) := by
 intro pins s σ H D EX I h
 exact wpAny_Expr_any (wpAny_mono (he pins s σ H _ _ I h) (fun v s1 ⟨y, H1, I1, r1, q1⟩ => ⟨σ, H1, I1, q1⟩) fun _ _ z => ⟨σ, z⟩) I.quiet hs
theorem pssx_one {st : Stmt} {u : TSX} (h : PSX X st u) : PSsX X [st] u := by
 intro pins s σ H D EX I hq
 refine wpAny_execs_cons (wpAny_mono (h pins s σ H D EX I hq) (fun fl s1 q => ?_) fun _ _ z => z)
 cases fl with
 | next => exact wpAny_execs_nil q
 | brk => exact q
 | cont => exact q
 | ret v => exact q
end
end My
namespace My
open PySem PySem.Spec L2
open PyProof.Rows hiding St
abbrev Xh (X : Cx) (ea : Addr) : Cx := { X with A := X.A.mark (some (.ref ea)), calm := false, xe := fun _ _ => False }
section
variable {X : Cx} {pins : List (Addr × Obj)} {σ : St} {H : Hp} {s : Shared} {ea : Addr}
theorem okH (ok : X.Ok) : (Xh X ea).Ok := ⟨ok.mod, ok.kind, ok.glob, ok.blt, ok.above, ok.inj, ok.has, ok.cab, (fun z => nomatch z), ok.frames, ok.stk, ok.exf, ok.bs, ok.bsz, ok.noex, ok.exfs, ok.funs, ok.frf⟩
theorem toH (I : Inv X pins σ H s) : Inv (Xh X ea) pins σ H s := ⟨okH I.ok, I.os, I.bare, I.base, I.loc, I.cell, I.free, I.freeC, I.pin, I.hok, I.len⟩
theorem ofH (ok : X.Ok) (I : Inv (Xh X ea) pins σ H s) : Inv X pins σ H s := ⟨ok, I.os, I.bare, I.base, I.loc, I.cell, I.free, I.freeC, I.pin, I.hok, I.len⟩
def ExcAt (C ea : Addr) (h : Heap) : Prop := ∃ o, h.get? ea = some o ∧ o.cls = .ref C
def hoExc (C ea : Addr) : HO := .ext (ExcAt C ea)
theorem track {o : HO} (I : Inv X pins σ H s) (hn : H ea = none) (h0 : ∀ u, X.s₀.heap.get? ea = some u → False) (hL : ea ≠ X.env.locals) (hc : ∀ x c, X.env.cells.lookup x = some c → c ≠ ea)
  (hp : ∀ p ∈ X.pn ++ pins, p.1 ≠ ea) (new : ObjOk X.prog X.w (upd H ea o) s.heap ea o) : Inv X pins σ (upd H ea o) s := by
 have ne : ∀ b u, H b = some u → b ≠ ea := fun b u e z => by rw [z, hn] at e; cases e
 refine ⟨I.ok, I.os, I.bare, ⟨I.base.keep, I.base.slot, fun b u e n hx => ?_, I.base.there, fun b xs e => ?_, fun b u v e => ?_, fun b qs e => ?_⟩, I.loc, I.cell, ?_, fun x c e => ?_, fun p h => ?_, fun b u e => ?_, I.len⟩
 ·rw [upd_ne (fun (z : b = ea) => h0 u (by rw [← z]; exact e))]
  exact I.base.free b u e n hx
 ·have z := I.base.tups b xs e
  rw [upd_ne (ne b _ z)]; exact z
 ·have z := I.base.frzs b u v e
  rw [upd_ne (ne b _ z)]; exact z
 ·obtain ⟨more, z⟩ := I.base.tbls b qs e
  exact ⟨more, by rw [upd_ne (ne b _ z)]; exact z⟩
 ·rw [upd_ne (Ne.symm hL)]; exact I.free
 ·rw [upd_ne (hc x c e)]; exact I.freeC x c e
 ·obtain ⟨e, n, r⟩ := I.pin p h
  exact ⟨e, by rw [upd_ne (hp p h)]; exact n, r⟩
 ·by_cases z : b = ea
  ·subst z
   rw [upd_same] at e
   cases e
   exact new
  ·rw [upd_ne z] at e
   refine (I.hok b u e).stay (fun _ _ _ q => q) (fun c q => ?_) (fun c xs q => ?_) fun c o q => ?_
   ·rw [upd_ne (ne c _ q)]; exact q
   ·rw [upd_ne (ne c _ q)]; exact q
   ·rw [upd_ne (ne c _ q)]; exact q
theorem gone {i : Nat} {n : Str} {pos : Pos} {M : Model} {A : Around} {E : Value → Shared → Prop} {Q : Unit → Shared → Prop} (I : Inv X pins σ H s) (hN : X.N.Nodup) (hi : X.N[i]? = some n) (hk : X.env.scope.names.lookup n = some .local)
  (h : ∀ s', Inv X pins (σ.set i none) H s' → Q () s') : wpAny M A (do bindName X.env n .none; unbindBehindTheSuite X.env n pos) Q E s := by
 obtain ⟨m, hn, hl⟩ := id I.loc
 have hcls : (X.env.scope.kind == .class || (X.env.scope.kind == .module && X.env.locals != X.env.globals)) = false := by rw [I.ok.kind]; rfl
 refine wpAny_nameGoes_keeps hk hn hcls fun h' v hn' hs => ?_
 have ob : ∀ b o, X.s₀.heap.get? b = some o → b ≠ X.env.locals := fun b o e => Nat.ne_of_lt (Nat.lt_of_lt_of_le (Heap.lt_size e) I.ok.above)
 refine h _ ⟨I.ok, I.os, I.bare, ⟨fun b o e n' hb hx => ?_, fun b o e n' hb hx => ?_, I.base.free, fun b o e hx => ?_, I.base.tups, I.base.frzs, I.base.tbls⟩, ⟨_, hn', fun j y v' e1 e2 e3 => ?_⟩, fun y c e => ?_, I.free, I.freeC, fun p hp => ?_, fun b u e => ?_, by simpa using I.len⟩
 ·exact (hs.2 b (ob b o e)).trans (I.base.keep b o e n' hb hx)
 ·obtain ⟨sl, e1⟩ := I.base.slot b o e n' hb hx
  exact ⟨sl, (hs.2 b (ob b o e)).trans e1⟩
 ·obtain ⟨o', e1⟩ := I.base.there b o e hx
  exact ⟨o', (hs.2 b (ob b o e)).trans e1⟩
 ·by_cases hj : j = i
  ·subst hj
   have hiσ : j < σ.length := by rw [I.len]; exact (List.getElem?_eq_some_iff.mp hi).1
   rw [List.getElem?_set_self hiσ] at e2
   cases e2
  ·rw [List.getElem?_set_ne (Ne.symm hj)] at e2
   obtain ⟨u', r', q⟩ := hl j y v' e1 e2 e3
   refine ⟨u', r', ?_⟩
   rcases q with ⟨k, e⟩ | ⟨k, c, e, z⟩
   ·refine .inl ⟨k, ?_⟩
    have ny : y ≠ n := fun e => hj (nodup_ix hN e1 (e ▸ hi))
    show (if y = n then v else m y) = _
    rw [if_neg ny]; exact e
   ·exact .inr ⟨k, c, e, z.sameBut hs (I.cne y c e)⟩
 ·obtain ⟨w', z⟩ := I.cell y c e
  exact ⟨w', z.sameBut hs (I.cne y c e)⟩
 ·obtain ⟨e, n', ne, nf, d⟩ := I.pin p hp
  exact ⟨(hs.2 p.1 ne).trans e, n', ne, nf, d⟩
 ·refine (I.hok b u e).stay (fun c w' hc q => (hs.2 c fun z => ?_).trans q) (fun _ q => q) fun _ _ q => q
  have fr := I.free
  rcases hc with z' | z'
  ·rw [← z, z', e] at fr; cases fr
  ·rw [← z, z'] at fr; cases fr
end
def tHand (K : PySem.W.Frag) (D : Addr) (i : Nat) (th : Addr → TS) (En : Ends) (σ : St) : XK := fun c _ H' => ∃ C, c = .ref C ∧ PySem.W.exmOne K (.ref C) (.ref D) = some true ∧ ∀ ea, H' ea = none →
 th ea { nx := fun σ2 H2 => En.nx (σ2.set i none) H2, rt := En.rt, bk := fun σ2 H2 => En.bk (σ2.set i none) H2, ct := fun σ2 H2 => En.ct (σ2.set i none) H2 } (σ.set i (some (.ref ea))) (upd H' ea (hoExc C ea))
def tTry (K : PySem.W.Frag) (tb : TSX) (D : Addr) (i : Nat) (th : Addr → TS) : TS := fun En σ H => tb En (tHand K D i th En) σ H
section
variable {X : Cx} {body : List Stmt} {x n : Str} {np hpos pos : Pos} {b₀ : Stmt} {suite : List Stmt} {tb : TSX} {th : Addr → TS} {D : Addr} {i : Nat}
theorem ps_try (b : Body X) (hb : PSsX X body tb) (hg : Gl X x) (hm : X.mg x = some (.ref D)) (hN : X.N.Nodup) (hi : X.N[i]? = some n) (hk : X.env.scope.names.lookup n = some .local) (hs : ∀ ea, PSs (Xh X ea) (b₀ :: suite) (th ea))
  (hdb : (x == ("__debug__" : Str)) = false := by decide) :
  PS X (.Try body [.ExceptHandler (some (.Name x np)) (some n) (b₀ :: suite) hpos] [] [] pos) (tTry X.K tb D i th) := by
 intro pins s σ H En I h
 refine wpAny_Try_except (wpAny_mono (hb pins s σ H En _ I h) (fun fl s1 q => ?_) fun e s1 q => ?_)
 ·cases fl with
  | next => exact wpAny_execs_nil q
  | brk => exact q
  | cont => exact q
  | ret v => exact q
 ·obtain ⟨σ1, ea, C, a0, B, H1, rfl, I1, fl, cv, C', eC, hx, q⟩ := q
  cases eC
  have hfr : X.A.frames = some (X.env :: X.outer) := by rw [I.ok.frames, b.st]
  have flS := fl
  rw [b.st] at fl
  refine wpAny_looks_onW hfr b.fr fl fun h4 held us4 => ?_
  refine wpAny_landsW (s := { s1 with heap := h4 }) held fun h5 fl5 us5 => ?_
  have I5 : Inv X pins σ1 H1 { s1 with heap := h5, toks := s1.toks } := fly I1 b.st b.fr cv fl.1 fl5.1 (us4.trans us5)
  refine wpAny_handleBy_cons (codeAny_handlers_test ?_) (by intro z; cases z)
  refine ld_glob (X := Xh X ea) (toH I5) hg hm ?_ hdb
  obtain ⟨oe, he, hec⟩ := fl5.there
  have LT : PySem.W.Looks (model X.prog X.w) h5 (typeOf (.ref ea)) (.ref C) := hec ▸ (PySem.W.Looks.ld he).andThen .now
  refine PySem.W.exm_one (K := X.K) I5.kIn LT hx _ _ _ _ (fun _ _ z => z) ?_
  refine codeAny_handlers_suite_as ?_
  refine lands_againW (s := { s1 with heap := h5 }) fl5 fun h6 fl6 us6 => ?_
  have I6 : Inv X pins σ1 H1 { s1 with heap := h6, toks := s1.toks } := fly I1 b.st b.fr cv fl.1 fl6.1 ((us4.trans us5).trans us6)
  obtain ⟨oe6, he6, hec6⟩ := fl6.there
  have nB : B.get? ea = none := fl6.2.1
  have hn : H1 ea = none := by
   cases z : H1 ea with
   | none => rfl
   | some o =>
    obtain ⟨o', z'⟩ := cv.trk ea o z
    rw [nB] at z'; cases z'
  have nfr : ea ∉ frs X.stack := fun z => by
   obtain ⟨_, o, z1, z2⟩ := I6.stack.mem z
   obtain ⟨oe', vs, T, oT, ts, y1, _, y2, _⟩ := fl6.2.2.2
   have z1 : h6.get? ea = some o := z1
   rw [y1] at z1; cases z1
   exact z2 vs y2
  have I7 : Inv X pins σ1 (upd H1 ea (hoExc C ea)) { s1 with heap := h6, toks := s1.toks } := by
   refine track I6 hn (fun u z => ?_) (fun z => nfr ?_) (fun y c e z => ?_) (fun p hp z => ?_) ⟨⟨oe6, he6, hec6⟩, ⟨oe6, he6⟩, fun ha hb ⟨o, z1, z2⟩ k => ⟨o, k o z1, z2⟩⟩
   ·obtain ⟨o', z'⟩ := cv.old ea u z nfr
    rw [nB] at z'; cases z'
   ·rw [b.st]
    exact List.mem_filterMap.mpr ⟨X.env, .head _, by rw [z]; exact b.fr⟩
   ·obtain ⟨o', z'⟩ := cv.cel y c e
    rw [z, nB] at z'; cases z'
   ·obtain ⟨o', z'⟩ := cv.pin p hp
    rw [z, nB] at z'; cases z'
  refine store_ok (X := Xh X ea) (v := .ref ea) (toH I7) hN hi (.inl hk) rfl (fun s8 I8 => ?_) (.inr hk)
  refine wpAny_mono (hs ea pins s8 _ _ _ I8 (q ea hn)) (fun f s9 q9 => ?_) fun _ _ z => z.elim
  cases f with
  | next =>
   obtain ⟨σ9, H9, I9, q9⟩ := q9
   exact gone (ofH I.ok I9) hN hi hk fun s' I' => ⟨_, _, I', q9⟩
  | brk =>
   obtain ⟨σ9, H9, I9, q9⟩ := q9
   exact gone (ofH I.ok I9) hN hi hk fun s' I' => ⟨_, _, I', q9⟩
  | cont =>
   obtain ⟨σ9, H9, I9, q9⟩ := q9
   exact gone (ofH I.ok I9) hN hi hk fun s' I' => ⟨_, _, I', q9⟩
  | ret v =>
   obtain ⟨y, σ9, H9, I9, r9, q9⟩ := q9
   exact gone (ofH I.ok I9) hN hi hk fun s' I' => ⟨y, _, _, I', r9, q9⟩
end
end My
namespace My
open PySem PySem.Spec L2 PySem.W PySem.Builtin PySem.Builtin.ObjectAttr PySem.Builtin.Getset_descriptor
open PyProof.Rows hiding St
section
variable {prog : Program} {w : World} {A : Around} {E : Value → Shared → Prop} {s : Shared} {K : Frag} {x D : Addr}
theorem exc_ty {M : Model} {h : Heap} {C : Addr} (p : ExcAt C x h) : Looks M h (typeOf (.ref x)) (.ref C) := by
 obtain ⟨o, h1, h2⟩ := p
 exact h2 ▸ (Looks.ld h1).andThen .now
structure ExcK (K : Frag) (D : Addr) : Prop where
 cl : (clsIn K D).isSome = true
 ga : findIn K (.ref D) "__getattribute__" = some (some (.builtin "BaseException.__getattribute__"))
 no : findIn K (.ref D) "__getattr__" = some none
 ha : findIn K (.ref D) "__class__" = some (some (.builtin "object.__class__"))
 hn : specialIn K (.builtin "object.__class__") "__get__" = some (some (.builtin "getset_descriptor.__get__"))
 tk : takesIn K (.builtin "object.__class__") = some true
 mo : mroIn K D (.type "object") = some true
 mb : mroIn K D (.type "BaseException") = some true
theorem cls_get {R : Result → Shared → Prop} {tp : Value} (X : K.In s.heap) (ty : ∀ M : Model, Looks M s.heap (typeOf (.ref x)) (.ref D)) (hm : mroIn K D (.type "object") = some true) (h : R (.ok (.ret (.ref D))) s) :
  codeAny (model prog w) A (.call (.builtin "getset_descriptor.__get__") ⟨[.builtin "object.__class__", .ref x, tp], []⟩) R s := by
 obtain ⟨hh, gg, dd, tt, oo⟩ := s
 have T0 := ty (model prog w)
 have T1 := looks_mroIn (M := model prog w) X hm
 refine codeAny_call_builtin KF.slot_gs.plain KF.entry_gs ?_
 refine KF.slot_gs.check _ _ _ _ _ _ _ _ KF.type_class (KF.args_gs _ _ _) ?_
 unfold Builtin.«getset_descriptor.__get__» descrGet
 rw [dga_obj]
 refine wpAny_bind (wpAny_pure ?_)
 unfold descrGetter descrCheckInstance descrNameAndClass isInstance
 simp only [KF.owner_class]
 repeat lk
 refine ⟨Code.quiet_builtin _ (by decide +kernel), ?_⟩
 refine codeAny_builtin KF.entry_class ?_
 unfold Builtin.«object.__class__» shownTypeOf
 repeat lk
 exact h
theorem exc_class {Q : Option Value → Shared → Prop} (X : K.In s.heap) (T : ExcK K D) (p : ExcAt D x s.heap) (h : Q (some (.ref D)) { s with toks := s.toks + 1 }) : wpAny (model prog w) A (getAttr? (.ref x) "__class__") Q E s := by
 obtain ⟨hh, g, d, t, os⟩ := s
 have L0 := exc_ty (M := model prog w) p
 have L1 := looks_findIn (M := model prog w) X T.ga
 have L2 := looks_findIn (M := model prog w) X T.no
 have L3 := looks_mroIn (M := model prog w) X T.mo
 have L4 := looks_mroIn (M := model prog w) X T.mb
 have f3 := PySem.F.attr_ValueError.ga.bind (.ref x)
 unfold getAttr? getAttrBy? getAttrBy
 refine wpAny_bind (wpAny_mkText (wpAny_bind (wpAny_attempt (wpAny_holding (wpAny_bind (L0.at (wpAny_bind (L1.at ?_))))))))
 dsimp only
 have own : (onTheHeap (Value.ref D) && Value.builtin "BaseException.__getattribute__" == Value.builtin "object.__getattribute__") = false := by
  rw [show (Value.builtin "BaseException.__getattribute__" == Value.builtin "object.__getattribute__") = false from by decide +kernel, Bool.and_false]
 rw [if_neg (by rw [own]; exact Bool.false_ne_true)]
 unfold getAttrByItsOwn hookBefore
 rw [if_pos (show onTheHeap (Value.ref D) = true from rfl)]
 refine wpAny_bind (L2.at (wpAny_bind (wpAny_attempt (wpAny_holding ?_))))
 unfold callGetattribute
 rw [if_neg (by decide)]
 unfold boundAndCalled
 rw [f3]
 refine wpAny_bind (wpAny_pure ?_)
 dsimp only
 refine wpAny_call (codeAny_call_builtin PySem.F.attr_ValueError.ga.plain F.entry_bexc_ga ?_)
 have hk : builtinKind "BaseException.__getattribute__" = some .slot := by decide +kernel
 have hp : splitId "BaseException.__getattribute__" = some ("BaseException", "__getattribute__") := by decide +kernel
 have ok := F.args_bexc_ga (.ref x) (.str "__class__" t)
 simp only [checkBuiltinCall, hk, hp, List.cons_append, List.nil_append]
 refine wpAny_bind ?_
 unfold isInstance
 refine wpAny_bind (L0.at (L4.at ?_))
 rw [if_neg (by decide)]
 refine wpAny_of_eq ok ?_
 have F1 := looks_findIn (M := model prog w) X T.ha
 have F2 : Looks (model prog w) hh (getOf (some (.builtin "object.__class__"))) (some (.builtin "getset_descriptor.__get__")) := looks_specialIn X T.hn
 have F3 := looks_takesIn (M := model prog w) X T.tk
 have LF : Looks (model prog w) hh (find (.ref x) (.ref D) "__class__") (.bind (.builtin "getset_descriptor.__get__") (.builtin "object.__class__")) :=
  F1.andThen (F2.andThen ((show Looks (model prog w) hh (dataDescriptor? (some (.builtin "object.__class__")) (some (.builtin "getset_descriptor.__get__"))) (some (.builtin "getset_descriptor.__get__", .builtin "object.__class__")) from F3.andThen .now).andThen (Looks.tag .now)))
 unfold Builtin.«object.__getattribute__»
 refine wpAny_bind (wpAny_pure ?_)
 dsimp only
 refine wpAny_bind (wpAny_pure ?_)
 refine wpAny_bind (L0.at (wpAny_bind (LF.at ?_)))
 dsimp only
 unfold bindTo
 dsimp only
 refine wpAny_bind (wpAny_holding (wpAny_call (cls_get X (fun M => exc_ty p) T.mo ?_)))
 refine wpAny_pure ?_
 show wpAny _ _ (handedOut (.ref D)) _ _ _
 rw [handedOut_of rfl]
 exact wpAny_pure (wpAny_pure h)
theorem kitx_exc (T : ExcK K D) : KitX K (.ref x) (.ref D) (ExcAt D x) where
 ty := fun _ _ _ q => exc_ty q
 it := fun _ _ X _ => by
  obtain ⟨cd, hc⟩ := Option.isSome_iff_exists.mp T.cl
  unfold clsIn at hc
  split at hc
  ·rename_i ho
   intro A' Q' E' s' k q
   unfold isType loadHead
   exact wpAny_bind (wpAny_loadPart (k _ _ (X _ _ ho)) (wpAny_pure q))
  ·cases hc
 ne := fun h tp dd its n sl X htp => by
  obtain ⟨cd, hc⟩ := Option.isSome_iff_exists.mp T.cl
  refine Bool.eq_false_iff.mpr fun q => ?_
  have e : D = tp := Value.ref.inj (beq_iff_eq.mp q)
  subst e
  unfold clsIn at hc
  split at hc
  ·rename_i ho
   have z := (X _ _ ho).symm.trans htp
   cases z
  ·cases hc
 ca := fun X q k => exc_class X T q k
end
end My
namespace My
open PySem PySem.Spec L2
open PyProof.Rows hiding St
def clsV : V → Option Value
 | .ref a => some (.ref a)
 | .ty n => some (.type n)
 | _ => none
theorem clsV_rel {y : V} {u c : Value} (r : RelV y u) (e : clsV y = some c) : u = c := by
 cases y
 case ref a => cases e; exact r
 case ty n => cases e; exact r
 all_goals cases e
theorem clsVs_rel : ∀ {ys : List V} {us cs : List Value}, Vals ys us → ys.map clsV = cs.map some → us = cs
 | [], _, cs, .nil, e => by
  cases cs with
  | nil => rfl
  | cons c r => cases e
 | y :: ys, _, cs, .cons r rs, e => by
  cases cs with
  | nil => cases e
  | cons c cs' =>
   rw [List.map_cons, List.map_cons] at e
   injection e with e1 e2
   rw [clsV_rel r e1, clsVs_rel rs e2]
section
variable {X : Cx} {e : Expr} {es : List Expr} {t : TA} {pos p : Pos}
def rInstE (K : PySem.W.Frag) : List V → Hp → VK → Prop := fun xs H Q => ∃ ea C y c b, xs = [.ref ea, y] ∧ H ea = some (hoExc C ea) ∧ ExcK K C ∧ clsV y = some c ∧ PySem.W.kitOne K (.ref C) c = some b ∧ Q (.bl b) H
def rInstT (K : PySem.W.Frag) : List V → Hp → VK → Prop := fun xs H Q => ∃ ea C tp ys cs b, xs = [.ref ea, .ref tp] ∧ H ea = some (hoExc C ea) ∧ ExcK K C ∧ H tp = some (.tup ys) ∧ ys.map clsV = cs.map some ∧ PySem.W.kitAny K (.ref C) cs = some b ∧ Q (.bl b) H
theorem call_instE : CallR X (.builtin "isinstance") (rInstE X.K) := by
 intro pins s σ H xs us Q I r h
 obtain ⟨ea, C, y, c, b, rfl, he, T, hc, hk, q⟩ := h
 obtain ⟨u, v, rfl, ru, rv⟩ := vals2 r
 cases (show u = Value.ref ea from ru)
 cases clsV_rel rv hc
 obtain ⟨p, _⟩ := (show ObjOk X.prog X.w H s.heap ea (hoExc C ea) from I.hok ea _ he)
 exact PySem.W.kia_one (kitx_exc T) I.kIn p hk (fun z => nomatch z) fun tk => ⟨.bl b, H, I.tok tk, rfl, q⟩
theorem call_instT : CallR X (.builtin "isinstance") (rInstT X.K) := by
 intro pins s σ H xs us Q I r h
 obtain ⟨ea, C, tp, ys, cs, b, rfl, he, T, ht, hc, hk, q⟩ := h
 obtain ⟨u, v, rfl, ru, rv⟩ := vals2 r
 cases (show u = Value.ref ea from ru)
 cases (show v = Value.ref tp from rv)
 obtain ⟨p, _⟩ := (show ObjOk X.prog X.w H s.heap ea (hoExc C ea) from I.hok ea _ he)
 obtain ⟨_, its, rs, o, h1, h2, n, h3⟩ := (show ObjOk X.prog X.w H s.heap tp (.tup ys) from I.hok tp _ ht)
 have e2 := clsVs_rel rs hc
 subst e2
 obtain ⟨oc, od, oda, osl⟩ := o
 dsimp only at h2 h3
 subst h2 h3
 exact PySem.W.kia_tup (kitx_exc T) I.kIn p h1 hk (fun z => nomatch z) fun tk => ⟨.bl b, H, I.tok tk, rfl, q⟩
theorem q_instE (hg : Gl X "isinstance") (hm : X.mg "isinstance" = none) (ha : QA X (e :: es) t) (hp : (e :: es).all plainE = true := by rfl) : QE X (.Call (.Name "isinstance" p) (e :: es) [] pos) (tCB (rInstE X.K) t) := ⟨pe_cB call_instE hg hm (by rfl) ha.h hp⟩
theorem q_instT (hg : Gl X "isinstance") (hm : X.mg "isinstance" = none) (ha : QA X (e :: es) t) (hp : (e :: es).all plainE = true := by rfl) : QE X (.Call (.Name "isinstance" p) (e :: es) [] pos) (tCB (rInstT X.K) t) := ⟨pe_cB call_instT hg hm (by rfl) ha.h hp⟩
end
structure FunD (K : PySem.W.Frag) (x qual : Str) (st : Stmt) (dV : Value) (f : Addr) (fd : FuncData) : Prop where
 ex : ∃ (oc : Value) (od : Option Addr) (kV doc pm : Value) (an : Option Addr) (cdv ct : Value) (osl : Array (Option Value)),
  fd = PySem.W.fnOf x qual (defArgs st) (defBody st) (defScope st) dV kV doc pm an cdv ct ∧ K.lookup f = some ⟨oc, od, .func fd, osl⟩ ∧ PySem.W.codeIn K cdv qual = true
 kp : PySem.W.keepIn K (.ref f) = true
theorem fund_mk {K : PySem.W.Frag} {x qual : Str} {st : Stmt} {dV : Value} {f : Addr} {oc : Value} {od an : Option Addr} {osl : Array (Option Value)} {kV doc pm cdv ct : Value} (l : K.lookup f = some ⟨oc, od, .func (PySem.W.fnOf x qual (defArgs st) (defBody st) (defScope st) dV kV doc pm an cdv ct), osl⟩)
  (c : PySem.W.codeIn K cdv qual = true) (k : PySem.W.keepIn K (.ref f) = true) : FunD K x qual st dV f (PySem.W.fnOf x qual (defArgs st) (defBody st) (defScope st) dV kV doc pm an cdv ct) := ⟨⟨oc, od, kV, doc, pm, an, cdv, ct, osl, rfl, l, c⟩, k⟩
section
variable {P : Program} {w : World} {K : PySem.W.Frag} {mg : Str → Option Value} {base : Heap} {x qual : Str} {st : Stmt} {dV : Value} {f : Addr} {fd : FuncData} {N ps : List Str} {k : Nat} {sp : Sp}
theorem okX (F : FunD K x qual st dV f fd) (S : FnScope N ps (defScope st)) (len : ∀ vs H Q E, sp vs H Q E → vs.length = ps.length)
  (hbody : ∀ (cdv : Value) (A : Around) (outer : List Env) (s : Shared) (H : Hp) (vs : List V) (Q : VK) (E : XK), Room k (A.deeper (envOfC qual (defScope st) s.heap.objs.size f cdv)) → sp vs H Q E →
   ∃ t, QB (cxOf (CX1 P w) P w K mg base N qual (defScope st) f cdv A outer s H E) (defBody st) t ∧ t { nx := fun _ H' => Q .non H', rt := Q } (start N vs) H) : FnOk P w K mg base (CX1 P w) (k + 1) f fd ps sp := by
 obtain ⟨oc, od, kV, doc, pm, an, cdv, ct, osl, rfl, lk, hcd⟩ := F.ex
 refine fn_of lk hcd S len fun A outer s H vs Q E hr hsp => ?_
 obtain ⟨t, h, q⟩ := hbody cdv A outer s H vs Q E hr hsp
 exact ⟨t, h.h, q⟩
theorem noerr (F : FnOk P w K mg base (CX1 P w) k f fd ps sp) : FnOk P w K mg base CX0 k f fd ps (fun vs H Q _ => sp vs H Q E0) :=
 ⟨fun vs H Q _ h => F.len vs H Q _ h, fun A outer s H args us vs Q _ hr e0 hb r h => codeAny_mono (F.run A outer s H args us vs Q E0 hr e0 hb r h) fun res s' q => by
  cases res with
  | error e =>
   obtain ⟨_, _, _, _, _, _, _, _, _, _, _, _, _, z⟩ := q
   exact z.elim
  | ok fl => cases fl <;> exact q⟩
end
structure FnD (P : Program) (w : World) (K : PySem.W.Frag) (mg : Str → Option Value) (base : Heap) (CX : CXT) (k : Nat) (x : Str) (ps : List Str) (dvs : List V) (sp : Sp) : Prop where
 ex : ∃ (f : Addr) (fd : FuncData) (ds : List Value), FnOk P w K mg base CX k f fd ps sp ∧ Binds K fd ps ds ∧ Vals dvs ds ∧ PySem.W.keepIn K (.ref f) = true ∧ mg x = some (.ref f)
structure QX (X : Cx) (e : Expr) (t : TEX) : Prop where
 h : PEX X e t
structure QSX (X : Cx) (sts : List Stmt) (t : TSX) : Prop where
 h : PSsX X sts t
section
variable {X : Cx} {E : XK} {j k : Nat} {x : Str} {ps : List Str} {sp : Sp} {p pos : Pos} {e : Expr} {es : List Expr} {t : TA} {dvs : List V} {C : Addr}
theorem q_fnX (b : Goes X E) (F : Fn X.prog X.w X.K X.mg X.base (CX1 X.prog X.w) j x ps sp) (hr : Room k X.A) (hj : j ≤ k) (hg : Gl X x) (ha : QA X (e :: es) t) (hp : (e :: es).all plainE = true := by rfl) (hdb : (x == ("__debug__" : Str)) = false := by decide) :
  QE X (.Call (.Name x p) (e :: es) [] pos) (tCall sp [] E t) := by
 obtain ⟨f, fd, G, bd, kp, m⟩ := F.ex
 exact ⟨pe_call G (hr.mono hj) hg m kp bd .nil b.pass ha.h hdb (se_cons (hd_plain hp).1) (se_any (hd_plain hp).2)⟩
theorem s_raise {np cpos : Pos} (b : Goes X E) (hm : X.mg x = some (.ref C)) (q : ErrC X.K C) (hg : Gl X x) (ha : QA X (e :: es) t) (hc : X.calm = true := by rfl) (hp : (e :: es).all plainE = true := by rfl) (hdb : (x == ("__debug__" : Str)) = false := by decide) :
  QS X (.Raise (some (.Call (.Name x np) (e :: es) [] cpos)) none pos) (tRaise C E t) := ⟨ps_raise b hc hg hm q ha.h hdb (se_cons (hd_plain hp).1) (se_any (hd_plain hp).2)⟩
theorem body_nox {P : Program} {w : World} {K : PySem.W.Frag} {mg : Str → Option Value} {base : Heap} {N : List Str} {qual : Str} {scope : Scope} {f : Addr} {cd : Value} {A : Around} {outer : List Env} {s : Shared} {H : Hp} {E : XK} {CX : CXT} :
  Body (cxOf CX P w K mg base N qual scope f cd A outer s H E).nox := ⟨rfl, rfl, rfl, fun _ => rfl⟩
theorem x_fn (b : Body X) (F : Fn X.prog X.w X.K X.mg X.base (CX1 X.prog X.w) j x ps sp) (hr : Room k X.A) (hj : j ≤ k) (hg : Gl X x) (ha : QA X.nox (e :: es) t) (hp : (e :: es).all plainE = true := by rfl) (hdb : (x == ("__debug__" : Str)) = false := by decide) :
  QX X (.Call (.Name x p) (e :: es) [] pos) (tCallX sp [] t) := by
 obtain ⟨f, fd, G, bd, kp, m⟩ := F.ex
 have G' : FnOk X.prog X.w X.K X.mg X.base (CX1 X.prog X.w) k f fd ps sp := G.mono hj
 exact ⟨pex_call b G' hr hg m kp bd .nil ha.h hdb (se_cons (hd_plain hp).1) (se_any (hd_plain hp).2)⟩
def tXE (te : TEX) : TSX := fun D EX σ H => te σ H (fun _ H1 => D.nx σ H1) (EX σ)
def tXS (i : Nat) (te : TEX) : TSX := fun D EX σ H => te σ H (fun v H1 => D.nx (σ.set i (some v)) H1) (EX σ)
theorem sx_expr {te : TEX} (he : QX X e te) (hs : swapsWith e none pos.line X.env = pure false := by rfl) : QSX X [.Expr e pos] (tXE te) := ⟨pssx_one (psx_expr he.h hs)⟩
theorem s_try {body : List Stmt} {n : Str} {np hpos : Pos} {b₀ : Stmt} {suite : List Stmt} {tb : TSX} {th : Addr → TS} {D : Addr} (i : Nat) (b : Body X) (hN : X.N.Nodup) (hm : X.mg x = some (.ref D)) (hb : QSX X body tb) (hs : ∀ ea, QB (Xh X ea) (b₀ :: suite) (th ea))
  (hg : Gl X x := by rfl) (hi : X.N[i]? = some n := by rfl) (hk : X.env.scope.names.lookup n = some .local := by rfl) (hdb : (x == ("__debug__" : Str)) = false := by decide) :
  QS X (.Try body [.ExceptHandler (some (.Name x np)) (some n) (b₀ :: suite) hpos] [] [] pos) (tTry X.K tb D i th) := ⟨ps_try b hb.h hg hm hN hi hk (fun ea => (hs ea).h) hdb⟩
end
end My
namespace My
open PySem PySem.Spec L2
open PyProof.Rows hiding St
inductive EqD (H : Hp) : V → V → Bool → Nat → Prop where
 | flat {x y : V} (fx : flatV x = true) (fy : flatV y = true) : EqD H x y (eqV x y) 0
 | tup {a b : Addr} {xs ys : List V} {e : Nat → Bool} {n : Nat} (ha : H a = some (.tup xs)) (hb : H b = some (.tup ys)) (h : ∀ j x y, xs[j]? = some x → ys[j]? = some y → EqD H x y (e j) n) :
   EqD H (.ref a) (.ref b) ((List.range (min xs.length ys.length)).all e && xs.length == ys.length) (n + 1)
 | lst {a b : Addr} {xs ys : List V} {e : Nat → Bool} {n : Nat} (ha : H a = some (.lst xs)) (hb : H b = some (.lst ys)) (hl : xs.length = ys.length) (h : ∀ j x y, xs[j]? = some x → ys[j]? = some y → EqD H x y (e j) n) :
   EqD H (.ref a) (.ref b) ((List.range xs.length).all e) (n + 1)
 | lstNe {a b : Addr} {xs ys : List V} {n : Nat} (ha : H a = some (.lst xs)) (hb : H b = some (.lst ys)) (hl : xs.length ≠ ys.length) : EqD H (.ref a) (.ref b) false (n + 1)
 | up {x y : V} {b : Bool} {n : Nat} (h : EqD H x y b n) : EqD H x y b (n + 1)
theorem eqV_refl {x : V} (h : flatV x = true) : eqV x x = true := by
 cases x
 case non => rfl
 case bl b => simp [eqV]
 case int i => simp [eqV]
 case str y => simp [eqV]
 all_goals exact absurd (show false = true from h) (by decide)
theorem all_range {n : Nat} {e : Nat → Bool} (h : ∀ j, j < n → e j = true) : (List.range n).all e = true := List.all_eq_true.mpr fun j hj => h j (List.mem_range.mp hj)
theorem EqD.self {H : Hp} {x y : V} {b : Bool} {n : Nat} (h : EqD H x y b n) : x = y → b = true := by
 induction h with
 | flat fx fy => intro e; subst e; exact eqV_refl fx
 | @tup a b xs ys e n ha hb h ih =>
  intro q
  injection q with q
  subst q
  rw [ha] at hb
  injection hb with hb
  injection hb with hb
  subst hb
  rw [all_range, Bool.true_and, beq_self_eq_true]
  intro j hj
  rw [Nat.min_self] at hj
  exact ih j _ _ (List.getElem?_eq_getElem hj) (List.getElem?_eq_getElem hj) rfl
 | @lst a b xs ys e n ha hb hl h ih =>
  intro q
  injection q with q
  subst q
  rw [ha] at hb
  injection hb with hb
  injection hb with hb
  subst hb
  exact all_range fun j hj => ih j _ _ (List.getElem?_eq_getElem hj) (List.getElem?_eq_getElem hj) rfl
 | up h ih => exact ih
 | lstNe ha hb hl =>
  intro q
  injection q with q
  subst q
  rw [ha] at hb
  injection hb with hb
  injection hb with hb
  subst hb
  exact absurd rfl hl
section
variable {X : Cx} {pins : List (Addr × Obj)} {σ : St} {H : Hp} {s : Shared}
theorem EqD.at (I : Inv X pins σ H s) {x y : V} {b : Bool} {n : Nat} (h : EqD H x y b n) : ∀ {A : Around} {u v : Value}, RelV x u → RelV y v → A.units + n < cLine →
  SeqAt.EqAt A s u v b ∧ ((∃ a c, x = .ref a ∧ y = .ref c) → SeqAt.RcAt A s u v b) := by
 induction h with
 | flat fx fy =>
  intro A u v r1 r2 _
  refine ⟨eqAt_V r1 r2 fx fy, ?_⟩
  rintro ⟨a, c, rfl, _⟩
  cases fx
 | @tup a b xs ys e n ha hb h ih =>
  intro A u v r1 r2 hu
  cases r1
  cases r2
  obtain ⟨its, v1, t1, _⟩ := I.tuple (SqT.of ha)
  obtain ⟨jts, v2, t2, _⟩ := I.tuple (SqT.of hb)
  have rc : SeqAt.RcAt A s (.ref a) (.ref b) ((List.range (min xs.length ys.length)).all e && xs.length == ys.length) := by
   have z := SeqAt.RcAt.tuples (A := A) (s := s) (e := e) t1 t2 (by omega) fun j h1 h2 => by
    have k1 : j < xs.length := by rw [v1.length]; simpa using h1
    have k2 : j < ys.length := by rw [v2.length]; simpa using h2
    obtain ⟨u1, q1, w1⟩ := v1.get (List.getElem?_eq_getElem k1)
    obtain ⟨u2, q2, w2⟩ := v2.get (List.getElem?_eq_getElem k2)
    have g1 : its.toArray[j] = u1 := by
     have := List.getElem?_eq_some_iff.mp q1
     obtain ⟨hh, this⟩ := this
     simpa using this
    have g2 : jts.toArray[j] = u2 := by
     have := List.getElem?_eq_some_iff.mp q2
     obtain ⟨hh, this⟩ := this
     simpa using this
    rw [g1, g2]
    exact (ih j _ _ (List.getElem?_eq_getElem k1) (List.getElem?_eq_getElem k2) w1 w2 (by show A.units + 1 + n < cLine; omega)).1
   simpa [v1.length, v2.length] using z
  refine ⟨?_, fun _ => rc⟩
  by_cases q : a = b
  ·have := (EqD.tup ha hb h).self (by rw [q])
   rw [this, q]
   exact SeqAt.EqAt.same _
  ·exact SeqAt.EqAt.of_refs q rc
 | @lst a b xs ys e n ha hb hl h ih =>
  intro A u v r1 r2 hu
  cases r1
  cases r2
  obtain ⟨its, v1, t1, _⟩ := I.list (SqL.of ha)
  obtain ⟨jts, v2, t2, _⟩ := I.list (SqL.of hb)
  have rc : SeqAt.RcAt A s (.ref a) (.ref b) ((List.range xs.length).all e) := by
   have z := SeqAt.RcAt.lists (A := A) (s := s) (e := e) t1.isList t2.isList (by simp [← v1.length, ← v2.length, hl]) (by omega) fun j h1 h2 => by
    have k1 : j < xs.length := by rw [v1.length]; simpa using h1
    have k2 : j < ys.length := by rw [v2.length]; simpa using h2
    obtain ⟨u1, q1, w1⟩ := v1.get (List.getElem?_eq_getElem k1)
    obtain ⟨u2, q2, w2⟩ := v2.get (List.getElem?_eq_getElem k2)
    have g1 : its.toArray[j] = u1 := by
     have := List.getElem?_eq_some_iff.mp q1
     obtain ⟨hh, this⟩ := this
     simpa using this
    have g2 : jts.toArray[j] = u2 := by
     have := List.getElem?_eq_some_iff.mp q2
     obtain ⟨hh, this⟩ := this
     simpa using this
    rw [g1, g2]
    exact (ih j _ _ (List.getElem?_eq_getElem k1) (List.getElem?_eq_getElem k2) w1 w2 (by show A.units + 1 + n < cLine; omega)).1
   simpa [v1.length, v2.length] using z
  refine ⟨?_, fun _ => rc⟩
  by_cases q : a = b
  ·have := (EqD.lst ha hb hl h).self (by rw [q])
   rw [this, q]
   exact SeqAt.EqAt.same _
  ·exact SeqAt.EqAt.of_refs q rc
 | up h ih =>
  intro A u v r1 r2 hu
  exact ih r1 r2 (by omega)
 | @lstNe a b xs ys n ha hb hl =>
  intro A u v r1 r2 hu
  cases r1
  cases r2
  obtain ⟨its, v1, t1, _⟩ := I.list (SqL.of ha)
  obtain ⟨jts, v2, t2, _⟩ := I.list (SqL.of hb)
  have rc : SeqAt.RcAt A s (.ref a) (.ref b) false := SeqAt.RcAt.lists_lengths t1.isList t2.isList (by simp [← v1.length, ← v2.length]; exact hl) (by omega)
  have ne : a ≠ b := fun q => by
   subst q
   rw [ha] at hb
   injection hb with hb
   injection hb with hb
   subst hb
   exact hl rfl
  exact ⟨SeqAt.EqAt.of_refs ne rc, fun _ => rc⟩
end
section
variable {X : Cx} {a b : Expr} {ta tb : TE} {pos : Pos} {k : Nat}
def rEqD : R2 := fun x y H Q => ∃ t n p c, x = .ref p ∧ y = .ref c ∧ EqD H x y t n ∧ n ≤ 60 ∧ Q (.bl t) H
theorem op_eqD (hr : Room k X.A) : OpR X (compareOp .Eq) rEqD := by
 intro pins s σ H x y v u Q I rx ry h
 obtain ⟨t, n, p, c, e1, e2, h, hn, q⟩ := h
 have hu := hr.units
 exact ((h.at I rx ry (by omega)).2 ⟨p, c, e1, e2⟩) _ _ _ _ ⟨.bl t, H, I, rfl, q⟩
theorem q_eqD (hr : Room k X.A) (ha : QE X a ta) (hb : QE X b tb) : QE X (.Compare a [.Eq] [b] pos) (tOp rEqD ta tb) := ⟨pe_cmpR (op_eqD hr) ha.h hb.h (nomark _)⟩
theorem t_eqD (hr : Room k X.A) (ha : QE X a ta) (hb : QE X b tb) : QT X (.Compare a [.Eq] [b] pos) (tTest (tOp rEqD ta tb)) := ⟨pt_cmpR (op_eqD hr) ha.h hb.h (nomark _)⟩
end
end My
namespace My
open PySem PySem.Spec L2
open PyProof.Rows hiding St
section
variable {X : Cx} {pins : List (Addr × Obj)} {σ : St} {H : Hp} {s : Shared} {h' : Heap}
theorem turned_laid {t' : Nat} {ch : List Addr} {o : HO} (I : Inv X pins σ H s) (k : ∀ b u, b ∉ ch → s.heap.get? b = some u → h'.get? b = some u) (hf : ∀ b ∈ ch, FpOk X pins H b) (new : ObjOk X.prog X.w (upd H s.heap.objs.size o) h' s.heap.objs.size o) :
  Inv X pins σ (upd H s.heap.objs.size o) { s with heap := h', toks := t' } := by
 have hn : H s.heap.objs.size = none := I.hok.fresh (Nat.le_refl _)
 have nch : ∀ b u, H b = some u → b ∉ ch := fun b u e z => by rw [(hf b z).1] at e; cases e
 have old : ∀ b u, H b = some u → upd H s.heap.objs.size o b = some u := fun b u e => by rw [upd_ne (ne_of_none e hn)]; exact e
 refine I.step (g' := s.gens) (d' := s.drawn) (ch := ch) (fun b hb => ⟨(hf b hb).2.2.2.1, (hf b hb).2.1, (hf b hb).2.2.2.2.1, (hf b hb).2.2.2.2.2⟩) (fun b u _ _ hc e _ => k b u hc e) (fun b u _ _ hc e _ => ⟨u.slots, k b u hc e⟩)
  (fun b u hc e n => by rw [upd_ne (Nat.ne_of_lt (Heap.lt_size e))]; exact n) (fun b u hc e => ⟨u, k b u hc e⟩) (fun b xs e => old b _ e) (fun b x u e => old b _ e) (fun b ps e => ⟨#[], by rw [old b _ e]; simp⟩) (fun m hm => ?_) (fun b u e => ?_) I.bare
 ·obtain ⟨u, es, ep, ho, r⟩ := hm
  exact ⟨u, es, ep, k _ u (fun z => (hf _ z).2.1 rfl) ho, r⟩
 ·by_cases hb : b = s.heap.objs.size
  ·subst hb; rw [upd_same] at e; cases e; exact new
  ·rw [upd_ne hb] at e
   refine (I.hok b u e).stay (fun c v hc q => k c v ?_ q) (fun c q => old c _ q) (fun c xs q => old c _ q) fun c o q => old c _ q
   rcases hc with z | z
   ·rw [z]; exact nch b u e
   ·exact nch c _ z
theorem turned2 {t' : Nat} {ch : List Addr} (I : Inv X pins σ H s) (k : ∀ b u, b ∉ ch → s.heap.get? b = some u → h'.get? b = some u) (hf : ∀ b ∈ ch, FpOk X pins H b) : Inv X pins σ H { s with heap := h', toks := t' } := by
 have nch : ∀ b u, H b = some u → b ∉ ch := fun b u e z => by rw [(hf b z).1] at e; cases e
 refine I.step (g' := s.gens) (d' := s.drawn) (ch := ch) (fun b hb => ⟨(hf b hb).2.2.2.1, (hf b hb).2.1, (hf b hb).2.2.2.2.1, (hf b hb).2.2.2.2.2⟩) (fun b u _ _ hc e _ => k b u hc e) (fun b u _ _ hc e _ => ⟨u.slots, k b u hc e⟩)
  (fun b u hc e n => n) (fun b u hc e => ⟨u, k b u hc e⟩) (fun b xs e => e) (fun b x u e => e) (fun b ps e => ⟨#[], by rw [e]; simp⟩) (fun m hm => ?_) (fun b u e => ?_) I.bare
 ·obtain ⟨u, es, ep, ho, r⟩ := hm
  exact ⟨u, es, ep, k _ u (fun z => (hf _ z).2.1 rfl) ho, r⟩
 ·refine (I.hok b u e).stay (fun c v hc q => k c v ?_ q) (fun c q => q) fun c xs q => q
  rcases hc with z | z
  ·rw [z]; exact nch b u e
  ·exact nch c _ z
theorem vals_of : ∀ {xs : List V} {us : List Value}, xs.length = us.length → (∀ (i : Nat) x u, xs[i]? = some x → us[i]? = some u → RelV x u) → Vals xs us
 | [], [], _, _ => .nil
 | x :: xs, u :: us, hl, h => .cons (h 0 x u rfl rfl) (vals_of (by simpa using hl) fun i x u h1 h2 => h (i + 1) x u h1 h2)
def rngL (lo hi : Int) : List V := (List.range (hi - lo).toNat).map fun k : Nat => V.int (lo + (k : Int))
theorem rngL_len {lo hi : Int} : (rngL lo hi).length = (hi - lo).toNat := by simp [rngL]
theorem rngL_get {lo hi : Int} {i : Nat} (h : i < (hi - lo).toNat) : (rngL lo hi)[i]? = some (.int (lo + i)) := by
 unfold rngL
 rw [List.getElem?_map, List.getElem?_range h]
 rfl
def rList (K : PySem.W.Frag) : List V → Hp → VK → Prop := fun xs H Q => ∃ p ys, xs = [.ref p] ∧ (SqL K H p ys ∨ SqT K H p ys ∨ ∃ lo hi, H p = some (.rng lo hi) ∧ -(2 ^ 62) ≤ lo ∧ lo < 2 ^ 62 ∧ -(2 ^ 62) ≤ hi ∧ hi < 2 ^ 62 ∧ ys = rngL lo hi ∧ hi - lo ≤ 1000000) ∧
 ∀ l H2, H l = none → Same H H2 → H2 l = some (.lst ys) → Q (.ref l) H2
theorem call_listA (hc : X.calm = true) : CallR X (.type "list") (rList X.K) := by
 intro pins s σ H xs us Q I r h
 obtain ⟨p, ys, rfl, hq, q⟩ := h
 have old : ∀ l, H l = none → Q (.ref l) (upd H l (.lst ys)) := fun l hl => q l _ hl (same_new hl _) upd_same
 rcases hq with hq | hq | ⟨lo, hi, hq, h1, h2, h3, h4, rfl, h5⟩
 ·exact call_list_of pins s σ H [.ref p] us Q I r ⟨p, ys, rfl, .inl hq, old⟩
 ·exact call_list_of pins s σ H [.ref p] us Q I r ⟨p, ys, rfl, .inr hq, old⟩
 ·obtain ⟨u, rfl, rx⟩ := vals1 r
  cases rx
  obtain ⟨t, u, v, hr⟩ := I.hok p _ hq
  have hn : Builtin.Range.rangeSize lo hi 1 = ((hi - lo).toNat : Int) := by rw [rangeSize_one]; split <;> omega
  refine call_list_range (I.ok.hd hc) hr (small_one h1 h2 h3 h4) hn (by omega) fun h' tk acc' c' kk hl ⟨hs, hacc⟩ => ?_
  have hf : H s.heap.objs.size = none := I.hok.fresh (Nat.le_refl _)
  refine ⟨.ref s.heap.objs.size, _, I.laid kk (Nat.le_refl _) (show ObjOk X.prog X.w _ h' _ (.lst (rngL lo hi)) from ⟨?_, acc'.toList, c', vals_of ?_ fun i x u e1 e2 => ?_, by simpa using hl⟩), rfl, old _ hf⟩
  ·rw [rngL_len]; exact Nat.le_trans (m := 1000000) (by omega) (by decide)
  ·rw [rngL_len]; simpa using hs.symm
  ·have hi : i < (hi - lo).toNat := by rw [← rngL_len]; exact (List.getElem?_eq_some_iff.mp e1).1
   rw [rngL_get hi] at e1
   cases e1
   obtain ⟨t, rfl⟩ := hacc i u (by simpa using e2)
   exact ⟨t, by rw [Int.mul_one]⟩
end
end My
namespace My
open PySem PySem.Spec L2
open PyProof.Rows hiding St
def blkG (X : Cx) (N : List Str) (sc : Scope) (cl : List (Str × Addr)) (fn : Str → Bool) (s : Shared) (H : Hp) (fp : List Addr) : Cx where
 prog := X.prog
 w := X.w
 K := X.K
 mg := X.mg
 base := X.base
 A := X.A
 N := N
 s₀ := s
 H₀ := H
 env := compEnvC sc cl s.heap.objs.size X.env
 outer := X.stack
 stack := X.stack
 ex := fp
 calm := X.calm
 fn := fn
 pn := []
 xe := fun _ _ => False
abbrev blk (X : Cx) (N : List Str) (sc : Scope) (cl : List (Str × Addr)) (s : Shared) (H : Hp) (fp : List Addr) : Cx := blkG X N sc cl (fun _ => false) s H fp
def capOf (σ : St) (caps : List Nat) : St := caps.map fun i => (σ[i]?).join
structure Blk (X : Cx) (ts : List Str) (caps : List Nat) (cs : List Str) (sc : Scope) (cl : List (Str × Addr)) : Prop where
 clos : closureFor sc X.env = pure cl
 kind : sc.kind = .function
 cell : ∀ x ∈ sc.names, x.2 ≠ .cell
 loc : ∀ x ∈ sc.names, x.2 = .local → sc.names.lookup x.1 = some .local
 sub : ∀ x c, cl.lookup x = some c → X.env.cells.lookup x = some c
 has : ∀ x, ((relabel sc X.env).names.lookup x = some .cell ∨ (relabel sc X.env).names.lookup x = some .free) → ∃ c, cl.lookup x = some c
 len : caps.length = cs.length
 cap : ∀ (k : Nat) i x, caps[k]? = some i → cs[k]? = some x → X.N[i]? = some x ∧ (X.env.kindOf x = some .cell ∨ X.env.kindOf x = some .free)
 capK : ∀ x ∈ cs, (relabel sc X.env).names.lookup x = some .cell ∨ (relabel sc X.env).names.lookup x = some .free
section
variable {X : Cx} {pins : List (Addr × Obj)} {σ : St} {H : Hp} {s : Shared} {ts cs : List Str} {caps : List Nat} {sc : Scope} {cl : List (Str × Addr)} {fp : List Addr}
theorem blk_ok (B : Blk X ts caps cs sc cl) (I : Inv X pins σ H s) (hf : ∀ b ∈ fp, FpOk X pins H b) (hlt : ∀ b ∈ fp, b < s.heap.objs.size) : (blk X (ts ++ cs) sc cl s H fp).Ok where
 mod := I.ok.mod
 kind := B.kind
 glob := I.ok.glob
 blt := I.ok.blt
 above := Nat.le_refl _
 inj := fun x y c h1 h2 => I.ok.inj x y c (B.sub x c h1) (B.sub y c h2)
 has := fun x h => B.has x h
 cab := fun x c h _ => by cases h
 hd := I.ok.hd
 frames := I.ok.frames
 stk := .inl rfl
 exf := fun b hb => ⟨Nat.ne_of_lt (hlt b hb), fun x c h => (hf b hb).2.2.2.2.1 x c (B.sub x c h)⟩
 bs := I.bs
 bsz := Nat.le_trans I.ok.bsz I.sz
 noex := fun b o e hb => by
  rcases (hf b hb).2.2.2.1 with z | z
  ·exact I.ok.noex b o e z
  ·exact Nat.lt_irrefl _ (Nat.lt_of_lt_of_le (Heap.lt_size (I.ok.bs b o e).1) z)
 exfs := fun b hb z => by
  rcases List.mem_cons.mp (I.stkSub b z) with e | e
  ·exact (hf b hb).2.1 e
  ·exact (hf b hb).2.2.1 e
 funs := I.stack
 frf := I.stkFree
theorem blk_inv (B : Blk X ts caps cs sc cl) (I : Inv X pins σ H s) (hf : ∀ b ∈ fp, FpOk X pins H b) (hlt : ∀ b ∈ fp, b < s.heap.objs.size) {h₁ : Heap} {t' : Nat} (hn : h₁.Ns s.heap.objs.size fun _ => none) (kk : ∀ b o, s.heap.get? b = some o → h₁.get? b = some o) :
  Inv (blk X (ts ++ cs) sc cl s H fp) [] (List.replicate ts.length none ++ capOf σ caps) H { s with heap := h₁, toks := t' } := by
 have hfr : H s.heap.objs.size = none := I.hok.fresh (Nat.le_refl _)
 refine ⟨blk_ok B I hf hlt, rfl, I.bare, Un.kept kk, ⟨_, hn, fun i x v h1 h2 h3 => ?_⟩, fun x c e => ?_, hfr, fun x c e => I.freeC x c (B.sub x c e), fun p hp => absurd (show p ∈ ([] : List (Addr × Obj)) from hp) (by simp), I.hok.kept kk, ?_⟩
 ·have hi : ¬ i < ts.length := fun hi => by
   rw [List.getElem?_append_left (by simpa using hi), List.getElem?_replicate, if_pos hi] at h2
   cases h2
  have h1' : (ts ++ cs)[i]? = some x := h1
  rw [List.getElem?_append_right (by omega)] at h1'
  rw [List.getElem?_append_right (by simp; omega), List.length_replicate] at h2
  unfold capOf at h2
  rw [List.getElem?_map] at h2
  cases e : caps[i - ts.length]? with
  | none => rw [e] at h2; cases h2
  | some j =>
   rw [e] at h2
   have h2' : (σ[j]?).join = some v := by simpa using h2
   have h2'' : σ[j]? = some (some v) := by
    cases q : σ[j]? with
    | none => rw [q] at h2'; cases h2'
    | some o => rw [q] at h2'; cases h2'; rfl
   obtain ⟨hN, hk⟩ := B.cap _ _ _ e h1'
   obtain ⟨m, hm, hl⟩ := I.loc
   obtain ⟨u, r, l⟩ := hl j x v hN h2'' (.inr hk)
   refine ⟨u, r, ?_⟩
   rcases l with ⟨l, _⟩ | ⟨_, c, hc, ⟨o, ho, hd⟩⟩
   ·rcases hk with z | z <;> (rw [z] at l; cases l)
   ·have ck := B.capK x (List.mem_of_getElem? h1')
    obtain ⟨c', hc'⟩ := B.has x ck
    have := B.sub x c' hc'
    rw [hc] at this
    cases this
    exact .inr ⟨ck, c, hc', o, kk c o ho, hd⟩
 ·obtain ⟨v, o, ho, hd⟩ := I.cell x c (B.sub x c e)
  exact ⟨v, o, kk c o ho, hd⟩
 ·show (List.replicate ts.length (none : Option V) ++ capOf σ caps).length = (ts ++ cs).length
  rw [List.length_append, List.length_append, List.length_replicate]
  unfold capOf
  rw [List.length_map, B.len]
def testsOf (ifs : List Expr) (env : Env) : Sem Bool := forIn ifs true fun c r => if r = true then do let ok ← isTrue c env (eval c env); pure (ForInStep.yield ok) else pure (ForInStep.yield r)
def PTs (X : Cx) (ifs : List Expr) (t : TT) : Prop :=
 ∀ (pins : List (Addr × Obj)) (s : Shared) (σ : St) (H : Hp) (Q : Bool → Hp → Prop), Inv X pins σ H s → t σ H Q → wpAny (model X.prog X.w) X.A (testsOf ifs X.env) (TP X pins σ Q) X.xe s
def tYes : TT := fun _ H Q => Q true H
theorem pts_nil : PTs X [] tYes := fun _ _ _ H _ I h => wpAny_tests_nil ⟨H, I, h⟩
theorem comp_loop {prog : Program} {w : World} {A : Around} {R : Result → Shared → Prop} {s : Shared} {elt target iter : Expr} {ifs : List Expr} {scope : Scope} {pos : Pos} {it acc : Value} {env : Env} (I : Nat → Shared → Prop)
  (turn : ∀ n s, I n s → wpAny (model prog w) A (pyNext it) (fun r s₁ => match r with
   | none => R (.ok .next) s₁
   | some v => wpAny (model prog w) A (letOwnedTupleGo target it v) (fun _ s₁' => wpAny (model prog w) A (assign target env v) (fun _ s₂ => wpAny (model prog w) A (testsOf ifs env) (fun ok s₃ =>
     if ok = true then wpAny (model prog w) A (eval elt env) (fun x s₄ =>
      wpAny (model prog w) A (call (.builtin "list.append") [acc, x]) (fun _ s₅ => ∃ m, m < n ∧ I m s₅) (notedBy (model prog w) A env fun e s' => R (.error e) s') s₄) (notedBy (model prog w) A env fun e s' => R (.error e) s') s₃
     else ∃ m, m < n ∧ I m s₃) (notedBy (model prog w) A env fun e s' => R (.error e) s') s₂) (notedBy (model prog w) A env fun e s' => R (.error e) s') s₁') (notedBy (model prog w) A env fun e s' => R (.error e) s') s₁) (notedBy (model prog w) A env fun e s' => R (.error e) s') s)
  (n : Nat) (h : I n s) : codeAny (model prog w) A (.compLoop (.ListComp elt [⟨target, iter, ifs, 0⟩] scope pos) 0 it acc env) R s := by
 refine codeAny_loop rfl I (fun n s hI => ?_) n h
 show wpAny _ _ ((compTurn (.ListComp elt [⟨target, iter, ifs, 0⟩] scope pos) 0 it acc env).onRaise (fun x => do noteFrame x env; theTreesLotGoes x)) _ _ s
 refine wpAny_noted ?_
 rw [compTurn_list]
 refine wpAny_bind (wpAny_standAt (wpAny_bind (wpAny_mono (turn n s hI) (fun r s₁ h₁ => ?_) fun _ _ h' => h')))
 cases r with
 | none => exact wpAny_pure h₁
 | some v =>
  refine wpAny_bind (wpAny_mono h₁ (fun _ s₁' h₁' => ?_) fun _ _ h' => h')
  refine wpAny_bind (wpAny_mono h₁' (fun _ s₂ h₂ => wpAny_bind (wpAny_mono h₂ (fun ok s₃ h₃ => ?_) fun _ _ h' => h')) fun _ _ h' => h')
  cases ok with
  | false => exact wpAny_pure ⟨rfl, h₃⟩
  | true => exact wpAny_bind (wpAny_bind (wpAny_mono h₃ (fun x s₄ h₄ => wpAny_bind (wpAny_mono h₄ (fun _ s₅ h₅ => wpAny_pure (wpAny_pure ⟨rfl, h₅⟩)) fun _ _ h' => h')) fun _ _ h' => h'))
def tBlkT (nt : Nat) (cp : St) (J : It) (g : TG) (tt : TT) (te : TE) (H1 : Hp) (Q : VK) : Prop := ∀ acc H2, H1 acc = none → Same H1 H2 → H2 acc = some (.lst []) →
 ∃ W : Nat → Nat → List V → Hp → Prop, (∃ m, W 0 m [] H2) ∧ ∀ i m ys H, W i m ys H → H acc = some (.lst ys) ∧ ((J.stop i H ∧ Q (.ref acc) H) ∨ (J.go i H ∧ ys.length < 1000000 ∧ ∃ N : List V → Hp → Prop, (∀ ys' H', N ys' H' → ∃ m', m' < m ∧ W (i + 1) m' ys' H') ∧
  ∀ os x H', os.length = nt → J.yld i H x H' → g x (os ++ cp) H' fun τ H3 => ∃ os', os'.length = nt ∧ τ = os' ++ cp ∧ tt τ H3 fun b H4 => if b = true then te τ H4 fun v H5 => H5 acc = some (.lst ys) ∧ N (ys ++ [v]) (upd H5 acc (.lst (ys ++ [v]))) else N ys H4))
def tBlk (nt : Nat) (cp : St) (J : It) (g : TG) (te : TE) (H1 : Hp) (Q : VK) : Prop := tBlkT nt cp J g tYes te H1 Q
def tCompT (nt : Nat) (caps : List Nat) (wi : TI) (g : TG) (tt : TT) (te : TE) : TE := fun σ H Q => wi σ H fun J H1 => tBlkT nt (capOf σ caps) J g tt te H1 Q
def tComp (nt : Nat) (caps : List Nat) (wi : TI) (g : TG) (te : TE) : TE := fun σ H Q => wi σ H fun J H1 => tBlk nt (capOf σ caps) J g te H1 Q
def BlkPost (X : Cx) (pins : List (Addr × Obj)) (σ : St) (Q : VK) (acc : Value) (C : Addr) (r : Result) (s' : Shared) : Prop :=
 r = .ok .next ∧ ∃ a H', acc = .ref a ∧ Inv X pins σ H' s' ∧ FpOk X pins H' C ∧ (∃ m, s'.heap.Ns C m) ∧ Q (.ref a) H'
theorem blk_key {elt target iter : Expr} {ifs : List Expr} {pos : Pos} {g : TG} {tt : TT} {te : TE} {it acc : Addr} {tn : Nat → Heap → Prop} {J : It} {Q : VK} {cells : List (Str × Addr)} {fn : Str → Bool} {s3 s4 : Shared} {H3 : Hp} {W : Nat → Nat → List V → Hp → Prop} {m0 : Nat} (hc : X.calm = true)
  (hg : PG (blkG X (ts ++ cs) sc cells fn s3 H3 fp) target g) (ht : PTs (blkG X (ts ++ cs) sc cells fn s3 H3 fp) ifs tt) (he : PE (blkG X (ts ++ cs) sc cells fn s3 H3 fp) elt te) (ok : (blkG X (ts ++ cs) sc cells fn s3 H3 fp).Ok)
  (I3 : Inv X pins σ H3 s3) (f3 : ∀ b ∈ fp, FpOk X pins H3 b) (hlt3 : ∀ b ∈ fp, b < s3.heap.objs.size) (T : Turn X.prog X.w X.K target J fp it tn) (J4 : Inv (blkG X (ts ++ cs) sc cells fn s3 H3 fp) [] (List.replicate ts.length none ++ capOf σ caps) H3 s4) (st4 : tn 0 s4.heap) (w0 : W 0 m0 [] H3)
  (step : ∀ i m ys H, W i m ys H → H acc = some (.lst ys) ∧ ((J.stop i H ∧ Q (.ref acc) H) ∨ (J.go i H ∧ ys.length < 1000000 ∧ ∃ N : List V → Hp → Prop, (∀ ys' H', N ys' H' → ∃ m', m' < m ∧ W (i + 1) m' ys' H') ∧
   ∀ os x H', os.length = ts.length → J.yld i H x H' → g x (os ++ capOf σ caps) H' fun τ H3 => ∃ os', os'.length = ts.length ∧ τ = os' ++ capOf σ caps ∧ tt τ H3 fun b H4 => if b = true then te τ H4 fun v H5 => H5 acc = some (.lst ys) ∧ N (ys ++ [v]) (upd H5 acc (.lst (ys ++ [v]))) else N ys H4))) :
  codeAny (model X.prog X.w) X.A (.compLoop (.ListComp elt [⟨target, iter, ifs, 0⟩] sc pos) 0 (.ref it) (.ref acc) (compEnvC sc cells s3.heap.objs.size X.env)) (BlkPost X pins σ Q (.ref acc) s3.heap.objs.size) s4 := by
 have stat : ∀ {H' : Hp}, (∀ b ∈ fp, H' b = none) → ∀ b ∈ fp, FpOk (blkG X (ts ++ cs) sc cells fn s3 H3 fp) [] H' b := fun hn b hb =>
  ⟨hn b hb, Nat.ne_of_lt (hlt3 b hb), ok.exfs b hb, .inl hb, ok.exf b hb |>.2, fun p hp => absurd (show p ∈ ([] : List (Addr × Obj)) from hp) (by simp)⟩
 refine comp_loop (fun n s' => ∃ i os ys H', os.length = ts.length ∧ Inv (blkG X (ts ++ cs) sc cells fn s3 H3 fp) [] (os ++ capOf σ caps) H' s' ∧ tn i s'.heap ∧ (∀ b ∈ fp, H' b = none) ∧ W i n ys H') ?_ m0
  ⟨0, List.replicate ts.length none, [], _, by simp, J4, st4, fun b hb => (f3 b hb).1, w0⟩
 rintro n s5 ⟨i, os, ys, H5, ol, J5, st5, fr5, w5⟩
 obtain ⟨ha, hcase⟩ := step i n ys H5 w5
 rcases hcase with ⟨stop, q⟩ | ⟨go, hys, N, hN, turn⟩
 ·refine thn (T.done (blkG X (ts ++ cs) sc cells fn s3 H3 fp) rfl rfl rfl hc i [] s5 _ H5 _ J5 (stat fr5) st5 stop) fun r s6 ⟨hr, J6⟩ => ?_
  subst hr
  have hf6 : H5 s3.heap.objs.size = none := J6.free
  obtain ⟨m6, hm6, _⟩ := J6.loc
  exact ⟨rfl, _, H5, rfl, I3.call' (J6.os) J6.base J6.hok J6.bare (fun b hb => ⟨(f3 b hb).2.2.2.1, (f3 b hb).2.1, (f3 b hb).2.2.2.2.1, (f3 b hb).2.2.2.2.2⟩), I3.fpOk (Nat.le_refl _) hf6, ⟨m6, hm6⟩, q⟩
 ·refine thn (T.item (blkG X (ts ++ cs) sc cells fn s3 H3 fp) rfl rfl rfl hc i [] s5 _ H5 _ J5 (stat fr5) st5 go) fun r s6 ⟨u, hr, h6⟩ => ?_
  subst hr
  refine thn h6 fun _ s7 ⟨x, H7, J7, r7, y7, st7, fr7⟩ => ?_
  have J7' := J7.pinned (stat fr7) (T.obj _ _ st7)
  refine wpAny_mono (hg _ s7 _ H7 x u _ J7' r7 (turn os x H7 ol y7)) (fun _ s8 ⟨σ8, H8, J8, os', ol', e8, q8⟩ => ?_) fun _ _ z => z.elim
  subst e8
  refine wpAny_mono (ht _ s8 _ H8 _ J8 q8) (fun b s8' ⟨H8', J8', q8'⟩ => ?_) fun _ _ z => z.elim
  cases b with
  | false =>
   rw [if_neg (by decide)] at q8' ⊢
   obtain ⟨m', hm', w9⟩ := hN _ _ q8'
   refine ⟨m', hm', i + 1, os', ys, _, ol', J8'.unpinned, T.keep _ _ _ st7 fun b hb o e => (J8'.pin (b, o) (List.mem_append_right _ (List.mem_append_right _ (mem_pinsAt hb e)))).1, fun b hb => ?_, w9⟩
   obtain ⟨o, e, d⟩ := T.obj _ _ st7 b hb
   exact (J8'.pin (b, o) (List.mem_append_right _ (List.mem_append_right _ (mem_pinsAt hb e)))).2.1
  | true =>
   rw [if_pos rfl] at q8' ⊢
   refine wpAny_mono (he _ s8' _ H8' _ J8' q8') (fun v s9 ⟨v9, H9, J9, r9, ha9, n9⟩ => ?_) fun _ _ z => z.elim
   refine wpAny_mono (mt_append (X := blkG X (ts ++ cs) sc cells fn s3 H3 fp) _ s9 _ H9 (.ref acc) [v9] (.ref acc) [v] (fun _ H' => H' = upd H9 acc (.lst (ys ++ [v9]))) J9 rfl (.cons r9 .nil) ⟨_, ys, v9, rfl, rfl, ha9, mill hys, rfl⟩) (fun _ s10 ⟨_, H10, J10, _, e10⟩ => ?_) fun _ _ z => z.elim
   subst e10
   obtain ⟨m', hm', w9⟩ := hN _ _ n9
   refine ⟨m', hm', i + 1, os', ys ++ [v9], _, ol', J10.unpinned, T.keep _ _ _ st7 fun b hb o e => (J10.pin (b, o) (List.mem_append_right _ (List.mem_append_right _ (mem_pinsAt hb e)))).1, fun b hb => ?_, w9⟩
   obtain ⟨o, e, d⟩ := T.obj _ _ st7 b hb
   exact (J10.pin (b, o) (List.mem_append_right _ (List.mem_append_right _ (mem_pinsAt hb e)))).2.1
theorem blk_run {elt target iter : Expr} {ifs : List Expr} {pos : Pos} {g : TG} {tt : TT} {te : TE} {it : Addr} {tn : Nat → Heap → Prop} {J : It} {Q : VK} {E : Value → Shared → Prop} (B : Blk X ts caps cs sc cl) (hc : X.calm = true)
  (hg : ∀ s H fp, PG (blk X (ts ++ cs) sc cl s H fp) target g) (ht : ∀ s H fp, PTs (blk X (ts ++ cs) sc cl s H fp) ifs tt) (he : ∀ s H fp, PE (blk X (ts ++ cs) sc cl s H fp) elt te)
  (I2 : Inv X pins σ H s) (T : Turn X.prog X.w X.K target J fp it tn) (st2 : tn 0 s.heap) (f2 : ∀ b ∈ fp, FpOk X pins H b) (h : tBlkT ts.length (capOf σ caps) J g tt te H Q) :
  wpAny (model X.prog X.w) X.A (newList []) (fun acc s₃ => wpAny (model X.prog X.w) X.A (newFunctionEnv sc X.env.globals cl [] X.env.qual none .none (some X.env)) (fun cenv s₄ =>
   codeAny (model X.prog X.w) X.A (.compStart (.ListComp elt [⟨target, iter, ifs, 0⟩] sc pos) 0 (.ref it) acc { cenv with scope := relabel sc X.env }) (BlkPost X pins σ Q acc cenv.locals) s₄) E s₃) E s := by
 refine wpAny_newObj_type (wpAny_newFunctionEnv B.cell (by intro y hy; simp at hy) (fun h₁ hns₁ hsb₁ => ?_) B.kind)
 dsimp only at hns₁ hsb₁ ⊢
 have hnew : H s.heap.objs.size = none := I2.hok.fresh (Nat.le_refl _)
 have I3 : Inv X pins σ (upd H s.heap.objs.size (.lst [])) { s with heap := s.heap.push { cls := .type "list", dict := none, data := .seq ([] : List Value).toArray } } :=
  I2.laid (t' := s.toks) (fun b u e => Heap.get?_push_of_some _ e) (Nat.le_refl _) ⟨Nat.zero_le _, [], 0, .nil, Heap.get?_push_size _ rfl⟩
 obtain ⟨W, ⟨m0, w0⟩, step⟩ := h s.heap.objs.size _ hnew (same_new hnew _) upd_same
 have old2 : ∀ b o, s.heap.get? b = some o → (s.heap.push { cls := .type "list", dict := none, data := .seq ([] : List Value).toArray }).get? b = some o := fun b o e => Heap.get?_push_of_some _ e
 generalize hs3 : ({ s with heap := s.heap.push { cls := .type "list", dict := none, data := .seq ([] : List Value).toArray } } : Shared) = s3 at I3
 have hh : s.heap.push { cls := .type "list", dict := none, data := .seq ([] : List Value).toArray } = s3.heap := by rw [← hs3]
 rw [hh] at hns₁ hsb₁ old2
 have fpO : ∀ b ∈ fp, ∃ o, s.heap.get? b = some o := fun b hb => let ⟨o, e, _⟩ := T.obj 0 _ st2 b hb; ⟨o, e⟩
 have f3 : ∀ b ∈ fp, FpOk X pins (upd H s.heap.objs.size (.lst [])) b := fun b hb => ⟨by
  obtain ⟨o, e⟩ := fpO b hb
  rw [upd_ne (Nat.ne_of_lt (Heap.lt_size e))]; exact (f2 b hb).1, (f2 b hb).2⟩
 have hlt3 : ∀ b ∈ fp, b < s3.heap.objs.size := fun b hb => let ⟨o, e⟩ := fpO b hb; Heap.lt_size (old2 b o e)
 have kk : ∀ b o, s3.heap.get? b = some o → h₁.get? b = some o := fun b o e => hsb₁.extBut b o (Nat.ne_of_lt (Heap.lt_size e)) (Heap.get?_push_of_some _ e)
 have J4 := blk_inv (t' := s.toks + ([] : List (Str × Value)).length) B I3 f3 hlt3 (h₁ := h₁) hns₁ kk
 have st4 : tn 0 h₁ := T.keep _ _ _ st2 fun b hb o e => kk b o (old2 b o e)
 have key : ∀ s4 : Shared, s4 = { s3 with heap := h₁, toks := s.toks + ([] : List (Str × Value)).length } →
   codeAny (model X.prog X.w) X.A (.compLoop (.ListComp elt [⟨target, iter, ifs, 0⟩] sc pos) 0 (.ref it) (.ref s.heap.objs.size) (compEnvC sc cl s3.heap.objs.size X.env)) (BlkPost X pins σ Q (.ref s.heap.objs.size) s3.heap.objs.size) s4 := by
  rintro s4 rfl
  exact blk_key hc (hg _ _ _) (ht _ _ _) (he _ _ _) (blk_ok B I3 f3 hlt3) I3 f3 hlt3 T J4 st4 w0 step
 have key2 := key { s with heap := h₁, toks := s.toks + ([] : List (Str × Value)).length } (by rw [← hs3])
 rw [hh]
 exact codeAny_compStart_list key2 (T.self _ 0 _ _ _ st4 key2)
theorem pe_compT {elt target iter : Expr} {ifs : List Expr} {pos : Pos} {wi : TI} {g : TG} {tt : TT} {te : TE} (B : Blk X ts caps cs sc cl) (hi : PI X target iter wi)
  (hg : ∀ s H fp, PG (blk X (ts ++ cs) sc cl s H fp) target g) (ht : ∀ s H fp, PTs (blk X (ts ++ cs) sc cl s H fp) ifs tt) (he : ∀ s H fp, PE (blk X (ts ++ cs) sc cl s H fp) elt te) (hc : X.calm = true := by rfl) (hs : ∀ x, foldedSetIterable iter X.env x = pure x := by intro _; rfl) :
  PE X (.ListComp elt [⟨target, iter, ifs, 0⟩] sc pos) (tCompT ts.length caps wi g tt te) := by
 intro pins s σ H Q I h
 rw [eval_ListComp]
 refine wpAny_comprehension_free (use := none) rfl hs B.clos B.kind B.loc (thn (hi pins s σ H _ I h) fun v s1 h1 => thn h1 fun itv s2 h2 => ?_)
 obtain ⟨it, fp, tn, J, H2, e, I2, T, st2, f2, hq⟩ := h2
 subst e
 refine thn (blk_run B hc hg ht he I2 T st2 f2 hq) fun acc s3 h3 => thn h3 fun cenv s4 h4 => codeAny_mono h4 fun r s' hp => ?_
 obtain ⟨rfl, a, H', rfl, I', fC, ⟨m, hm⟩, q⟩ := hp
 exact ⟨m, hm, fun h' sb => ⟨.ref a, H', I'.turned (t' := s'.toks) (fun b o hb e => sb.extBut b o hb e) fC.1 fC.2.1 fC.2.2.2.1 fC.2.2.2.2.1 fC.2.2.2.2.2, rfl, q⟩⟩
theorem pe_comp {elt target iter : Expr} {pos : Pos} {wi : TI} {g : TG} {te : TE} (B : Blk X ts caps cs sc cl) (hi : PI X target iter wi)
  (hg : ∀ s H fp, PG (blk X (ts ++ cs) sc cl s H fp) target g) (he : ∀ s H fp, PE (blk X (ts ++ cs) sc cl s H fp) elt te) (hc : X.calm = true := by rfl) (hs : ∀ x, foldedSetIterable iter X.env x = pure x := by intro _; rfl) :
  PE X (.ListComp elt [⟨target, iter, [], 0⟩] sc pos) (tComp ts.length caps wi g te) := pe_compT B hi hg (fun _ _ _ => pts_nil) he hc hs
end
end My
namespace My
open PySem PySem.Spec L2
open PyProof.Rows hiding St
section
variable {X : Cx} {tg e elt it c d : Expr} {te : TE} {ta : TA} {wi : TI} {g : TG} {pos p : Pos} {ts cs : List Str} {caps : List Nat} {sc : Scope} {cl : List (Str × Addr)}
theorem q_list (hg : Gl X "list") (hm : X.mg "list" = none) (ha : QA X [c] ta) (hp : plainE c = true := by rfl) (hc : X.calm = true := by rfl) : QE X (.Call (.Name "list" p) [c] [] pos) (tCB (rList X.K) ta) := ⟨pe_callTy (call_listA hc) hg hm (by decide +kernel) ha.h (by decide) (by decide) (se_cons hp) rfl⟩
theorem blk0 (ts : List Str) (hk : sc.kind = .function := by rfl) (h : (sc.names.all fun x => x.2 != .free && x.2 != .cell && (x.2 != .local || sc.names.lookup x.1 == some .local)) = true := by decide +kernel) : Blk X ts [] [] sc [] := by
 have hh : ∀ x ∈ sc.names, x.2 ≠ .free ∧ x.2 ≠ .cell ∧ (x.2 = .local → sc.names.lookup x.1 = some .local) := fun x hx => by
  have q := List.all_eq_true.mp h x hx
  simp only [Bool.and_eq_true, bne_iff_ne, ne_eq, Bool.or_eq_true, beq_iff_eq] at q
  exact ⟨q.1.1, q.1.2, fun z => q.2.elim (fun y => absurd z y) id⟩
 have rl : relabel sc X.env = sc := by
  unfold relabel
  rw [map_eq_self fun x hx => by
   have q : (x.2 == NameKind.free) = false := by simpa using (hh x hx).1
   obtain ⟨n, k⟩ := x
   simp only at q
   simp [q]]
 refine ⟨closureFor_none fun x hx => (hh x hx).1, hk, fun x hx => (hh x hx).2.1, fun x hx => (hh x hx).2.2, fun x c e => by simp at e, fun x e => ?_, rfl, fun k i x e => by simp at e, fun x e => by simp at e⟩
 rw [rl] at e
 rcases e with e | e
 ·exact absurd rfl (hh _ (PySem.mem_of_lookup e)).2.1
 ·exact absurd rfl (hh _ (PySem.mem_of_lookup e)).1
def closL (cells : List (Str × Addr)) : List (Str × NameKind) → List (Str × Addr) → Option (List (Str × Addr))
 | [], acc => some acc
 | (n, k) :: r, acc => if k == .free then (match cells.lookup n with | some c => closL cells r ((n, c) :: acc) | none => none) else closL cells r acc
theorem closL_of {env : Env} : ∀ {ns : List (Str × NameKind)} {acc cl : List (Str × Addr)}, closL env.cells ns acc = some cl →
  (forIn ns acc fun x r => (match x with | (name, kind) => if (kind == NameKind.free) = true then do let c ← PySem.cellOf env name; pure (ForInStep.yield ((name, c) :: r)) else pure (ForInStep.yield r) : Sem (ForInStep (List (Str × Addr))))) = (pure cl : Sem _)
 | [], acc, cl, h => by cases h; rfl
 | (n, k) :: r, acc, cl, h => by
  unfold closL at h
  rw [List.forIn_cons]
  dsimp only
  split at h
  ·rename_i hk
   rw [if_pos hk]
   split at h
   ·rename_i c hc
    have e : PySem.cellOf env n = pure c := by unfold PySem.cellOf; rw [hc]
    rw [e]
    exact closL_of h
   ·cases h
  ·rename_i hk
   rw [if_neg hk]
   exact closL_of h
theorem closL_sub {cells : List (Str × Addr)} : ∀ {ns : List (Str × NameKind)} {acc cl : List (Str × Addr)}, closL cells ns acc = some cl → (∀ p ∈ acc, cells.lookup p.1 = some p.2) → ∀ p ∈ cl, cells.lookup p.1 = some p.2
 | [], acc, cl, h, ha => by cases h; exact ha
 | (n, k) :: r, acc, cl, h, ha => by
  unfold closL at h
  split at h
  ·split at h
   ·rename_i c hc
    exact closL_sub h fun p hp => by
     rcases List.mem_cons.mp hp with rfl | hp
     ·exact hc
     ·exact ha p hp
   ·cases h
  ·exact closL_sub h ha
theorem closL_has {cells : List (Str × Addr)} {x : Str} : ∀ {ns : List (Str × NameKind)} {acc cl : List (Str × Addr)}, closL cells ns acc = some cl → ((x, NameKind.free) ∈ ns ∨ ∃ c, (x, c) ∈ acc) → ∃ c, (x, c) ∈ cl
 | [], acc, cl, h, ha => by
  cases h
  rcases ha with z | z
  ·cases z
  ·exact z
 | (n, k) :: r, acc, cl, h, ha => by
  unfold closL at h
  split at h
  ·split at h
   ·rename_i c hc
    refine closL_has h ?_
    rcases ha with z | ⟨c', z⟩
    ·rcases List.mem_cons.mp z with e | z
     ·cases e; exact .inr ⟨c, List.mem_cons_self⟩
     ·exact .inl z
    ·exact .inr ⟨c', List.mem_cons_of_mem _ z⟩
   ·cases h
  ·rename_i hk
   refine closL_has h ?_
   rcases ha with z | z
   ·rcases List.mem_cons.mp z with e | z
    ·cases e; exact absurd rfl hk
    ·exact .inl z
   ·exact .inr z
theorem lookup_of_mem {x : Str} {c : Addr} : ∀ {l : List (Str × Addr)}, (x, c) ∈ l → ∃ c', l.lookup x = some c'
 | [], h => by cases h
 | (n, d) :: r, h => by
  rw [List.lookup_cons]
  cases e : x == n with
  | true => exact ⟨d, rfl⟩
  | false =>
   rcases List.mem_cons.mp h with z | z
   ·cases z; simp at e
   ·exact lookup_of_mem z
theorem relabel_cases {env : Env} {x : Str} {k : NameKind} (h : (relabel sc env).names.lookup x = some k) : (x, k) ∈ sc.names ∨ (k = .cell ∧ (x, NameKind.free) ∈ sc.names) := by
 have m := PySem.mem_of_lookup h
 unfold relabel at m
 obtain ⟨⟨n, k'⟩, hm, e⟩ := List.mem_map.mp m
 dsimp only at e
 split at e
 ·rename_i hc
  cases e
  simp only [Bool.and_eq_true, beq_iff_eq] at hc
  rw [hc.1.1] at hm
  exact .inr ⟨rfl, hm⟩
 ·cases e
  exact .inl hm
theorem relabel_free {env : Env} {x : Str} : ∀ {ns : List (Str × NameKind)}, ns.lookup x = some NameKind.free →
  (ns.map fun (n, k) => if (k == NameKind.free && env.scope.kind == .function && env.kindOf n == some .cell) then (n, NameKind.cell) else (n, k)).lookup x = some .cell ∨
  (ns.map fun (n, k) => if (k == NameKind.free && env.scope.kind == .function && env.kindOf n == some .cell) then (n, NameKind.cell) else (n, k)).lookup x = some .free
 | [], h => by cases h
 | (n, k) :: r, h => by
  rw [List.lookup_cons] at h
  rw [List.map_cons]
  dsimp only
  cases e : x == n with
  | true =>
   rw [e] at h
   cases h
   split <;> simp [List.lookup_cons, e]
  | false =>
   rw [e] at h
   split
   ·simp only [List.lookup_cons, e]; exact relabel_free h
   ·simp only [List.lookup_cons, e]; exact relabel_free h
theorem blkC (ts : List Str) (caps : List Nat) (cs : List Str) (hcl : closL X.env.cells sc.names [] = some cl := by rfl) (hcap : caps.map (fun i => X.N[i]?) = cs.map some := by rfl) (hck : (cs.all fun x => X.env.kindOf x == some .cell || X.env.kindOf x == some .free) = true := by rfl)
  (hcf : cs.map (fun x => sc.names.lookup x) = cs.map (fun _ => some NameKind.free) := by rfl) (hk : sc.kind = .function := by rfl) (h : (sc.names.all fun x => x.2 != .cell && (x.2 != .local || sc.names.lookup x.1 == some .local)) = true := by decide +kernel) : Blk X ts caps cs sc cl := by
 have hh : ∀ x ∈ sc.names, x.2 ≠ .cell ∧ (x.2 = .local → sc.names.lookup x.1 = some .local) := fun x hx => by
  have q := List.all_eq_true.mp h x hx
  simp only [Bool.and_eq_true, bne_iff_ne, ne_eq, Bool.or_eq_true, beq_iff_eq] at q
  exact ⟨q.1, fun z => q.2.elim (fun y => absurd z y) id⟩
 have len : caps.length = cs.length := by have := congrArg List.length hcap; simpa using this
 refine ⟨?_, hk, fun x hx => (hh x hx).1, fun x hx => (hh x hx).2, fun x c e => ?_, fun x e => ?_, len, fun k i x e1 e2 => ?_, fun x hx => ?_⟩
 ·simp only [closureFor]
  rw [closL_of hcl]
  rfl
 ·exact closL_sub hcl (fun p hp => by cases hp) _ (PySem.mem_of_lookup e)
 ·have m : (x, NameKind.free) ∈ sc.names := by
   rcases e with e | e
   ·rcases relabel_cases e with z | ⟨_, z⟩
    ·exact absurd rfl (hh _ z).1
    ·exact z
   ·rcases relabel_cases e with z | ⟨z, _⟩
    ·exact z
    ·cases z
  obtain ⟨c, hc⟩ := closL_has hcl (.inl m)
  exact lookup_of_mem hc
 ·have h1 := congrArg (·[k]?) hcap
  simp only [List.getElem?_map, e1, e2, Option.map_some, Option.some.injEq] at h1
  have h2 := List.all_eq_true.mp hck x (List.mem_of_getElem? e2)
  simp only [Bool.or_eq_true, beq_iff_eq] at h2
  exact ⟨h1, h2⟩
 ·obtain ⟨k, hk'⟩ := List.getElem?_of_mem hx
  have h1 := congrArg (·[k]?) hcf
  simp only [List.getElem?_map, hk', Option.map_some, Option.some.injEq] at h1
  exact relabel_free h1
structure QTs (X : Cx) (ifs : List Expr) (t : TT) : Prop where
 h : PTs X ifs t
theorem q_comp (B : Blk X ts caps cs sc cl) (hi : QI X tg it wi) (hg : ∀ s H fp, QG (blk X (ts ++ cs) sc cl s H fp) tg g) (he : ∀ s H fp, QE (blk X (ts ++ cs) sc cl s H fp) elt te) (hc : X.calm = true := by rfl) (hs : ∀ x, foldedSetIterable it X.env x = pure x := by intro _; rfl) :
  QE X (.ListComp elt [⟨tg, it, [], 0⟩] sc pos) (tComp ts.length caps wi g te) := ⟨pe_comp B hi.h (fun s H fp => (hg s H fp).h) (fun s H fp => (he s H fp).h) hc hs⟩
end
section
variable {X : Cx} {a b c e : Expr} {ta tb tc te : TE} {pos : Pos} {st : Stmt}
theorem q_leLt (ha : QE X a ta) (hb : QE X b tb) (hc : QE X c tc) (hm : lastMarks [CmpOp.LtE, CmpOp.Lt] [b, c] = false := by with_unfolding_all rfl) : QE X (.Compare a [.LtE, .Lt] [b, c] pos) (tChain (rI0 fun i j => .bl (decide (i ≤ j))) (rI0 fun i j => .bl (decide (i < j))) ta tb tc) := ⟨pe_chain op_le op_lt ha.h hb.h hc.h hm⟩
theorem q_gint {x : Str} {i : Int} {tk : Tok} (hg : Gl X x) (hm : X.mg x = some (.int i tk)) (hd : (x == ("__debug__" : Str)) = false := by decide) : QE X (.Name x pos) (tC (.int i)) := ⟨pe_glob hg hm ⟨_, rfl⟩ hd⟩
end
theorem blk_rngT {lo : Int} {n nt : Nat} {cp : St} {g : TG} {tt : TT} {te : TE} {H1 : Hp} {Q : VK} (Pv : Addr → Nat → List V → Hp → Prop) (h0 : ∀ acc H2, H1 acc = none → Same H1 H2 → H2 acc = some (.lst []) → Pv acc 0 [] H2)
  (hl : ∀ acc i ys H, Pv acc i ys H → H acc = some (.lst ys) ∧ ys.length < 1000000)
  (hs : ∀ acc i ys H os, H1 acc = none → i < n → Pv acc i ys H → os.length = nt → g (.int (lo + (i : Nat))) (os ++ cp) H fun τ H3 => ∃ os', os'.length = nt ∧ τ = os' ++ cp ∧ tt τ H3 fun b H4 => if b = true then te τ H4 fun v H5 => H5 acc = some (.lst ys) ∧ Pv acc (i + 1) (ys ++ [v]) (upd H5 acc (.lst (ys ++ [v]))) else Pv acc (i + 1) ys H4)
  (hd : ∀ acc ys H, H1 acc = none → Pv acc n ys H → Q (.ref acc) H) : tBlkT nt cp (Itr lo n) g tt te H1 Q := by
 intro acc H2 hn sm e
 refine ⟨fun i m ys H => m = n - i ∧ i ≤ n ∧ Pv acc i ys H, ⟨n, by simp, Nat.zero_le _, h0 acc H2 hn sm e⟩, ?_⟩
 rintro i m ys H ⟨rfl, hi, p⟩
 obtain ⟨q1, q2⟩ := hl acc i ys H p
 refine ⟨q1, ?_⟩
 by_cases hlt : i < n
 ·refine .inr ⟨hlt, q2, Pv acc (i + 1), fun ys' H' p' => ⟨n - (i + 1), by omega, rfl, hlt, p'⟩, fun os x H' ol y => ?_⟩
  obtain ⟨rfl, rfl⟩ := y
  exact hs acc i ys _ os hn hlt p ol
 ·have e : i = n := by omega
  subst e
  exact .inl ⟨Nat.le_refl _, hd _ _ _ hn p⟩
theorem blk_rng {lo : Int} {n nt : Nat} {cp : St} {g : TG} {te : TE} {H1 : Hp} {Q : VK} (Pv : Addr → Nat → List V → Hp → Prop) (h0 : ∀ acc H2, H1 acc = none → Same H1 H2 → H2 acc = some (.lst []) → Pv acc 0 [] H2)
  (hl : ∀ acc i ys H, Pv acc i ys H → H acc = some (.lst ys) ∧ ys.length < 1000000)
  (hs : ∀ acc i ys H os, H1 acc = none → i < n → Pv acc i ys H → os.length = nt → g (.int (lo + (i : Nat))) (os ++ cp) H fun τ H3 => ∃ os', os'.length = nt ∧ τ = os' ++ cp ∧ te τ H3 fun v H4 => H4 acc = some (.lst ys) ∧ Pv acc (i + 1) (ys ++ [v]) (upd H4 acc (.lst (ys ++ [v]))))
  (hd : ∀ acc ys H, H1 acc = none → Pv acc n ys H → Q (.ref acc) H) : tBlk nt cp (Itr lo n) g te H1 Q := by
 refine blk_rngT (tt := tYes) Pv h0 hl (fun acc i ys H os a b c d => ?_) hd
 have h := hs acc i ys H os a b c d
 have e : (fun τ H3 => ∃ os', os'.length = nt ∧ τ = os' ++ cp ∧ tYes τ H3 fun b H4 => if b = true then te τ H4 fun v H5 => H5 acc = some (.lst ys) ∧ Pv acc (i + 1) (ys ++ [v]) (upd H5 acc (.lst (ys ++ [v]))) else Pv acc (i + 1) ys H4) =
   (fun τ H3 => ∃ os', os'.length = nt ∧ τ = os' ++ cp ∧ te τ H3 fun v H4 => H4 acc = some (.lst ys) ∧ Pv acc (i + 1) (ys ++ [v]) (upd H4 acc (.lst (ys ++ [v])))) := by
  funext τ H3
  simp only [tYes, if_true]
 rw [e]
 exact h
def rngK (lo : Int) (n : Nat) (g : TG) (tb : TS) (D : Ends) (σ : St) : Hp → Prop := fun H1 => ∃ W : Nat → Nat → St → Hp → Prop, (∃ m, W 0 m σ H1) ∧ ∀ i m σ H, W i m σ H →
 ((Itr lo n).stop i H ∧ D.nx σ H) ∨ ((Itr lo n).go i H ∧ ∃ N : St → Hp → Prop, (∀ σ' H', N σ' H' → ∃ m', m' < m ∧ W (i + 1) m' σ' H') ∧ ∀ x H', (Itr lo n).yld i H x H' → g x σ H' fun σ2 H2 => tb { D with nx := N, ct := N, bk := D.nx } σ2 H2)
theorem tFor_rng1 {ta : TA} {g : TG} {tb : TS} {D : Ends} {σ : St} {H : Hp} : tFor (iRng1 ta) g tb D σ H = ta σ H fun vs H1 => ∃ j : Int, vs = [.int j] ∧ -(2 ^ 62) ≤ j ∧ j < 2 ^ 62 ∧ rngK 0 j.toNat g tb D σ H1 := rfl
theorem tFor_rng2 {ta : TA} {g : TG} {tb : TS} {D : Ends} {σ : St} {H : Hp} : tFor (iRng2 ta) g tb D σ H = ta σ H fun vs H1 => ∃ i j : Int, vs = [.int i, .int j] ∧ (-(2 ^ 62) ≤ i ∧ i < 2 ^ 62 ∧ -(2 ^ 62) ≤ j ∧ j < 2 ^ 62) ∧ rngK i (j - i).toNat g tb D σ H1 := rfl
theorem rngK_of {lo : Int} {n : Nat} {g : TG} {tb : TS} {D : Ends} {σ : St} {H : Hp} (Pv : Nat → St → Hp → Prop) (h0 : Pv 0 σ H) (hs : ∀ i σ H, i < n → Pv i σ H → g (.int (lo + (i : Nat))) σ H fun σ2 H2 => tb { D with nx := Pv (i + 1), ct := Pv (i + 1), bk := D.nx } σ2 H2)
  (hd : ∀ σ H, Pv n σ H → D.nx σ H) : rngK lo n g tb D σ H := by
 refine ⟨fun i m σ H => m = n - i ∧ i ≤ n ∧ Pv i σ H, ⟨n, by simp, Nat.zero_le _, h0⟩, ?_⟩
 rintro i m σ H ⟨rfl, hi, p⟩
 by_cases hlt : i < n
 ·refine .inr ⟨hlt, Pv (i + 1), fun σ' H' p' => ⟨n - (i + 1), by omega, rfl, hlt, p'⟩, fun x H' y => ?_⟩
  obtain ⟨rfl, rfl⟩ := y
  exact hs i σ _ hlt p
 ·have e : i = n := by omega
  subst e
  exact .inl ⟨Nat.le_refl _, hd _ _ p⟩
def listK (K : PySem.W.Frag) (g : TG) (tb : TS) (D : Ends) (σ : St) : V → Hp → Prop := fun x H1 => ∃ a, x = .ref a ∧ (∃ xs, SqL K H1 a xs) ∧ ∃ W : Nat → Nat → St → Hp → Prop, (∃ m, W 0 m σ H1) ∧ ∀ i m σ H, W i m σ H →
 ((Itl K a).stop i H ∧ D.nx σ H) ∨ ((Itl K a).go i H ∧ ∃ N : St → Hp → Prop, (∀ σ' H', N σ' H' → ∃ m', m' < m ∧ W (i + 1) m' σ' H') ∧ ∀ x H', (Itl K a).yld i H x H' → g x σ H' fun σ2 H2 => tb { D with nx := N, ct := N, bk := D.nx } σ2 H2)
theorem tFor_list {K : PySem.W.Frag} {te : TE} {g : TG} {tb : TS} {D : Ends} {σ : St} {H : Hp} : tFor (iList K te) g tb D σ H = te σ H (listK K g tb D σ) := rfl
theorem listK_of {K : PySem.W.Frag} {a : Addr} {xs : List V} {g : TG} {tb : TS} {D : Ends} {σ : St} {H : Hp} (Pv : Nat → St → Hp → Prop) (h0 : Pv 0 σ H) (hl : ∀ i σ H, i ≤ xs.length → Pv i σ H → SqL K H a xs)
  (hs : ∀ i x σ H, xs[i]? = some x → Pv i σ H → g x σ H fun σ2 H2 => tb { D with nx := Pv (i + 1), ct := Pv (i + 1), bk := D.nx } σ2 H2) (hd : ∀ σ H, Pv xs.length σ H → D.nx σ H) : listK K g tb D σ (.ref a) H :=
 ⟨a, rfl, ⟨xs, hl 0 σ H (Nat.zero_le _) h0⟩, for_list Pv h0 hl hs hd⟩
end My
namespace My
open PySem PySem.Spec L2
open PyProof.Rows hiding St
structure Mth (P : Program) (w : World) (K : PySem.W.Frag) (mg : Str → Option Value) (base : Heap) (CX : CXT) (k : Nat) (C : Addr) (m : Str) (ps : List Str) (sp : Sp) : Prop where
 ex : ∃ (f : Addr) (fd : FuncData), FnOk P w K mg base CX k f fd ps sp ∧ Binds K fd ps [] ∧ Meth K C m f ∧ Cls K C
structure Mkr (P : Program) (w : World) (K : PySem.W.Frag) (mg : Str → Option Value) (base : Heap) (CX : CXT) (k : Nat) (C : Addr) (x : Str) (ps : List Str) (sp : Sp) : Prop where
 ex : ∃ (f : Addr) (fd : FuncData), FnOk P w K mg base CX k f fd ps sp ∧ Binds K fd ps [] ∧ Mk K C f ∧ mg x = some (.ref C)
section
variable {X : Cx} {CX : CXT} {j k : Nat} {C : Addr} {x m fl : Str} {ps : List Str} {sp : Sp} {p pos apos : Pos} {e o value : Expr} {es : List Expr} {t : TA} {ta tv : TE} {E : XK}
theorem q_meth {pl : Sem Bool} (F : Mth X.prog X.w X.K X.mg X.base CX0 j C m ps sp) (hr : Room k X.A) (hj : j ≤ k) (ho : QE X o ta) (ha : QA X (e :: es) t) (hp : (e :: es).all plainE = true := by rfl)
  (ht : eval (.Call (.Attribute o m apos) (e :: es) [] pos) X.env = (do
   let ov ← eval o X.env
   standAt apos.atName
   let (f, first) ← holding [ov] (getMethod ov m pl)
   callWith pos f first (backTo pos (starEach (e :: es) X.env)) (backToKw pos (keywordEach [] X.env))) := by rfl) :
  QE X (.Call (.Attribute o m apos) (e :: es) [] pos) (tMeth C m sp [] E0 ta t) := by
 obtain ⟨f, fd, G, b, hm, c⟩ := F.ex
 exact ⟨pe_meth ho.h c hm G (hr.mono hj) b .nil pass0 ha.h (se_cons (hd_plain hp).1) (se_any (hd_plain hp).2) ht⟩
theorem q_meth0 {pl : Sem Bool} (F : Mth X.prog X.w X.K X.mg X.base CX0 j C m ps sp) (hr : Room k X.A) (hj : j ≤ k) (ho : QE X o ta)
  (ht : eval (.Call (.Attribute o m apos) [] [] pos) X.env = (do
   let ov ← eval o X.env
   standAt apos.atName
   let (f, first) ← holding [ov] (getMethod ov m pl)
   callWith pos f first (backTo pos (starEach [] X.env)) (backToKw pos (keywordEach [] X.env))) := by rfl) :
  QE X (.Call (.Attribute o m apos) [] [] pos) (tMeth C m sp [] E0 ta tNil) := by
 obtain ⟨f, fd, G, b, hm, c⟩ := F.ex
 exact ⟨pe_meth0 ho.h c hm G (hr.mono hj) b .nil pass0 ht⟩
theorem q_methX {pl : Sem Bool} (g : Goes X E) (F : Mth X.prog X.w X.K X.mg X.base (CX1 X.prog X.w) j C m ps sp) (hr : Room k X.A) (hj : j ≤ k) (ho : QE X o ta) (ha : QA X (e :: es) t) (hp : (e :: es).all plainE = true := by rfl)
  (ht : eval (.Call (.Attribute o m apos) (e :: es) [] pos) X.env = (do
   let ov ← eval o X.env
   standAt apos.atName
   let (f, first) ← holding [ov] (getMethod ov m pl)
   callWith pos f first (backTo pos (starEach (e :: es) X.env)) (backToKw pos (keywordEach [] X.env))) := by rfl) :
  QE X (.Call (.Attribute o m apos) (e :: es) [] pos) (tMeth C m sp [] E ta t) := by
 obtain ⟨f, fd, G, b, hm, c⟩ := F.ex
 exact ⟨pe_meth ho.h c hm G (hr.mono hj) b .nil g.pass ha.h (se_cons (hd_plain hp).1) (se_any (hd_plain hp).2) ht⟩
theorem q_make (F : Mkr X.prog X.w X.K X.mg X.base CX0 j C x ps sp) (hr : Room (k + 1) X.A) (hj : j ≤ k) (hg : Gl X x) (ha : QA X (e :: es) t) (hp : (e :: es).all plainE = true := by rfl) (hdb : (x == ("__debug__" : Str)) = false := by decide) :
  QE X (.Call (.Name x p) (e :: es) [] pos) (tMake C sp [] E0 t) := by
 obtain ⟨f, fd, G, b, M, hm⟩ := F.ex
 exact ⟨pe_make M (G.mono hj) hr hg hm b .nil pass0 ha.h hdb (se_cons (hd_plain hp).1) (se_any (hd_plain hp).2)⟩
theorem q_fld (ho : QE X e ta) (hb : attributeBase e fl X.env (eval e X.env) = eval e X.env := by rfl) : QE X (.Attribute e fl pos) (tFld X.K ta fl) := ⟨pe_fld ho.h hb⟩
theorem s_fld {pos' : Pos} (ho : QE X o ta) (hv : QE X value tv) (hs : swapsWith value (some (.Attribute o fl pos')) pos.line X.env = pure false := by rfl) : QS X (.Assign [.Attribute o fl pos'] value pos) (sFld X.K ta tv fl) := ⟨ps_fld ho.h hv.h hs⟩
def tMethX (C : Addr) (m : Str) (sp : Sp) (ta : TE) (t : TA) : TEX := fun σ H Q EX => ta σ H fun x H1 => ∃ a dx fs, x = .ref a ∧ H1 a = some (.ins C dx fs) ∧ fs.lookup m = none ∧ t σ H1 fun vs H2 => sp (x :: vs) H2 Q EX
end
end My
namespace My
open PySem PySem.Spec L2
open PyProof.Rows hiding St
theorem noteFrame_frame {e : Value} {env env' : Env} (h : env'.frame = env.frame) : noteFrame e env' = noteFrame e env := by
 unfold noteFrame PySem.frameOf
 rw [h]
def FlyAny (B : Heap) (l : List Env) (e : Addr) (cls a0 : Value) (h : Heap) : Prop := B.StaysIn h ∧ B.get? e = none ∧ h.FunFrames B l ∧ ∃ fl, h.TracedAtW B e cls a0 fl
section
variable {M : Model} {A : Around} {E : Value → Shared → Prop} {s : Shared} {B : Heap} {env : Env} {outer : List Env} {L e : Addr} {cls a0 : Value}
theorem note_any {Q : Unit → Shared → Prop} (hfr : A.frames = some (env :: outer)) (hf : env.frame = some L) (x : FlyAny B (env :: outer) e cls a0 s.heap)
  (h : ∀ h', Heap.HeldW B (env :: outer) e cls a0 L h' → s.heap.UpToSlots h' → Q () { s with heap := h' }) : wpAny M A (noteFrame (.ref e) env) Q E s := by
 obtain ⟨hkb, hen, hl, fl, ht⟩ := x
 by_cases hfl : fl = rawInt L
 ·subst hfl
  exact wpAny_noteFrame_againW hf ht (h s.heap ⟨hkb, hen, hl, ht⟩ (.refl _))
 ·obtain ⟨oe, vs, T, oT, ts, he, ⟨hcls, h0⟩, hd, h1, hnT, hTe, hT, hdT, h3⟩ := ht
  subst hcls
  unfold noteFrame
  simp only [hf]
  refine wpAny_bind (wpAny_field he hd h1 ?_)
  rw [if_pos (show (Value.ref T != Value.none) = true from by simp)]
  refine wpAny_bind (wpAny_field hT hdT h3 ?_)
  rw [if_neg (show ¬ ((fl == rawInt L) = true) from by simpa using hfl)]
  refine wpAny_bind (wpAny_setField hT hdT (Array.getElem?_eq_some_iff.mp h3).1 ?_)
  have other : ∀ b, b ≠ T → (s.heap.update T (Obj.mapFields (·.setIfInBounds 3 Value.none))).get? b = s.heap.get? b := fun b hb => Heap.get?_update_other _ _ (Ne.symm hb)
  have noRecord : ∀ b o, s.heap.get? b = some o → (∀ vs, o.data ≠ .fields vs) → b ≠ T := fun b o hb hnf q => by
   rw [q, hT] at hb; injection hb with hb; subst hb; exact hnf ts hdT
  refine wpAny_entryW hfr (hl.of_keeps fun b o hb hnf => ⟨o, (other b (noRecord b o hb hnf)).trans hb, rfl⟩) hf ((other e (Ne.symm hTe)).trans he)
   (fun b o hbo => (other b fun q => by rw [q, hnT] at hbo; cases hbo).trans (hkb b o hbo)) hen hd (Array.getElem?_eq_some_iff.mp h1).1 h0
   fun h' ⟨x1, x2, x3, x4⟩ => h h' ⟨x1, hen, x2, x3⟩ fun b o hb hnf => x4 b o ((other b (noRecord b o hb hnf)).trans hb) hnf
theorem passOn_any {what : String} {cenv : Env} {l : List Env} {Q : Value → Shared → Prop} (x : FlyAny B l e cls a0 s.heap) (h : ∀ h', FlyAny B l e cls a0 h' → s.heap.UpToSlots h' → E (.ref e) { s with heap := h' }) :
  wpAny M A (PySem.passOn what (.ref e) cenv : Sem Value) Q E s := by
 obtain ⟨hkb, hen, hl, fl, oe, vs, T, oT, ts, he, hcls, hd, h1, hnT, hTe, hT, hdT, h3⟩ := x
 have hsz3 : 3 < ts.size := (Array.getElem?_eq_some_iff.mp h3).1
 have key : ∀ fr : Option Addr, wpAny M A (setFlight (.ref e) fr) (fun _ s' => E (.ref e) s') E s := fun fr => by
  have other : ∀ b, b ≠ T → (s.heap.update T (Obj.mapFields (·.setIfInBounds 3 (fr.elim Value.none fun f => rawInt f)))).get? b = s.heap.get? b := fun b hb => Heap.get?_update_other _ _ (Ne.symm hb)
  have noRecord : ∀ b o, s.heap.get? b = some o → (∀ vs, o.data ≠ .fields vs) → b ≠ T := fun b o hb hnf q => by
   rw [q, hT] at hb; injection hb with hb; subst hb; exact hnf ts hdT
  unfold setFlight
  refine wpAny_bind (wpAny_field he hd h1 ?_)
  rw [if_pos (show (Value.ref T != Value.none) = true from by simp)]
  refine wpAny_setField hT hdT hsz3 (h _ ⟨fun b o hbo => (other b fun q => by rw [q, hnT] at hbo; cases hbo).trans (hkb b o hbo), hen,
   hl.of_keeps fun b o hb hnf => ⟨o, (other b (noRecord b o hb hnf)).trans hb, rfl⟩, fr.elim Value.none (fun f => rawInt f), ?_⟩ fun b o hb hnf => ⟨o.slots, (other b (noRecord b o hb hnf)).trans hb⟩)
  exact ⟨oe, vs, T, _, _, (other e (Ne.symm hTe)).trans he, hcls, hd, h1, hnT, hTe, Heap.get?_update_self _ hT (Obj.isFreed_of_fields (Obj.data_mapFields hdT _)), Obj.data_mapFields hdT _, by simp [hsz3]⟩
 unfold PySem.passOn
 refine wpAny_bind (wpAny_field he hd h1 ?_)
 rw [if_neg (show ¬ ((Value.ref T == Value.none) = true) from by simp)]
 first
  | exact wpAny_bind (wpAny_pure (wpAny_bind (wpAny_mono (key _) (fun _ _ q => wpAny_throw q) fun _ _ q => q)))
  | exact wpAny_bind (wpAny_mono (key _) (fun _ _ q => wpAny_throw q) fun _ _ q => q)
theorem FlyAny.but {l : List Env} {h h' : Heap} {C : Addr} {m : Str → Option Value} (x : FlyAny B l e cls a0 h) (hn : h.Ns C m) (sb : Heap.SameBut C h h') (hB : B.get? C = none) (hl : C ∉ l.filterMap (·.frame)) : FlyAny B l e cls a0 h' := by
 obtain ⟨hkb, hen, hfr, fl, oe, vs, T, oT, ts, he, hcls, hd, h1, hnT, hTe, hT, hdT, h3⟩ := x
 obtain ⟨oC, es, ep, hC, hdC, _⟩ := hn
 have e2 : ∀ b, b ≠ C → h'.get? b = h.get? b := sb.2
 have ne : ∀ b ob ws, h.get? b = some ob → ob.data = .fields ws → b ≠ C := fun b ob ws g1 g2 z => by
  rw [z, hC] at g1
  cases g1
  rw [hdC] at g2
  cases g2
 have frm : ∀ {l : List Env}, h.FunFrames B l → C ∉ l.filterMap (·.frame) → h'.FunFrames B l := by
  intro l
  induction l with
  | nil => exact fun _ _ => trivial
  | cons env rest ih =>
   rintro ⟨hk, ⟨L, o, hf, hn, ho, hd⟩, hr⟩ hc
   rw [List.filterMap_cons, hf] at hc
   have hc' : C ≠ L ∧ C ∉ rest.filterMap (·.frame) := by simpa using hc
   exact ⟨hk, ⟨L, o, hf, hn, (e2 L (Ne.symm hc'.1)).trans ho, hd⟩, ih hr hc'.2⟩
 refine ⟨fun b o q => (e2 b fun z => by rw [z, hB] at q; cases q).trans (hkb b o q), hen, frm hfr hl, fl, oe, vs, T, oT, ts, (e2 e (ne e oe vs he hd)).trans he, hcls, hd, h1, hnT, hTe, (e2 T (ne T oT ts hT hdT)).trans hT, hdT, h3⟩
end
section
variable {X : Cx} {E : XK} {pins : List (Addr × Obj)} {σ : St} {H : Hp} {s : Shared}
theorem Goes.passAny (b : Goes X E) (I : Inv X pins σ H s) {B : Heap} {ea C : Addr} {a0 : Value} (x : FlyAny B X.stack ea (.ref C) a0 s.heap) (cv : Cv X pins B H) (q : E (.ref C) none H) : X.xe (.ref ea) s := by
 refine b.xe _ _ ?_
 have hfr : X.A.frames = some (X.env :: X.outer) := by rw [I.ok.frames, b.st]
 rw [b.st] at x
 have k0 := x.1
 unfold leaving
 refine wpAny_bind (note_any hfr b.fr x fun h1 held u1 => wpAny_landsW held fun h2 fl u2 => ?_)
 have I' := fly (t' := s.toks) I b.st b.fr cv k0 fl.1 (u1.trans u2)
 obtain ⟨k1, k2, ⟨_, _, k3⟩, k4⟩ := fl
 refine ⟨ea, C, a0, B, H, rfl, I'.os, I'.bare, ?_, I'.hok, ⟨k1, k2, k3, k4⟩, fun a o z n => cv.old a o z fun m => ?_, cv.trk, q⟩
 ·have z := I'.base
  rw [b.ex] at z
  exact z
 ·rcases List.mem_cons.mp (I.stkSub a m) with w | w
  ·exact absurd (Nat.lt_of_lt_of_le (Heap.lt_size z) (w ▸ I.ok.above)) (Nat.lt_irrefl _)
  ·exact n w
def BE (X : Cx) (E : XK) (N : List Str) (sc : Scope) (cl : List (Str × Addr)) (s : Shared) (H : Hp) (fp : List Addr) : Value → Shared → Prop := fun e s' => ∃ (ea C : Addr) (a0 : Value) (B : Heap) (τ : St) (H' : Hp), e = .ref ea ∧ Inv (blk X N sc cl s H fp) [] τ H' s' ∧
 Heap.FlyingW B X.stack ea (.ref C) a0 s'.heap ∧ (∀ b o, s.heap.get? b = some o → b ∉ frs X.stack → b ∉ fp → ∃ o', B.get? b = some o') ∧ (∀ b o, H' b = some o → ∃ o', B.get? b = some o') ∧ E (.ref C) none H'
abbrev blkE (X : Cx) (E : XK) (N : List Str) (sc : Scope) (cl : List (Str × Addr)) (s : Shared) (H : Hp) (fp : List Addr) : Cx := (blk X N sc cl s H fp).wish (BE X E N sc cl s H fp)
theorem blk_pass {N : List Str} {sc : Scope} {cl : List (Str × Addr)} {fp : List Addr} : Passes (CX1 X.prog X.w) (blkE X E N sc cl s H fp) E := by
 intro pins τ H1 s1 e s' I h
 obtain ⟨ea, C, a0, B, H', rfl, ho, hg, un, hok, fl, cov, trk, q⟩ := h
 have I0 : Inv (blk X N sc cl s H fp) pins τ H1 s1 := I.unwish
 have I1 : Inv (blk X N sc cl s H fp) pins τ H' s' := I0.call' (ch := []) ho un hok hg fun _ z => nomatch z
 refine ⟨ea, C, a0, B, τ, H', rfl, I1.pins_of (fun p hp => by cases hp), fl, fun b o e n nf => ?_, trk, q⟩
 obtain ⟨o', e'⟩ := I0.base.there b o e nf
 exact cov b o' e' n
variable {ts cs : List Str} {caps : List Nat} {sc : Scope} {cl : List (Str × Addr)} {fp : List Addr}
def BlkErr (X : Cx) (E : XK) (pins : List (Addr × Obj)) (σ : St) (C : Addr) (e : Value) (s' : Shared) : Prop := ∃ (ea Cc : Addr) (a0 : Value) (B : Heap) (H' : Hp), e = .ref ea ∧ Inv X pins σ H' s' ∧ FpOk X pins H' C ∧ (∃ m, s'.heap.Ns C m) ∧
 FlyAny B X.stack ea (.ref Cc) a0 s'.heap ∧ Cv X pins B H' ∧ B.get? C = none ∧ E (.ref Cc) none H'
def BlkPostE (X : Cx) (E : XK) (pins : List (Addr × Obj)) (σ : St) (Q : VK) (acc : Value) (C : Addr) (r : Result) (s' : Shared) : Prop := BlkPost X pins σ Q acc C r s' ∨ ∃ e, r = .error e ∧ BlkErr X E pins σ C e s'
theorem blk_runX {elt target iter : Expr} {ifs : List Expr} {pos : Pos} {g : TG} {tt : TT} {te : TE} {it : Addr} {tn : Nat → Heap → Prop} {J : It} {Q : VK} {E' : Value → Shared → Prop} (b : Body X) (B : Blk X ts caps cs sc cl) (hc : X.calm = true)
  (hg : ∀ s H fp, PG (blkE X E (ts ++ cs) sc cl s H fp) target g) (ht : ∀ s H fp, PTs (blkE X E (ts ++ cs) sc cl s H fp) ifs tt) (he : ∀ s H fp, PE (blkE X E (ts ++ cs) sc cl s H fp) elt te)
  (I2 : Inv X pins σ H s) (T : Turn X.prog X.w X.K target J fp it tn) (st2 : tn 0 s.heap) (f2 : ∀ b ∈ fp, FpOk X pins H b) (h : tBlkT ts.length (capOf σ caps) J g tt te H Q) :
  wpAny (model X.prog X.w) X.A (newList []) (fun acc s₃ => wpAny (model X.prog X.w) X.A (newFunctionEnv sc X.env.globals cl [] X.env.qual none .none (some X.env)) (fun cenv s₄ =>
   codeAny (model X.prog X.w) X.A (.compStart (.ListComp elt [⟨target, iter, ifs, 0⟩] sc pos) 0 (.ref it) acc { cenv with scope := relabel sc X.env }) (BlkPostE X E pins σ Q acc cenv.locals) s₄) E' s₃) E' s := by
 refine wpAny_newObj_type (wpAny_newFunctionEnv B.cell (by intro y hy; simp at hy) (fun h₁ hns₁ hsb₁ => ?_) B.kind)
 dsimp only at hns₁ hsb₁ ⊢
 have hnew : H s.heap.objs.size = none := I2.hok.fresh (Nat.le_refl _)
 have I3 : Inv X pins σ (upd H s.heap.objs.size (.lst [])) { s with heap := s.heap.push { cls := .type "list", dict := none, data := .seq ([] : List Value).toArray } } :=
  I2.laid (t' := s.toks) (fun b u e => Heap.get?_push_of_some _ e) (Nat.le_refl _) ⟨Nat.zero_le _, [], 0, .nil, Heap.get?_push_size _ rfl⟩
 obtain ⟨W, ⟨m0, w0⟩, step⟩ := h s.heap.objs.size _ hnew (same_new hnew _) upd_same
 have old2 : ∀ b o, s.heap.get? b = some o → (s.heap.push { cls := .type "list", dict := none, data := .seq ([] : List Value).toArray }).get? b = some o := fun b o e => Heap.get?_push_of_some _ e
 generalize hs3 : ({ s with heap := s.heap.push { cls := .type "list", dict := none, data := .seq ([] : List Value).toArray } } : Shared) = s3 at I3
 have hh : s.heap.push { cls := .type "list", dict := none, data := .seq ([] : List Value).toArray } = s3.heap := by rw [← hs3]
 rw [hh] at hns₁ hsb₁ old2
 have fpO : ∀ b ∈ fp, ∃ o, s.heap.get? b = some o := fun b hb => let ⟨o, e, _⟩ := T.obj 0 _ st2 b hb; ⟨o, e⟩
 have f3 : ∀ b ∈ fp, FpOk X pins (upd H s.heap.objs.size (.lst [])) b := fun b hb => ⟨by
  obtain ⟨o, e⟩ := fpO b hb
  rw [upd_ne (Nat.ne_of_lt (Heap.lt_size e))]; exact (f2 b hb).1, (f2 b hb).2⟩
 have hlt3 : ∀ b ∈ fp, b < s3.heap.objs.size := fun b hb => let ⟨o, e⟩ := fpO b hb; Heap.lt_size (old2 b o e)
 have kk : ∀ b o, s3.heap.get? b = some o → h₁.get? b = some o := fun b o e => hsb₁.extBut b o (Nat.ne_of_lt (Heap.lt_size e)) (Heap.get?_push_of_some _ e)
 have J4 := blk_inv (t' := s.toks + ([] : List (Str × Value)).length) B I3 f3 hlt3 (h₁ := h₁) hns₁ kk
 have st4 : tn 0 h₁ := T.keep _ _ _ st2 fun b hb o e => kk b o (old2 b o e)
 have stat : ∀ {H' : Hp}, (∀ b ∈ fp, H' b = none) → ∀ b ∈ fp, FpOk (blk X (ts ++ cs) sc cl s3 (upd H s.heap.objs.size (.lst [])) fp) [] H' b := fun hn b hb =>
  ⟨hn b hb, Nat.ne_of_lt (hlt3 b hb), (blk_ok B I3 f3 hlt3).exfs b hb, .inl hb, (blk_ok B I3 f3 hlt3).exf b hb |>.2, fun p hp => absurd (show p ∈ ([] : List (Addr × Obj)) from hp) (by simp)⟩
 have err : ∀ e s5, BE X E (ts ++ cs) sc cl s3 (upd H s.heap.objs.size (.lst [])) fp e s5 → notedBy (model X.prog X.w) X.A (compEnvC sc cl s3.heap.objs.size X.env) (fun e s' => BlkPostE X E pins σ Q (.ref s.heap.objs.size) s3.heap.objs.size (.error e) s') e s5 := by
  rintro e s5 ⟨ea, Cc, a0, B0, τ, H', rfl, J5, fl, cov, trk, q⟩
  have IX : Inv X pins σ H' s5 := I3.call' (J5.os) J5.base J5.hok J5.bare (fun b hb => ⟨(f3 b hb).2.2.2.1, (f3 b hb).2.1, (f3 b hb).2.2.2.2.1, (f3 b hb).2.2.2.2.2⟩)
  have hC : H' s3.heap.objs.size = none := J5.free
  have stays : (PySem.W.hideAll B0 [s3.heap.objs.size]).StaysIn B0 := fun c o z => PySem.W.of_hideAll _ z
  have cov2 : ∀ c o, s3.heap.get? c = some o → c ∉ frs X.stack → c ∉ fp → ∃ o', (PySem.W.hideAll B0 [s3.heap.objs.size]).get? c = some o' := fun c o z n nf => by
   obtain ⟨o', z'⟩ := cov c o z n nf
   exact ⟨o', PySem.W.hideAll_get _ z' (by simpa using Nat.ne_of_lt (Heap.lt_size z))⟩
  obtain ⟨h1, h2, h3, _⟩ := b.apart I3
  have cv : Cv X pins (PySem.W.hideAll B0 [s3.heap.objs.size]) H' := by
   refine ⟨fun c o z n => ?_, fun c o z => ?_, fun x c z => ?_, fun p hp => ?_⟩
   ·obtain ⟨o', z'⟩ := h3 c o z
    refine cov2 c o' z' n fun nf => ?_
    rcases (f3 c nf).2.2.2.1 with y | y
    ·rw [b.ex] at y; cases y
    ·exact absurd (Nat.lt_of_lt_of_le (Heap.lt_size z) y) (Nat.lt_irrefl _)
   ·obtain ⟨o', z'⟩ := trk c o z
    exact ⟨o', PySem.W.hideAll_get _ z' (by simpa using (ne_of_none z hC))⟩
   ·obtain ⟨⟨o, z'⟩, n⟩ := h1 x c z
    exact cov2 c o z' n fun nf => (f3 c nf).2.2.2.2.1 x c z rfl
   ·obtain ⟨z', n⟩ := h2 p hp
    exact cov2 p.1 p.2 z' n fun nf => (f3 p.1 nf).2.2.2.2.2 p hp rfl
  have fl2 := PySem.W.flyingW_base stays fl
  have fa : FlyAny (PySem.W.hideAll B0 [s3.heap.objs.size]) X.stack ea (.ref Cc) a0 s5.heap := ⟨fl2.1, fl2.2.1, fl2.2.2.1, _, fl2.2.2.2⟩
  have hfr : X.A.frames = some (X.env :: X.outer) := by rw [I3.ok.frames, b.st]
  show wpAny _ _ (noteFrame (.ref ea) (compEnvC sc cl s3.heap.objs.size X.env)) _ _ s5
  rw [noteFrame_frame (env := X.env) (env' := compEnvC sc cl s3.heap.objs.size X.env) rfl]
  have fa' := fa
  rw [b.st] at fa'
  refine note_any hfr b.fr fa' fun h6 held u6 => .inr ⟨_, rfl, ea, Cc, a0, PySem.W.hideAll B0 [s3.heap.objs.size], H', rfl, fly (t' := s5.toks) IX b.st b.fr cv fa.1 held.1 u6, I3.fpOk (Nat.le_refl _) hC, ?_, ?_, cv, PySem.W.hideAll_none _ (by simp), q⟩
  ·obtain ⟨m6, hm6, _⟩ := J5.loc
   exact ⟨m6, u6.ns hm6⟩
  ·rw [b.st]
   exact ⟨held.1, held.2.1, held.2.2.1, _, held.2.2.2⟩
 have key : ∀ s4 : Shared, s4 = { s3 with heap := h₁, toks := s.toks + ([] : List (Str × Value)).length } →
   codeAny (model X.prog X.w) X.A (.compLoop (.ListComp elt [⟨target, iter, ifs, 0⟩] sc pos) 0 (.ref it) (.ref s.heap.objs.size) (compEnvC sc cl s3.heap.objs.size X.env)) (BlkPostE X E pins σ Q (.ref s.heap.objs.size) s3.heap.objs.size) s4 := by
  rintro s4 rfl
  refine comp_loop (fun n s' => ∃ i os ys H', os.length = ts.length ∧ Inv (blk X (ts ++ cs) sc cl s3 (upd H s.heap.objs.size (.lst [])) fp) [] (os ++ capOf σ caps) H' s' ∧ tn i s'.heap ∧ (∀ b ∈ fp, H' b = none) ∧ W i n ys H') ?_ m0
   ⟨0, List.replicate ts.length none, [], _, by simp, J4, st4, fun b hb => (f3 b hb).1, w0⟩
  rintro n s5 ⟨i, os, ys, H5, ol, J5, st5, fr5, w5⟩
  obtain ⟨ha, hcase⟩ := step i n ys H5 w5
  rcases hcase with ⟨stop, q⟩ | ⟨go, hys, N, hN, turn⟩
  ·refine thn (T.done (blk X (ts ++ cs) sc cl s3 (upd H s.heap.objs.size (.lst [])) fp) rfl rfl rfl hc i [] s5 _ H5 _ J5 (stat fr5) st5 stop) fun r s6 ⟨hr, J6⟩ => ?_
   subst hr
   have hf6 : H5 s3.heap.objs.size = none := J6.free
   obtain ⟨m6, hm6, _⟩ := J6.loc
   exact .inl ⟨rfl, _, H5, rfl, I3.call' (J6.os) J6.base J6.hok J6.bare (fun b hb => ⟨(f3 b hb).2.2.2.1, (f3 b hb).2.1, (f3 b hb).2.2.2.2.1, (f3 b hb).2.2.2.2.2⟩), I3.fpOk (Nat.le_refl _) hf6, ⟨m6, hm6⟩, q⟩
  ·refine thn (T.item (blk X (ts ++ cs) sc cl s3 (upd H s.heap.objs.size (.lst [])) fp) rfl rfl rfl hc i [] s5 _ H5 _ J5 (stat fr5) st5 go) fun r s6 ⟨u, hr, h6⟩ => ?_
   subst hr
   refine thn h6 fun _ s7 ⟨x, H7, J7, r7, y7, st7, fr7⟩ => ?_
   have J7' := J7.pinned (stat fr7) (T.obj _ _ st7)
   refine wpAny_mono (hg _ _ _ _ s7 _ H7 x u _ (J7'.wish _) r7 (turn os x H7 ol y7)) (fun _ s8 ⟨σ8, H8, J8, os', ol', e8, q8⟩ => ?_) fun e s' z => err e s' z
   subst e8
   refine wpAny_mono (ht _ _ _ _ s8 _ H8 _ J8 q8) (fun b s8' ⟨H8', J8', q8'⟩ => ?_) fun e s' z => err e s' z
   cases b with
   | false =>
    rw [if_neg (by decide)] at q8' ⊢
    have J8u := J8'.unwish
    obtain ⟨m', hm', w9⟩ := hN _ _ q8'
    refine ⟨m', hm', i + 1, os', ys, _, ol', J8u.unpinned, T.keep _ _ _ st7 fun b hb o e => (J8u.pin (b, o) (List.mem_append_right _ (List.mem_append_right _ (mem_pinsAt hb e)))).1, fun b hb => ?_, w9⟩
    obtain ⟨o, e, d⟩ := T.obj _ _ st7 b hb
    exact (J8u.pin (b, o) (List.mem_append_right _ (List.mem_append_right _ (mem_pinsAt hb e)))).2.1
   | true =>
    rw [if_pos rfl] at q8' ⊢
    refine wpAny_mono (he _ _ _ _ s8' _ H8' _ J8' q8') (fun v s9 ⟨v9, H9, J9w, r9, ha9, n9⟩ => ?_) fun e s' z => err e s' z
    have J9 := J9w.unwish
    refine wpAny_mono (mt_append (X := blk X (ts ++ cs) sc cl s3 (upd H s.heap.objs.size (.lst [])) fp) _ s9 _ H9 (.ref s.heap.objs.size) [v9] (.ref s.heap.objs.size) [v] (fun _ H' => H' = upd H9 s.heap.objs.size (.lst (ys ++ [v9]))) J9 rfl (.cons r9 .nil) ⟨_, ys, v9, rfl, rfl, ha9, mill hys, rfl⟩) (fun _ s10 ⟨_, H10, J10, _, e10⟩ => ?_) fun _ _ z => z.elim
    subst e10
    obtain ⟨m', hm', w9⟩ := hN _ _ n9
    refine ⟨m', hm', i + 1, os', ys ++ [v9], _, ol', J10.unpinned, T.keep _ _ _ st7 fun b hb o e => (J10.pin (b, o) (List.mem_append_right _ (List.mem_append_right _ (mem_pinsAt hb e)))).1, fun b hb => ?_, w9⟩
    obtain ⟨o, e, d⟩ := T.obj _ _ st7 b hb
    exact (J10.pin (b, o) (List.mem_append_right _ (List.mem_append_right _ (mem_pinsAt hb e)))).2.1
 have key2 := key { s with heap := h₁, toks := s.toks + ([] : List (Str × Value)).length } (by rw [← hs3])
 rw [hh]
 exact codeAny_compStart_list key2 (T.self _ 0 _ _ _ st4 key2)
theorem pe_compX {elt target iter : Expr} {ifs : List Expr} {pos : Pos} {wi : TI} {g : TG} {tt : TT} {te : TE} (b : Goes X E) (B : Blk X ts caps cs sc cl) (hi : PI X target iter wi)
  (hg : ∀ s H fp, PG (blkE X E (ts ++ cs) sc cl s H fp) target g) (ht : ∀ s H fp, PTs (blkE X E (ts ++ cs) sc cl s H fp) ifs tt) (he : ∀ s H fp, PE (blkE X E (ts ++ cs) sc cl s H fp) elt te) (hc : X.calm = true := by rfl) (hs : ∀ x, foldedSetIterable iter X.env x = pure x := by intro _; rfl) :
  PE X (.ListComp elt [⟨target, iter, ifs, 0⟩] sc pos) (tCompT ts.length caps wi g tt te) := by
 intro pins s σ H Q I h
 rw [eval_ListComp]
 refine wpAny_comprehension_free (use := none) rfl hs B.clos B.kind B.loc (thn (hi pins s σ H _ I h) fun v s1 h1 => thn h1 fun itv s2 h2 => ?_)
 obtain ⟨it, fp, tn, J, H2, e, I2, T, st2, f2, hq⟩ := h2
 subst e
 refine thn (blk_runX (E := E) b.toBody B hc hg ht he I2 T st2 f2 hq) fun acc s3 h3 => thn h3 fun cenv s4 h4 => codeAny_mono h4 fun r s' hp => ?_
 rcases hp with hp | ⟨e, rfl, hp⟩
 ·obtain ⟨rfl, a, H', rfl, I', fC, ⟨m, hm⟩, q⟩ := hp
  exact ⟨m, hm, fun h' sb => ⟨.ref a, H', I'.turned (t' := s'.toks) (fun b o hb e => sb.extBut b o hb e) fC.1 fC.2.1 fC.2.2.2.1 fC.2.2.2.2.1 fC.2.2.2.2.2, rfl, q⟩⟩
 ·obtain ⟨ea, Cc, a0, B0, H', rfl, I', fC, ⟨m, hm⟩, fa, cv, hB, q⟩ := hp
  refine ⟨m, hm, fun h' sb cenv' _ => ?_⟩
  have I4 : Inv X pins σ H' { s' with heap := h' } := I'.turned (t' := s'.toks) (fun b o hb e => sb.extBut b o hb e) fC.1 fC.2.1 fC.2.2.2.1 fC.2.2.2.2.1 fC.2.2.2.2.2
  have nst : cenv.locals ∉ X.stack.filterMap (·.frame) := fun z => by
   rcases List.mem_cons.mp (I'.stkSub _ z) with y | y
   ·exact fC.2.1 y
   ·exact fC.2.2.1 y
  have fa2 := fa.but hm sb hB nst
  have k0 := fa2.1
  refine passOn_any (s := { s' with heap := h' }) fa2 fun h6 fa6 u6 => ?_
  exact b.passAny (fly (t' := s'.toks) I4 b.st b.fr cv k0 fa6.1 u6) fa6 cv q
end
section
variable {X : Cx} {E : XK} {j k : Nat} {x : Str} {ps : List Str} {sp : Sp} {p pos : Pos} {e elt tg it : Expr} {es : List Expr} {t : TA} {ts cs : List Str} {caps : List Nat} {sc : Scope} {cl : List (Str × Addr)} {wi : TI} {g : TG} {te : TE}
theorem q_fnP (hx : Passes (CX1 X.prog X.w) X E) (F : Fn X.prog X.w X.K X.mg X.base (CX1 X.prog X.w) j x ps sp) (hr : Room k X.A) (hj : j ≤ k) (hg : Gl X x) (ha : QA X (e :: es) t) (hp : (e :: es).all plainE = true := by rfl) (hdb : (x == ("__debug__" : Str)) = false := by decide) :
  QE X (.Call (.Name x p) (e :: es) [] pos) (tCall sp [] E t) := by
 obtain ⟨f, fd, G, bd, kp, m⟩ := F.ex
 exact ⟨pe_call G (hr.mono hj) hg m kp bd .nil hx ha.h hdb (se_cons (hd_plain hp).1) (se_any (hd_plain hp).2)⟩
theorem q_compX (b : Goes X E) (B : Blk X ts caps cs sc cl) (hi : QI X tg it wi) (hg : ∀ s H fp, QG (blkE X E (ts ++ cs) sc cl s H fp) tg g) (he : ∀ s H fp, QE (blkE X E (ts ++ cs) sc cl s H fp) elt te) (hc : X.calm = true := by rfl) (hs : ∀ x, foldedSetIterable it X.env x = pure x := by intro _; rfl) :
  QE X (.ListComp elt [⟨tg, it, [], 0⟩] sc pos) (tComp ts.length caps wi g te) := ⟨pe_compX b B hi.h (fun s H fp => (hg s H fp).h) (fun _ _ _ => pts_nil) (fun s H fp => (he s H fp).h) hc hs⟩
end
end My
namespace My
open PySem PySem.Spec L2
open PyProof.Rows hiding St
def tHand0 (K : PySem.W.Frag) (D : Addr) (th : Addr → TS) (En : Ends) (σ : St) : XK := fun c _ H' => ∃ C, c = .ref C ∧ PySem.W.exmOne K (.ref C) (.ref D) = some true ∧ ∀ ea, th ea { nx := En.nx, rt := En.rt, bk := En.bk, ct := En.ct } σ H'
def tTry0 (K : PySem.W.Frag) (tb : TSX) (D : Addr) (th : Addr → TS) : TS := fun En σ H => tb En (tHand0 K D th En) σ H
section
variable {X : Cx} {body : List Stmt} {x : Str} {np hpos pos : Pos} {b₀ : Stmt} {suite : List Stmt} {tb : TSX} {th : Addr → TS} {D : Addr}
end
def tMakeX (C : Addr) (sp : Sp) (t : TA) : TEX := fun σ H Q EX => t σ H fun vs H1 => ∀ x dx, H1 x = none → H1 dx = none → dx ≠ x → sp (.ref x :: vs) (upd (upd H1 dx (.own x)) x (.ins C dx [])) (fun v H2 => v = .non ∧ Q (.ref x) H2) EX
section
variable {X : Cx} {j k : Nat} {C : Addr} {x : Str} {ps : List Str} {sp : Sp} {p pos : Pos} {e : Expr} {es : List Expr} {t : TA}
end
section
variable {X : Cx} {e : Expr} {te : TE} {p1 p2 p3 pos : Pos} {c1 c2 : Str} {k1 k2 : Nat}
def tFs (te : TE) : TE := fun σ H Q => te σ H fun x H1 => ∃ i : Int, x = .int i ∧ i.natAbs < 2 ^ 30 ∧ ∀ z, Q (.str z) H1
theorem q_fstr (he : QE X e te) (h1 : c1.length ≤ 1000 := by decide +kernel) (h2 : c2.length ≤ 1000 := by decide +kernel) : QE X (.JoinedStr [.Constant (.str c1) k1 p1, .FormattedValue e (-1) none p2, .Constant (.str c2) k2 p3] pos) (tFs te) := ⟨by
 intro pins s σ H Q I h
 have big : ∀ n : Nat, n ≤ 5000 → n ≤ sizeLine := fun n h => Nat.le_trans h (by decide)
 have l1 : (Str.empty ++ c1).length ≤ 1000 := by
  rw [strLen_append]
  have : Str.empty.length = 0 := rfl
  omega
 refine PyProof.Rows.JoinedStr_many (joinParts_cons ?_)
 refine Calls.Constant_str ⟨big _ (Nat.le_trans l1 (by decide)), joinParts_cons (PyProof.Rows.FormattedValue_plain (thn (he.h pins _ σ H _ (I.tok _) h) fun v s1 ⟨x, H1, I1, r1, i, e1, hi, q1⟩ => ?_))⟩
 subst e1
 obtain ⟨t, rfl⟩ := r1
 have hd : i.natAbs.log2 < 30 := log2_lt_of hi (by decide)
 have l2 := int_text_length_le (k := 30) (by decide) hd
 have l3 : ((Str.empty ++ c1) ++ (Str.ofString (toString i))).length ≤ 2000 := by
  rw [strLen_append, PySem.ofString_length]
  omega
 refine PyProof.Rows.formatField_int_small (Nat.lt_trans hd (by decide)) ⟨big _ (Nat.le_trans l3 (by decide)), joinParts_cons ?_⟩
 have l4 : (((Str.empty ++ c1) ++ (Str.ofString (toString i))) ++ c2).length ≤ 3000 := by
  rw [strLen_append]
  omega
 refine Calls.Constant_str ⟨big _ (Nat.le_trans l4 (by decide)), joinParts_nil ⟨.str _, H1, (((I1.tok _).tok _).tok _), ⟨_, rfl⟩, q1 _⟩ (big _ (Nat.le_trans l4 (by decide)))⟩⟩
end
section
variable {X : Cx} {e : Expr} {t : TA} {p pos : Pos}
end
section
variable {X : Cx} {pins : List (Addr × Obj)} {σ : St} {H : Hp} {s : Shared}
end
section
variable {X : Cx} {a b : Expr} {ta tb : TE} {pos : Pos} {k : Nat}
end
end My
namespace My
open PySem PySem.Spec L2
open PyProof.Rows hiding St
section
variable {X : Cx} {o e : Expr} {es : List Expr} {to : TE} {t : TA} {name : Str} {apos cpos : Pos} {id : String} {r : V → List V → Hp → VK → Prop}
def tLm0 (r : V → List V → Hp → VK → Prop) (to : TE) : TE := fun σ H Q => to σ H fun x H1 => r x [] H1 Q
def tLm (r : V → List V → Hp → VK → Prop) (to : TE) (t : TA) : TE := fun σ H Q => to σ H fun x H1 => ∃ l zs, x = .ref l ∧ H1 l = some (.lst zs) ∧ t σ H1 fun vs H2 => r x vs H2 Q
end
end My
namespace My
open PySem PySem.Spec L2
open PyProof.Rows hiding St
section
variable {X : Cx} {pins : List (Addr × Obj)} {σ : St} {H : Hp} {s : Shared} {a : Addr} {kvs : List (Key × V)}
end
section
variable {X : Cx} {tg l o i e value : Expr} {tl td ty tv : TE} {t : TA} {pos pos' p : Pos}
def tDG (td ty : TE) : TE := fun σ H Q => td σ H fun x H1 => ty σ H1 fun y H2 => ∃ a kvs k v, x = .ref a ∧ Rd H2 a (.dK kvs) ∧ y = kV k ∧ valV kvs k = some v ∧ Q v H2
def sDP (td ty tv : TE) : TS := fun D σ H => tv σ H fun v H1 => td σ H1 fun x H2 => ty σ H2 fun y H3 => ∃ a kvs k, x = .ref a ∧ H3 a = some (.dK kvs) ∧ y = kV k ∧ kvs.length < 1000 ∧ D.nx σ (upd H3 a (.dK (putK kvs k v)))
def tDI (neg : Bool) (ty td : TE) : TE := fun σ H Q => ty σ H fun y H1 => td σ H1 fun x H2 => ∃ a kvs k, x = .ref a ∧ Rd H2 a (.dK kvs) ∧ y = kV k ∧ Q (.bl (if neg = true then !(valV kvs k).isSome else (valV kvs k).isSome)) H2
theorem q_dnew : QE X (.Dict [] [] pos) (fun _ H Q => ∀ p H2, H p = none → Same H H2 → H2 p = some (.dK []) → Q (.ref p) H2) := ⟨fun pins s σ H Q I h => pe_dnewK pins s σ H Q I fun p hp => h p _ hp (same_new hp _) upd_same⟩
end
theorem blk_list {K : PySem.W.Frag} {a : Addr} {xs : List V} {nt : Nat} {cp : St} {g : TG} {tt : TT} {te : TE} {H1 : Hp} {Q : VK} (Pv : Addr → Nat → List V → Hp → Prop) (h0 : ∀ acc H2, H1 acc = none → Same H1 H2 → H2 acc = some (.lst []) → Pv acc 0 [] H2)
  (hl : ∀ acc i ys H, H1 acc = none → Pv acc i ys H → H acc = some (.lst ys) ∧ ys.length < 1000000 ∧ SqL K H a xs)
  (hs : ∀ acc i x ys H os, H1 acc = none → xs[i]? = some x → Pv acc i ys H → os.length = nt → g x (os ++ cp) H fun τ H3 => ∃ os', os'.length = nt ∧ τ = os' ++ cp ∧ tt τ H3 fun b H4 => if b = true then te τ H4 fun v H5 => H5 acc = some (.lst ys) ∧ Pv acc (i + 1) (ys ++ [v]) (upd H5 acc (.lst (ys ++ [v]))) else Pv acc (i + 1) ys H4)
  (hd : ∀ acc ys H, H1 acc = none → Pv acc xs.length ys H → Q (.ref acc) H) : tBlkT nt cp (Itl K a) g tt te H1 Q := by
 intro acc H2 hn sm e
 refine ⟨fun i m ys H => m = xs.length - i ∧ i ≤ xs.length ∧ Pv acc i ys H, ⟨xs.length, by simp, Nat.zero_le _, h0 acc H2 hn sm e⟩, ?_⟩
 rintro i m ys H ⟨rfl, hi, p⟩
 obtain ⟨q1, q2, q3⟩ := hl acc i ys H hn p
 refine ⟨q1, ?_⟩
 by_cases hlt : i < xs.length
 ·refine .inr ⟨⟨xs, xs[i], q3, by simp [hlt]⟩, q2, Pv acc (i + 1), fun ys' H' p' => ⟨xs.length - (i + 1), by omega, rfl, hlt, p'⟩, fun os x H' ol y => ?_⟩
  obtain ⟨rfl, hy⟩ := y
  exact hs acc i x ys _ os hn (hy xs q3) p ol
 ·have e : i = xs.length := by omega
  subst e
  exact .inl ⟨⟨xs, q3, Nat.le_refl _⟩, hd _ _ _ hn p⟩
end My
namespace My
open PySem PySem.Spec L2
open PyProof.Rows hiding St
def Itz (K : PySem.W.Frag) (a b : Addr) : It :=
  ⟨fun i H => ∃ xs ys x y, SqL K H a xs ∧ SqL K H b ys ∧ xs[i]? = some x ∧ ys[i]? = some y, fun i H x H' => ∃ p u v, x = .ref p ∧ H p = none ∧ Same H H' ∧ H' p = some (.tup [u, v]) ∧ (∀ xs, SqL K H a xs → xs[i]? = some u) ∧ ∀ ys, SqL K H b ys → ys[i]? = some v,
   fun i H => ∃ xs ys, SqL K H a xs ∧ SqL K H b ys ∧ (xs.length ≤ i ∨ ys.length ≤ i)⟩
theorem turn_zip {P : Program} {w : World} {K : PySem.W.Frag} {es : List Expr} {x1} {pos : Pos} (a b z TI TO i1 i2 : Addr) (D : ZipApart z TI TO i1 i2 a b) :
  Turn P w K (.Tuple es x1 pos) (Itz K a b) [z, TI, TO, i1, i2] z (fun i h => IsZip h z TI TO .none ∧ IsPair h TI (.ref i1) (.ref i2) ∧ (∃ u v, IsPair h TO u v) ∧ h.IsListIter i1 a i ∧ h.IsListIter i2 b i) where
 mem := by simp
 obj := fun i h st c hc => by
  obtain ⟨hz, hTI, ⟨u, v, hTO⟩, ⟨o1, e1, c1, d1⟩, o2, e2, c2, d2⟩ := st
  simp only [List.mem_cons, List.not_mem_nil, or_false] at hc
  rcases hc with rfl | rfl | rfl | rfl | rfl
  ·exact ⟨_, hz, fun v z => by cases z⟩
  ·exact ⟨_, hTI, fun v z => by cases z⟩
  ·exact ⟨_, hTO, fun v z => by cases z⟩
  ·exact ⟨_, e1, fun v z => by rw [d1] at z; cases z⟩
  ·exact ⟨_, e2, fun v z => by rw [d2] at z; cases z⟩
 keep := fun i h h' st k => by
  obtain ⟨hz, hTI, ⟨u, v, hTO⟩, h1, h2⟩ := st
  exact ⟨k z (by simp) _ hz, k TI (by simp) _ hTI, ⟨u, v, k TO (by simp) _ hTO⟩, h1.at fun o x => k i1 (by simp) o x, h2.at fun o x => k i2 (by simp) o x⟩
 item := by
  intro X hP hw hK hc i pins s σ H E I hf st hg
  subst hP hw hK
  obtain ⟨hz, hTI, ⟨u0, v0, hTO⟩, h1, h2⟩ := st
  obtain ⟨xs, ys, x, y, hqa, hqb, hx, hy⟩ := hg
  obtain ⟨its, rv, p, _⟩ := I.list hqa
  obtain ⟨its2, rv2, p2, _⟩ := I.list hqb
  obtain ⟨u, hu, ru⟩ := rv.get hx
  obtain ⟨v, hv, rv'⟩ := rv2.get hy
  have hn : H s.heap.objs.size = none := I.hok.fresh (Nat.le_refl _)
  have lt : ∀ c ∈ [z, TI, TO, i1, i2], c < s.heap.objs.size := fun c hc => by
   obtain ⟨o1, e1, _⟩ := h1
   obtain ⟨o2, e2, _⟩ := h2
   simp only [List.mem_cons, List.not_mem_nil, or_false] at hc
   rcases hc with rfl | rfl | rfl | rfl | rfl
   ·exact Heap.lt_size hz
   ·exact Heap.lt_size hTI
   ·exact Heap.lt_size hTO
   ·exact Heap.lt_size e1
   ·exact Heap.lt_size e2
  refine wpAny_pyNext_zip_item D hz hTI hTO h1 h2 p.isList p2.isList (x := u) (y := v) (by simpa using hu) (by simpa using hv) fun h' a1 a2 a3 a4 a5 a6 kk => ?_
  refine ⟨_, rfl, wpAny_letOwnedTupleGo_zip (s := { s with heap := h' }) a1 fun h2' hz2 sb => ?_⟩
  have sb2 : ∀ c, c ≠ z → h2'.get? c = h'.get? c := sb.2
  have nz : s.heap.objs.size ≠ z := Nat.ne_of_gt (lt z (by simp))
  have kt : h2'.get? s.heap.objs.size = some { cls := .type "tuple", data := .seq #[u, v] } := (sb2 _ nz).trans a5
  have I1 : Inv X pins σ (upd H s.heap.objs.size (.tup [x, y])) { s with heap := h2', toks := s.toks } := by
   refine turned_laid (ch := [z, TI, TO, i1, i2]) I (fun c o hb q => ?_) hf ?_
   ·simp only [List.mem_cons, List.not_mem_nil, or_false, not_or] at hb
    rw [sb2 c hb.1]
    exact kk c o hb.1 hb.2.2.1 hb.2.2.2.1 hb.2.2.2.2 q
   ·exact ⟨by show 2 ≤ sizeLine; decide, [u, v], .cons ru (.cons rv' .nil), ⟨_, kt, rfl, _, rfl⟩⟩
  refine ⟨.ref s.heap.objs.size, _, I1, rfl, ⟨_, x, y, rfl, hn, same_new hn _, upd_same, fun zs hz => by rw [I.list_inj hz hqa]; exact hx, fun zs hz => by rw [I.list_inj hz hqb]; exact hy⟩, ⟨hz2, (sb2 _ D.TIz).trans (kk _ _ D.TIz D.TITO D.TIi1 D.TIi2 hTI), ⟨u, v, (sb2 _ D.TOz).trans a2⟩, ?_, ?_⟩, fun c hc => ?_⟩
  ·obtain ⟨o, q, r⟩ := a3
   exact ⟨o, (sb2 _ D.i1z).trans q, r⟩
  ·obtain ⟨o, q, r⟩ := a4
   exact ⟨o, (sb2 _ D.i2z).trans q, r⟩
  ·rw [upd_ne (Nat.ne_of_lt (lt c hc))]
   exact (hf c hc).1
 done := by
  intro X hP hw hK hc i pins s σ H E I hf st hg
  subst hP hw hK
  obtain ⟨hz, hTI, ⟨u0, v0, hTO⟩, h1, h2⟩ := st
  obtain ⟨xs, ys, hqa, hqb, he⟩ := hg
  obtain ⟨its, rv, p, _⟩ := I.list hqa
  obtain ⟨its2, rv2, p2, _⟩ := I.list hqb
  have l1 := rv.length
  have l2 := rv2.length
  refine wpAny_pyNext_zip_end (I.ok.hd hc) D hz hTI hTO h1 h2 p.isList p2.isList (he.imp (fun z => by simp; omega) fun z => by simp; omega) fun h' eb => ⟨rfl, turned2 (t' := s.toks) (ch := [z, TI, TO, i1, i2]) I (fun c o hb q => ?_) hf⟩
  simp only [List.mem_cons, List.not_mem_nil, or_false, not_or] at hb
  exact eb c o hb.1 hb.2.2.1 hb.2.2.2.1 hb.2.2.2.2 q
 self := fun _ _ _ _ _ st h => wpAny_pyIter_zip st.1 h
theorem zip_apart (n a b : Nat) (ha : a < n) (hb : b < n) : ZipApart (n + 4) (n + 2) (n + 3) n (n + 1) a b := by
 constructor <;> (intro z; have z' := Nat.le_of_eq z; have z'' := Nat.le_of_eq z.symm; omega)
def iZip (K : PySem.W.Frag) (ta : TA) : TI := fun σ H R => ta σ H fun vs H1 => ∃ a b, vs = [.ref a, .ref b] ∧ (∃ xs, SqL K H1 a xs) ∧ (∃ ys, SqL K H1 b ys) ∧ R (Itz K a b) H1
theorem boot_zip : bootBuiltins "zip" = some (.type "zip") := by decide +kernel
section
variable {X : Cx} {l m : Expr} {ta : TA} {p pos pos' : Pos} {es : List Expr}
theorem pi_zip {x1} (hg : Gl X "zip") (hm : X.mg "zip" = none) (ha : PA X [l, m] ta) (hs : starEach [l, m] X.env = [(false, eval l X.env), (false, eval m X.env)] := by rfl) (hs2 : starEach [m] X.env = [(false, eval m X.env)] := by rfl) : PI X (.Tuple es x1 pos') (.Call (.Name "zip" p) [l, m] [] pos) (iZip X.K ta) := by
 intro pins s σ H R I h
 refine Call_ (ld_blt I hg hm boot_zip (PyProof.Rows.callWith_type1 (thn (ha pos pins s σ H _ I h) fun us s1 ⟨vs, H1, I1, r1, q1⟩ => ?_) (by rw [hs, hs2]) (by rw [hs2]; rfl)))
 obtain ⟨a, b, e, ⟨xs, hqa⟩, ⟨ys, hqb⟩, q⟩ := q1
 subst e
 obtain ⟨u, v, rfl, ru, rv⟩ := vals2 r1
 cases ru
 cases rv
 obtain ⟨its, _, pl, _⟩ := I1.list hqa
 obtain ⟨its2, _, pl2, _⟩ := I1.list hqb
 have la : a < s1.heap.objs.size := by obtain ⟨o, n, e, _⟩ := pl; exact Heap.lt_size e
 have lb : b < s1.heap.objs.size := by obtain ⟨o, n, e, _⟩ := pl2; exact Heap.lt_size e
 refine call_zip_2 pl.isList pl2.isList fun h' hz hTI hTO g1 g2 hsz kk => ?_
 have I2 : Inv X pins σ H1 { s1 with heap := h' } := I1.kept (t' := s1.toks) kk
 have D := zip_apart _ _ _ la lb
 refine wpAny_pyIter_zip (s := { s1 with heap := h' }) hz ⟨_, [s1.heap.objs.size + 4, s1.heap.objs.size + 2, s1.heap.objs.size + 3, s1.heap.objs.size, s1.heap.objs.size + 1], _, _, H1, rfl, I2, turn_zip a b _ _ _ _ _ D, ⟨hz, hTI, ⟨_, _, hTO⟩, g1, g2⟩, fun c hc => ?_, q⟩
 have hb' : s1.heap.objs.size ≤ c := by
  simp only [List.mem_cons, List.not_mem_nil, or_false] at hc
  rcases hc with rfl | rfl | rfl | rfl | rfl
  ·exact Nat.le_add_right _ _
  ·exact Nat.le_add_right _ _
  ·exact Nat.le_add_right _ _
  ·exact Nat.le_refl _
  ·exact Nat.le_add_right _ _
 exact I1.fpOk hb' (I1.hok.fresh hb')
theorem i_zip {x1} (hg : Gl X "zip") (hm : X.mg "zip" = none) (ha : QA X [l, m] ta) (hp : plainE l = true := by rfl) (hq : plainE m = true := by rfl) : QI X (.Tuple es x1 pos') (.Call (.Name "zip" p) [l, m] [] pos) (iZip X.K ta) :=
 ⟨pi_zip hg hm ha.h (by rw [se_cons hp, se_cons hq]; rfl) (se_cons hq)⟩
end
theorem blk_zip {K : PySem.W.Frag} {a b : Addr} {xs zs : List V} {nt : Nat} {cp : St} {g : TG} {tt : TT} {te : TE} {H1 : Hp} {Q : VK} (hxy : xs.length = zs.length) (Pv : Addr → Nat → List V → Hp → Prop) (h0 : ∀ acc H2, H1 acc = none → Same H1 H2 → H2 acc = some (.lst []) → Pv acc 0 [] H2)
  (hl : ∀ acc i ys H, H1 acc = none → Pv acc i ys H → H acc = some (.lst ys) ∧ ys.length < 1000000 ∧ SqL K H a xs ∧ SqL K H b zs)
  (hs : ∀ acc i x z ys H os p H', H1 acc = none → xs[i]? = some x → zs[i]? = some z → Pv acc i ys H → os.length = nt → H p = none → Same H H' → H' p = some (.tup [x, z]) → g (.ref p) (os ++ cp) H' fun τ H3 => ∃ os', os'.length = nt ∧ τ = os' ++ cp ∧ tt τ H3 fun b H4 => if b = true then te τ H4 fun v H5 => H5 acc = some (.lst ys) ∧ Pv acc (i + 1) (ys ++ [v]) (upd H5 acc (.lst (ys ++ [v]))) else Pv acc (i + 1) ys H4)
  (hd : ∀ acc ys H, H1 acc = none → Pv acc xs.length ys H → Q (.ref acc) H) : tBlkT nt cp (Itz K a b) g tt te H1 Q := by
 intro acc H2 hn sm e
 refine ⟨fun i m ys H => m = xs.length - i ∧ i ≤ xs.length ∧ Pv acc i ys H, ⟨xs.length, by simp, Nat.zero_le _, h0 acc H2 hn sm e⟩, ?_⟩
 rintro i m ys H ⟨rfl, hi, p⟩
 obtain ⟨q1, q2, q3, q4⟩ := hl acc i ys H hn p
 refine ⟨q1, ?_⟩
 by_cases hlt : i < xs.length
 ·have hlt2 : i < zs.length := by omega
  refine .inr ⟨⟨xs, zs, xs[i], zs[i], q3, q4, by simp [hlt], by simp [hlt2]⟩, q2, Pv acc (i + 1), fun ys' H' p' => ⟨xs.length - (i + 1), by omega, rfl, hlt, p'⟩, fun os x H' ol y => ?_⟩
  obtain ⟨c, u, v, rfl, hn', sm', e', hu, hv⟩ := y
  exact hs acc i u v ys _ os c H' hn (hu xs q3) (hv zs q4) p ol hn' sm' e'
 ·have e : i = xs.length := by omega
  subst e
  exact .inl ⟨⟨xs, zs, q3, q4, .inl (Nat.le_refl _)⟩, hd _ _ _ hn p⟩
end My
namespace My
open PySem PySem.Spec
open PyProof.Rows hiding St
def Rise (l : List Nat) : Prop := l.Pairwise (· < ·)
def TOk (b : Bool) (t : SetTable) : Prop := Rise t.place.toList ∧ t.dummies = #[] ∧ t.led = b
end My
namespace My
open PySem PySem.Spec
open PyProof.Rows hiding St
section
variable {prog : Program} {w : World} {A : Around} {E : Value → Shared → Prop} {s : Shared}
def byT (w : World) : Bool := w.params.followText "set-order"
def keyI (e : Int × Value) : Int := match e.2 with
 | .int k _ => k
 | _ => 0
def AllI (prog : Program) (w : World) (es : List (Int × Value)) : Prop := ∀ e ∈ es, ∃ (k : Int) (t : Tok), e.2 = .int k t ∧ e.1 = (intKind prog w).hash k
def SetI (prog : Program) (w : World) (h : Heap) (a : Addr) (S : Int → Prop) (n : Nat) : Prop :=
 ∃ o es ep t, h.get? a = some o ∧ o.ExactSet ∧ o.data = .set es ep t ∧ TOk (!byT w) t ∧ t.fits es.size = true ∧ AllI prog w es.toList ∧ (es.toList.map keyI).Nodup ∧ (∀ k, k ∈ es.toList.map keyI ↔ S k) ∧ es.size ≤ n
theorem SetI.keep {h h' : Heap} {a : Addr} {S : Int → Prop} {n : Nat} (x : SetI prog w h a S n) (hk : ∀ o, h.get? a = some o → h'.get? a = some o) : SetI prog w h' a S n :=
 let ⟨o, es, ep, t, ho, r⟩ := x; ⟨o, es, ep, t, hk o ho, r⟩
end
end My
namespace My
open PySem PySem.Spec
open PyProof.Rows hiding St
section
variable {prog : Program} {w : World} {A : Around} {R : Result → Shared → Prop} {I : Addr} {fp wr : List Addr} {G : Array GenState → Array GenState → Prop} {P : Nat → Value → Prop} {St : Nat → Shared → Prop}
end
section
variable {prog : Program} {w : World} {A : Around} {E : Value → Shared → Prop} {s : Shared}
end
end My
namespace My
open PySem PySem.Spec
open PyProof.Rows hiding St
section
variable {prog : Program} {w : World} {A : Around} {E : Value → Shared → Prop} {s : Shared}
end
end My
namespace My
open PySem PySem.Spec
open PyProof.Rows hiding St
section
variable {prog : Program} {w : World} {A : Around} {E : Value → Shared → Prop} {s : Shared}
theorem SetI.type {a : Addr} {S : Int → Prop} {n : Nat} (x : SetI prog w s.heap a S n) : s.TypeIs (.ref a) "set" := let ⟨o, _, _, _, ho, hex, _⟩ := x; ⟨o, ho, hex.1⟩
end
end My
namespace My
open PySem PySem.Spec L2
open PyProof.Rows hiding St
theorem vals_ints : ∀ {ns : List Int} {us : List Value}, Vals (ns.map V.int) us → IntsAre us ns
 | [], us, h => by cases h; exact .nil
 | n :: ns, us, h => by
  cases h with
  | cons h1 h2 =>
   obtain ⟨t, rfl⟩ := h1
   exact .cons n t (vals_ints h2)
section
variable {X : Cx} {e : Expr} {t : TA} {p p' pos pos' : Pos}
theorem SetI.few {prog : Program} {w : World} {h : Heap} {a : Addr} {S : Int → Prop} {n : Nat} (x : SetI prog w h a S n) (hb : ∀ k, S k → 0 ≤ k ∧ k < 60) : SetI prog w h a S 60 := by
 obtain ⟨o, es, ep, t, ho, hex, hd, hT, hf, hA, hN, hM, hz⟩ := x
 refine ⟨o, es, ep, t, ho, hex, hd, hT, hf, hA, hN, hM, ?_⟩
 have hs : es.toList.map keyI ⊆ (List.range 60).map fun k : Nat => (k : Int) := fun k hk => by
  obtain ⟨h1, h2⟩ := hb k ((hM k).mp hk)
  exact List.mem_map.mpr ⟨k.toNat, List.mem_range.mpr (by omega), by omega⟩
 have := List.Nodup.length_le_of_subset hN hs
 simpa using this
def rSortSet : List V → Hp → VK → Prop := fun xs H Q => ∃ (a : Addr) (ns : List Int), xs = [.ref a] ∧ H a = some (.lst (ns.map V.int)) ∧ ns.length < 4000 ∧ (∀ k ∈ ns, 0 ≤ k ∧ k < 60) ∧
 ∀ l H2 (ks : List Int), H l = none → Same H H2 → H2 l = some (.lst (ks.map V.int)) → ks.Pairwise (· < ·) → (∀ k, k ∈ ks ↔ k ∈ ns) → Q (.ref l) H2
end
end My
namespace My
open PySem PySem.Spec L2
open PyProof.Rows hiding St
section
variable {X : Cx} {a b o e : Expr} {es : List Expr} {ta tb to te : TE} {t : TA} {name : Str} {apos cpos pos p p2 : Pos} {id : String} {r : V → List V → Hp → VK → Prop}
theorem q_ixX (ha : QE X a ta) (hb : QE X b tb) (hs : PlainIx b := by intro _ _; rfl) : QE X (.Subscript a b pos) (tOp rIxS ta tb) := ⟨pe_ix ix_str ha.h hb.h hs⟩
def rSlX : V → Option Int → Option Int → Hp → VK → Prop := fun x lo hi H Q => ∃ z, x = .str z ∧ z.length ≤ 1000 ∧ Q (.str (Txt.slice z lo hi)) H
def partOf : Value → Option (Int × Tok)
 | .int i t => some (i, t)
 | _ => none
theorem part_is {v : Value} {o : Option Int} (h : IsPart v o) : partValue (partOf v) = v ∧ (partOf v).map (·.1) = o := by
 cases h with
 | none => exact ⟨rfl, rfl⟩
 | int i t => exact ⟨rfl, rfl⟩
theorem sl_str : SlR X rSlX := by
 intro pins s σ H x v vl vu lo hi sl Q I rx hs pl pu h
 obtain ⟨z, rfl, hz, q⟩ := h
 obtain ⟨t, rfl⟩ := rx
 obtain ⟨e1, e2⟩ := part_is pl
 obtain ⟨e3, e4⟩ := part_is pu
 obtain ⟨os, g1, g2, g3⟩ := hs
 have hz2 : z.length ≤ sizeLine := Nat.le_trans hz (by decide)
 refine ⟨"str", _, F.slot_str_getitem.lookup, typeIs_str _ _ _, ?_⟩
 refine wpAny_getItem_str_slice (l := partOf vl) (u := partOf vu) (st := none) ⟨os, g1, g2, by rw [e1, e3]; exact g3⟩ rfl ?_
 subst e2
 subst e4
 exact post_val_or_str ⟨Nat.le_trans (Txt.slice_le z _ _) hz2, fun t' k => ⟨.str _, H, I.tok _, ⟨_, rfl⟩, q⟩⟩
theorem q_cutX (ha : QE X a ta) (hb : QE X b tb) : QE X (.Subscript a (.Slice none (some b) none p2) pos) (tSl rSlX ta tNoPart (tPart tb)) := ⟨pe_slice sl_str ha.h po_none (po_some hb.h)⟩
def tXm (r : V → List V → Hp → VK → Prop) (to : TE) (t : TA) : TE := fun σ H Q => to σ H fun x H1 => ∃ z, x = .str z ∧ t σ H1 fun vs H2 => r x vs H2 Q
theorem pe_xm (slot : Slot "str" name id) (hty : typeOf (.builtin id) = pure (.type "method_descriptor")) (hm : MtM X id r) (ho : PE X o to) (ha : PA X (e :: es) t)
  (hbase : attributeBase o name X.env (eval o X.env) = eval o X.env := by rfl)
  (hfew : ((backTo cpos (starEach (e :: es) X.env)).all (fun x => !x.1) && (backToKw cpos (keywordEach [] X.env)).all (fun x => x.1.isSome)
   && decide ((e :: es).length + ([] : List Keyword).length + (if ([] : List Keyword).isEmpty then 0 else 1) < 30)) = true := by rfl)
  (hline : (apos.endLine == cpos.line) = true := by rfl) (hs : starEach (e :: es) X.env = (false, eval e X.env) :: starEach es X.env := by rfl) (hplain : (backTo cpos (starEach es X.env)).any (·.1) = false := by rfl) :
  PE X (.Call (.Attribute o name apos) (e :: es) [] cpos) (tXm r to t) := by
 intro pins s σ H Q I h
 refine wpAny_Call_method_late hbase hfew hline rfl (thn (ho pins s σ H _ I h) fun v s1 ⟨x, H1, I1, r1, z, e1, q1⟩ => ?_)
 subst e1
 obtain ⟨tk, rfl⟩ := r1
 refine ⟨"str", id, PySem.F.plainAttrs_str, slot, hty, typeIs_str _ _ _, (fun _ e => nomatch e), ?_⟩
 have hA := ha cpos pins s1 σ H1 _ I1 q1
 rw [hs] at hA ⊢
 refine Calls.callWith_builtin (by show (false || (backTo cpos (starEach es X.env)).any (·.1)) = false; rw [hplain] <;> rfl) (Calls.evalArgs_plain ?_)
 exact thn hA fun us s2 ⟨vs, H2, I2, r2, q2⟩ => hm pins s2 σ H2 (.str z) vs _ us Q I2 ⟨tk, rfl⟩ r2 q2
def rFind : V → List V → Hp → VK → Prop := fun x vs H Q => ∃ z y, x = .str z ∧ vs = [.str y] ∧ Q (.int (Txt.find z y)) H
theorem vals_strs : ∀ {ss : List Str} {us : List Value}, Vals (ss.map V.str) us → StrsAre us ss
 | [], us, h => by cases h; exact .nil
 | x :: ss, us, h => by
  cases h with
  | cons h1 h2 =>
   obtain ⟨t, rfl⟩ := h1
   exact .cons x t (vals_strs h2)
def rJoin : V → List V → Hp → VK → Prop := fun x vs H Q => ∃ z a ss, x = .str z ∧ vs = [.ref a] ∧ H a = some (.lst (List.map V.str ss)) ∧ z.length ≤ 16 ∧ (ss.map (·.length)).sum + ss.length ≤ 1048576 ∧ Q (.str (Txt.join z ss)) H
theorem mt_join : MtM X "str.join" rJoin := by
 intro pins s σ H x vs v us Q I rx rv h
 obtain ⟨z, a, ss, rfl, rfl, e, h1, h2, q⟩ := h
 obtain ⟨t, rfl⟩ := rx
 obtain ⟨u, rfl, ru⟩ := vals1 rv
 cases ru
 obtain ⟨_, its, n, hv, g⟩ := I.hok a _ e
 exact join_listW ⟨_, g, rfl, n, rfl⟩ (by simpa using vals_strs hv) h1 h2 fun t' k => ⟨.str _, H, I.tok _, ⟨_, rfl⟩, q⟩
theorem q_join (ho : QE X o to) (ha : QA X [e] t) (hbase : attributeBase o "join" X.env (eval o X.env) = eval o X.env := by rfl) (hline : (apos.endLine == cpos.line) = true := by rfl) (hp : plainE e = true := by rfl) :
  QE X (.Call (.Attribute o "join" apos) [e] [] cpos) (tXm rJoin to t) := ⟨pe_xm F.slot_str_join F.type_str_join mt_join ho.h ha.h hbase (by rw [se_cons hp]; rfl) hline (se_cons hp) rfl⟩
theorem join_len (z : Str) (ss : List Str) : (Txt.join z ss).length ≤ (ss.map (·.length)).sum + ss.length * z.length := by
 show (Builtin.Str.glued z ss).length ≤ _
 rw [StrLaws.glued_eq_join]
 exact StrLaws.join_length_le z ss
end
end My
namespace My
open PySem PySem.Spec L2
open PyProof.Rows hiding St
def leS (a b : Str) : Prop := a.cps.toList ≤ b.cps.toList
section
variable {X : Cx} {e : Expr} {t : TA} {p pos : Pos}
def rSortStr : List V → Hp → VK → Prop := fun xs H Q => ∃ (a : Addr) (ss : List Str), xs = [.ref a] ∧ H a = some (.lst (ss.map V.str)) ∧ ss.length < 64 ∧ ∀ l H2 (ts : List Str), H l = none → Same H H2 → H2 l = some (.lst (ts.map V.str)) → ts.Pairwise leS → ts.Perm ss → Q (.ref l) H2
end
end My
namespace My
open PySem PySem.Spec L2
open PyProof.Rows hiding St
section
variable {prog : Program} {w : World} {A : Around} {E : Value → Shared → Prop} {s : Shared}
end
section
variable {X : Cx} {pins : List (Addr × Obj)} {σ : St} {H : Hp} {s : Shared} {a b : Expr} {ta tb : TE} {pos : Pos} {k : Nat}
inductive EqP (H : Hp) : V → V → Nat → Prop where
 | deep {x y : V} {n : Nat} (h : EqD H x y true n) : EqP H x y n
 | dct {a b : Addr} {ka kb : List (Key × V)} {n : Nat} (ha : Rd H a (.dK ka)) (hb : Rd H b (.dK kb)) (hl : ka.length = kb.length) (h : ∀ (j : Nat) x y, ka[j]? = some x → kb[j]? = some y → x.1 = y.1 ∧ EqD H x.2 y.2 true n) (hN : (ka.map (·.1)).Nodup) : EqP H (.ref a) (.ref b) (n + 2)
 | tup {a b : Addr} {xs ys : List V} {n : Nat} (ha : H a = some (.tup xs)) (hb : H b = some (.tup ys)) (hl : xs.length = ys.length) (h : ∀ (j : Nat) x y, xs[j]? = some x → ys[j]? = some y → EqP H x y n) : EqP H (.ref a) (.ref b) (n + 2)
def rEqP : R2 := fun x y H Q => ∃ n a c, x = .ref a ∧ y = .ref c ∧ EqP H x y n ∧ n ≤ 60 ∧ Q (.bl true) H
def rNeP : R2 := fun x y H Q => ∃ n a c, x = .ref a ∧ y = .ref c ∧ EqP H x y n ∧ n ≤ 60 ∧ Q (.bl false) H
end
end My
namespace My
open PySem PySem.Spec L2
open PyProof.Rows hiding St
structure BlkM (X : Cx) (ts : List Str) (caps : List Nat) (cs : List Str) (sc : Scope) (cl : List (Str × Addr)) (x : Str) : Prop where
 clos : closureFor sc X.env = pure cl
 kind : sc.kind = .function
 own : ∀ n, cellsFrom n sc.names cl = (x, n) :: cl
 own0 : ∀ n, cellsFrom n sc.names [] = [(x, n)]
 loc : ∀ y ∈ sc.names, y.2 = .local → sc.names.lookup y.1 = some .local
 sub : ∀ y c, cl.lookup y = some c → X.env.cells.lookup y = some c
 has : ∀ y, ((relabel sc X.env).names.lookup y = some .cell ∨ (relabel sc X.env).names.lookup y = some .free) → y = x ∨ ∃ c, cl.lookup y = some c
 len : caps.length = cs.length
 cap : ∀ (k : Nat) i y, caps[k]? = some i → cs[k]? = some y → X.N[i]? = some y ∧ (X.env.kindOf y = some .cell ∨ X.env.kindOf y = some .free)
 capK : ∀ y ∈ cs, (relabel sc X.env).names.lookup y = some .cell ∨ (relabel sc X.env).names.lookup y = some .free
 capX : ∀ y ∈ cs, y ≠ x
section
variable {X : Cx} {pins : List (Addr × Obj)} {σ : St} {H : Hp} {s : Shared} {ts cs : List Str} {caps : List Nat} {sc : Scope} {cl : List (Str × Addr)} {fp : List Addr} {x : Str}
variable {tg it elt : Expr} {pos : Pos} {wi : TI} {g : TG} {te : TE}
end
end My
namespace My
open PySem PySem.Spec L2
open PyProof.Rows hiding St
section
variable {prog : Program} {w : World} {A : Around} {E : Value → Shared → Prop} {s : Shared}
end
section
variable {X : Cx} {c d : Expr} {p pos : Pos} {ta : TA}
def rSortD : List V → Hp → VK → Prop := fun xs H Q => ∃ (a : Addr) (kvs : List (Key × V)) (ss : List Str), xs = [.ref a] ∧ Rd H a (.dK kvs) ∧ (kvs.map fun kv => kV kv.1) = ss.map V.str ∧ ss.length < 64 ∧ ∀ l H2 (ts : List Str), H l = none → Same H H2 → H2 l = some (.lst (ts.map V.str)) → ts.Pairwise leS → ts.Perm ss → Q (.ref l) H2
end
end My
namespace My
open PySem PySem.Spec L2
open PyProof.Rows hiding St
section
variable {X : Cx} {e : Expr} {t : TA} {p pos : Pos}
def rSumI : List V → Hp → VK → Prop := fun xs H Q => ∃ (a : Addr) (ns : List Int), xs = [.ref a] ∧ H a = some (.lst (ns.map V.int)) ∧ Q (.int ns.sum) H
end
end My
namespace My
open PySem PySem.Spec L2
open PyProof.Rows hiding St
section
variable {X : Cx} {pins : List (Addr × Obj)} {σ : St} {H : Hp} {s : Shared} {a : Addr} {kvs : List (Key × V)}
end
section
variable {X : Cx} {o e f : Expr} {apos cpos : Pos} {td ty tx : TE}
end
end My
namespace My
open PySem PySem.Spec L2
open PyProof.Rows hiding St
section
variable {X : Cx} {a b : Expr} {p2 pos : Pos} {tx tb : TE}
theorem q_cutRL (ha : QE X a tx) (hb : QE X b tb) : QE X (.Subscript a (.Slice (some b) none none p2) pos) (tSl (rSlL X.K) tx (tPart tb) tNoPart) := ⟨pe_slice sl_list ha.h (po_some hb.h) po_none⟩
end
end My
namespace My
open PySem PySem.Spec L2
open PyProof.Rows hiding St
def numS (n : Int) : Str := Str.ofString (toString n)
theorem cl_app (a b : Str) : (a ++ b).cps.toList = a.cps.toList ++ b.cps.toList := by rw [Str.cps_append, Array.toList_append]
theorem len_cl (a : Str) : a.cps.toList.length = a.length := Array.length_toList
theorem numS_nat (m : Nat) : (numS (m : Int)).cps.toList = (Nat.toDigits 10 m).map Char.toNat := by
 unfold numS
 rw [signs_ofString]
 show (Nat.repr m).toList.map Char.toNat = _
 rw [Nat.toList_repr]
theorem numS_digits {m : Nat} {c : Nat} (h : c ∈ (numS (m : Int)).cps.toList) : 48 ≤ c ∧ c ≤ 57 := by
 rw [numS_nat] at h
 obtain ⟨ch, hch, e⟩ := List.mem_map.mp h
 have r := digit_range (Nat.isDigit_of_mem_toDigits (by decide) (by decide) hch)
 rw [← e]
 exact r
theorem numS_ne (m : Nat) : (numS (m : Int)).cps.toList ≠ [] := by
 rw [numS_nat]
 intro e
 have h := toDigits_len_ge 10 m
 rw [List.map_eq_nil_iff.mp e] at h
 exact absurd h (by decide)
theorem numS_len {n : Int} (h0 : 0 ≤ n) (h : n < 10 ^ 30) : (numS n).length ≤ 30 := toString_length_le h0 (by decide) h
theorem numS_pos (m : Nat) : 1 ≤ (numS (m : Int)).length := by
 rw [← len_cl]
 exact List.length_pos_iff.mpr (numS_ne m)
theorem numS_read {n : Int} (h0 : 0 ≤ n) (h1 : n < 10 ^ 30) : PySem.intText? (numS n) = some n := by
 have hl := numS_len h0 h1
 obtain ⟨m, rfl⟩ := Int.eq_ofNat_of_zero_le h0
 have e := PySem.intText_digits (x := numS (m : Int)) (fun c hc => numS_digits hc) (numS_ne m) (Nat.le_trans hl (by decide))
 rw [numS_nat, PySem.W.KIN.val_back] at e
 exact e
theorem toDigits_head : ∀ (m : Nat), 0 < m → ∃ c r, Nat.toDigits 10 m = c :: r ∧ c ≠ '0' := by
 intro m
 induction m using Nat.strongRecOn with
 | _ m ih =>
  intro hm
  by_cases h : m < 10
  ·rw [Nat.toDigits_of_lt_base h]
   refine ⟨_, _, rfl, ?_⟩
   have : ∀ d : Nat, d < 10 → 0 < d → Nat.digitChar d ≠ '0' := by decide
   exact this m h hm
  ·have t : Nat.toDigits 10 (m / 10) ++ Nat.toDigits 10 (m % 10) = Nat.toDigits 10 (10 * (m / 10) + m % 10) := Nat.toDigits_append_toDigits (by decide) (by omega) (Nat.mod_lt m (by decide))
   rw [Nat.div_add_mod] at t
   obtain ⟨c, r, e, hc⟩ := ih (m / 10) (by omega) (by omega)
   rw [← t, e]
   exact ⟨c, _, rfl, hc⟩
def one (c : Nat) : Str := ⟨#[c]⟩
theorem one_cl (c : Nat) : (one c).cps.toList = [c] := rfl
theorem starts_one (x : Str) (c : Nat) : Txt.startswith x (one c) = (x.cps.toList.head? == some c) := by
 unfold Txt.startswith
 rw [StrLaws.subAt_eq, List.drop_zero]
 show (decide (0 + 1 ≤ x.length) && (List.take 1 x.cps.toList == [c])) = _
 rw [← len_cl]
 cases h : x.cps.toList with
 | nil => rfl
 | cons a l =>
  simp
theorem starts_zero {m : Nat} (h : (numS (m : Int)).cps.toList.head? = some 48) : m = 0 := by
 by_cases hm : m = 0
 ·exact hm
 ·obtain ⟨c, r, e, hc⟩ := toDigits_head m (by omega)
  rw [numS_nat, e, List.map_cons, List.head?_cons, Option.some.injEq] at h
  refine absurd ?_ hc
  apply Char.ext
  apply UInt32.toNat_inj.mp
  exact h
theorem numS_zero : numS 0 = one 48 := by decide +kernel
theorem numS_neg {m : Nat} (h : 0 < m) : numS (-(m : Int)) = one 45 ++ numS (m : Int) := by
 apply ext_toList
 obtain ⟨k, rfl⟩ : ∃ k, m = k + 1 := ⟨m - 1, by omega⟩
 rw [cl_app, numS_nat, one_cl]
 unfold numS
 rw [signs_ofString]
 show (toString (Int.negSucc k)).toList.map Char.toNat = _
 show ("-" ++ Nat.repr (k + 1)).toList.map Char.toNat = _
 rw [String.toList_append, List.map_append, Nat.toList_repr]
 rfl
theorem no_minus (m : Nat) : ((numS (m : Int)).cps.toList.head? == some 45) = false := by
 cases h : (numS (m : Int)).cps.toList with
 | nil => rfl
 | cons a l =>
  have := numS_digits (m := m) (c := a) (by rw [h]; simp)
  simp
  omega
def jl (c : Nat) : List (List Nat) → List Nat
 | [] => []
 | [x] => x
 | x :: y :: r => x ++ c :: jl c (y :: r)
theorem join_cl (c : Nat) : ∀ xs : List Str, (Str.join (one c) xs).cps.toList = jl c (xs.map fun z => z.cps.toList)
 | [] => rfl
 | [x] => rfl
 | x :: y :: r => by
  show (x ++ one c ++ Str.join (one c) (y :: r)).cps.toList = _
  rw [cl_app, cl_app, join_cl c (y :: r), one_cl]
  show x.cps.toList ++ [c] ++ _ = x.cps.toList ++ c :: _
  rw [List.append_assoc]
  rfl
theorem cut_eq {c : Nat} : ∀ {a b r s : List Nat}, c ∉ a → c ∉ b → a ++ c :: r = b ++ c :: s → a = b ∧ r = s
 | [], [], r, s, _, _, e => by simpa using e
 | [], y :: b, r, s, _, h, e => by
  simp at e
  exact absurd (by rw [e.1]; simp) h
 | x :: a, [], r, s, h, _, e => by
  simp at e
  exact absurd (by rw [e.1]; simp) h
 | x :: a, y :: b, r, s, h1, h2, e => by
  simp only [List.cons_append, List.cons.injEq] at e
  obtain ⟨e1, e2⟩ := cut_eq (fun z => h1 (by simp [z])) (fun z => h2 (by simp [z])) e.2
  exact ⟨by rw [e.1, e1], e2⟩
theorem jl_inj {c : Nat} : ∀ (xs ys : List (List Nat)), xs ≠ [] → ys ≠ [] → (∀ p ∈ xs, c ∉ p) → (∀ p ∈ ys, c ∉ p) → jl c xs = jl c ys → xs = ys
 | [], _, h, _, _, _, _ => absurd rfl h
 | _ :: _, [], _, h, _, _, _ => absurd rfl h
 | [x], [y], _, _, _, _, e => by
  have e' : x = y := e
  rw [e']
 | [x], y :: z :: s, _, _, h1, _, e => by
  have e' : x = y ++ c :: jl c (z :: s) := e
  exact absurd (by rw [e']; simp) (h1 x (by simp))
 | x :: z :: r, [y], _, _, _, h2, e => by
  have e' : x ++ c :: jl c (z :: r) = y := e
  exact absurd (by rw [← e']; simp) (h2 y (by simp))
 | x :: z :: r, y :: u :: s, _, _, h1, h2, e => by
  obtain ⟨e1, e2⟩ := cut_eq (h1 x (by simp)) (h2 y (by simp)) (show x ++ c :: jl c (z :: r) = y ++ c :: jl c (u :: s) from e)
  have := jl_inj (z :: r) (u :: s) (by simp) (by simp) (fun p hp => h1 p (List.mem_cons_of_mem _ hp)) (fun p hp => h2 p (List.mem_cons_of_mem _ hp)) e2
  rw [e1, this]
theorem split_ne (x y : Str) : Txt.split x y ≠ [] := by
 unfold Txt.split
 split
 ·simp
 ·split
  ·simp
  ·rw [StrLaws.partsBetween_eq]
   obtain ⟨p, q, e⟩ := StrLaws.partsFrom_ne x y.length 0 (Builtin.Str.occurrences x y 0 x.length (x.length + 1))
   rw [e]
   simp
theorem map_cl_inj : ∀ {xs ys : List Str}, xs.map (fun z => z.cps.toList) = ys.map (fun z => z.cps.toList) → xs = ys
 | [], [], _ => rfl
 | [], _ :: _, e => by cases e
 | _ :: _, [], e => by cases e
 | x :: xs, y :: ys, e => by
  rw [List.map_cons, List.map_cons, List.cons.injEq] at e
  rw [ext_toList e.1, map_cl_inj e.2]
theorem split_join {c : Nat} {xs : List Str} (h : xs ≠ []) (hf : ∀ p ∈ xs, c ∉ p.cps.toList) : Txt.split (Txt.join (one c) xs) (one c) = xs := by
 have e1 := StrLaws.join_split (Txt.join (one c) xs) (one c)
 have e2 : Txt.join (one c) xs = Str.join (one c) xs := StrLaws.glued_eq_join _ _
 have e3 := StrLaws.split_free (Txt.join (one c) xs) c
 have e4 := congrArg (fun z : Str => z.cps.toList) (e1.trans e2)
 simp only [join_cl] at e4
 refine map_cl_inj (jl_inj (c := c) _ _ (by simpa using split_ne _ _) (by simpa using h) (fun p hp => ?_) (fun p hp => ?_) e4)
 ·obtain ⟨z, hz, rfl⟩ := List.mem_map.mp hp
  exact e3 z hz
 ·obtain ⟨z, hz, rfl⟩ := List.mem_map.mp hp
  exact hf z hz
theorem join_two (c : Nat) (a b : Str) : Txt.join (one c) [a, b] = a ++ one c ++ b := StrLaws.glued_eq_join _ _
theorem join_one (c : Nat) (a : Str) : Txt.join (one c) [a] = a := StrLaws.glued_eq_join _ _
theorem cut_one (c : Nat) (x : Str) : Txt.slice (one c ++ x) (some 1) none = x := by
 have l : (one c ++ x).length = 1 + x.cps.toList.length := by rw [← len_cl, cl_app, List.length_append, one_cl]; rfl
 have e := slice_from_eq (x := one c ++ x) (i := 1) (b := ((one c ++ x).length : Int)) (by decide) (by omega) rfl
 apply ext_toList
 rw [e]
 show List.take _ (List.drop 1 (one c ++ x).cps.toList) = _
 rw [cl_app, one_cl]
 show List.take _ x.cps.toList = _
 exact List.take_of_length_le (by omega)
end My
namespace My
open PySem PySem.Spec L2
open PyProof.Rows hiding St
section
variable {X : Cx} {a b c e e2 : Expr} {es : List Expr} {ta tb tc te te2 to : TE} {t : TA} {o : Expr} {apos cpos p pos p1 p2 p3 : Pos} {k1 : Nat} {c1 : Str}
def rStrI : List V → Hp → VK → Prop := fun xs H Q => ∃ i : Int, xs = [.int i] ∧ i.natAbs.log2 < 1920 ∧ Q (.str (numS i)) H
theorem q_strI (hg : Gl X "str") (hm : X.mg "str" = none) (ha : QA X (e :: es) t) (hp : (e :: es).all plainE = true := by rfl) :
  QE X (.Call (.Name "str" p) (e :: es) [] pos) (tCB rStrI t) := ⟨pe_cTy call_str_int hg hm (by rfl) ha.h hp⟩
def rIntX : List V → Hp → VK → Prop := fun xs H Q => ∃ (z : Str) (n : Int), xs = [.str z] ∧ PySem.intText? z = some n ∧ z.length ≤ 640 ∧ Q (.int n) H
theorem call_intX : CallR X (.type "int") rIntX := by
 intro pins s σ H xs us Q I r h
 obtain ⟨z, n, rfl, hn, hl, q⟩ := h
 obtain ⟨u, rfl, ru⟩ := vals1 r
 obtain ⟨tk, rfl⟩ := ru
 exact PySem.W.KIN.call_text hn hl ⟨.int n, H, I.tok _, ⟨_, rfl⟩, q⟩
theorem q_intX (hg : Gl X "int") (hm : X.mg "int" = none) (ha : QA X (e :: es) t) (hp : (e :: es).all plainE = true := by rfl) :
  QE X (.Call (.Name "int" p) (e :: es) [] pos) (tCB rIntX t) := ⟨pe_cTy call_intX hg hm (by rfl) ha.h hp⟩
def FmtV (x : V) (z : Str) : Prop := (∃ i : Int, x = .int i ∧ i.natAbs.log2 < 1920 ∧ z = numS i) ∨ x = .str z ∧ z.length ≤ 100000
theorem big_le {n : Nat} (h : n ≤ 1000000) : n ≤ sizeLine := Nat.le_trans h (by decide)
theorem FmtV.len {x : V} {z : Str} (h : FmtV x z) : z.length ≤ 100000 := by
 rcases h with ⟨i, rfl, hd, rfl⟩ | ⟨rfl, hl⟩
 ·have l2 := int_text_length_le (k := 1920) (by decide) hd
  unfold numS
  rw [PySem.ofString_length]
  omega
 ·exact hl
theorem FmtV.at {pins : List (Addr × Obj)} {σ : St} {H : Hp} {s : Shared} {v : Value} {x : V} {z : Str} {Q : Value → Shared → Prop} {E : Value → Shared → Prop} (I : Inv X pins σ H s) (h : FmtV x z) (r : RelV x v)
  (q : ∀ t' s', Inv X pins σ H s' → Q (.str z t') s') : wpAny (model X.prog X.w) X.A (formatField v Str.empty) Q E s := by
 have hl := h.len
 rcases h with ⟨i, rfl, hd, rfl⟩ | ⟨rfl, hl⟩
 ·obtain ⟨t, rfl⟩ := r
  exact PyProof.Rows.formatField_int_small hd (q _ _ (I.tok _))
 ·obtain ⟨t, rfl⟩ := r
  exact PyProof.Rows.formatField_str (fun t' tk => q _ _ (I.tok _)) (big_le (by omega))
def tFs1 (te : TE) : TE := fun σ H Q => te σ H fun x H1 => ∃ z, FmtV x z ∧ Q (.str z) H1
theorem q_fs1 (he : QE X e te) : QE X (.JoinedStr [.FormattedValue e (-1) none p2] pos) (tFs1 te) := ⟨by
 intro pins s σ H Q I h
 refine PyProof.Rows.JoinedStr_one (PyProof.Rows.FormattedValue_plain (thn (he.h pins s σ H _ I h) fun v s1 ⟨x, H1, I1, r1, z, hz, q1⟩ => ?_))
 exact hz.at I1 r1 fun t' s' I' => ⟨.str z, H1, I', ⟨_, rfl⟩, q1⟩⟩
def tFs3 (c : Str) (te te2 : TE) : TE := fun σ H Q => te σ H fun x H1 => ∃ y, FmtV x y ∧ te2 σ H1 fun x2 H2 => ∃ z, FmtV x2 z ∧ Q (.str (y ++ c ++ z)) H2
theorem q_fs3 (he : QE X e te) (he2 : QE X e2 te2) (h1 : c1.length ≤ 1000 := by decide +kernel) : QE X (.JoinedStr [.FormattedValue e (-1) none p1, .Constant (.str c1) k1 p2, .FormattedValue e2 (-1) none p3] pos) (tFs3 c1 te te2) := ⟨by
 intro pins s σ H Q I h
 refine PyProof.Rows.JoinedStr_many (joinParts_cons ?_)
 refine PyProof.Rows.FormattedValue_plain (thn (he.h pins s σ H _ I h) fun v s1 ⟨x, H1, I1, r1, y, hy, q1⟩ => ?_)
 have ly := hy.len
 refine hy.at I1 r1 fun t' s' I' => ?_
 have e0 := PySem.W.KT.empty_app y
 refine ⟨by rw [e0]; exact big_le (by omega), ?_⟩
 rw [e0]
 refine joinParts_cons ?_
 have l4 : (y ++ c1).length ≤ 101000 := by rw [strLen_append]; omega
 refine Calls.Constant_str ⟨big_le (by omega), joinParts_cons (PyProof.Rows.FormattedValue_plain (thn (he2.h pins _ σ H1 _ (I'.tok _) q1) fun v2 s2 ⟨x2, H2, I2, r2, z, hz, q2⟩ => ?_))⟩
 have lz := hz.len
 have l5 : (y ++ c1 ++ z).length ≤ 201000 := by rw [strLen_append]; omega
 refine hz.at I2 r2 fun t' s' I' => ?_
 exact ⟨big_le (by omega), joinParts_nil ⟨.str _, H2, I'.tok _, ⟨_, rfl⟩, q2⟩ (big_le (by omega))⟩⟩
def rSplit : V → List V → Hp → VK → Prop := fun x vs H Q => ∃ (z : Str) (d : Nat), x = .str z ∧ vs = [.str (one d)] ∧ z.length ≤ 100000 ∧ ∀ l H2, H l = none → Same H H2 → H2 l = some (.lst ((Txt.split z (one d)).map V.str)) → Q (.ref l) H2
theorem split_at {prog : Program} {w : World} {A : Around} {E : Value → Shared → Prop} {s : Shared} {x : Str} {t u : Tok} {y : Str} {Q : Value → Shared → Prop} (hy : (y.length == 0) = false) (hsz : x.length ≤ sizeLine) (hsz2 : (Builtin.Str.partsBetween x (Builtin.Str.occurrences x y 0 x.length (x.length + 1)) y.length).length ≤ sizeLine)
  (hq : ∀ (l : List (Str × Tok)) (k : Nat), l.map (·.1) = Txt.split x y → Q (.ref s.heap.objs.size) { s with heap := s.heap.push { cls := .type "list", data := .seq (strValues l).toArray }, toks := k }) :
  wpAny (model prog w) A (call (.builtin "str.split") [.str x t, .str y u]) Q E s := by
 cases h1 : (decide (x.length < y.length) || decide (Builtin.Str.strKind x < Builtin.Str.strKind y))
 ·cases hf : (Builtin.Str.occurrences x y 0 x.length (x.length + 1)).isEmpty
  ·refine call_meets F.slot_str_split (typeIs_str _ _ _) F.entry_str_split (F.args_str_split_2 _ _) (meets_str_split_sep x y t u h1 hy hf hsz hsz2) ?_
   show wants Q E _ { s with toks := _, heap := s.heap.push { cls := .type "list", data := .seq (strsFrom s.toks (Builtin.Str.partsBetween x (Builtin.Str.occurrences x y 0 x.length (x.length + 1)) y.length)).toArray } }
   rw [strsFrom_eq]
   exact hq (numbered s.toks _) _ ((numbered_texts _ _).trans ((if_neg (ne_true_of_eq_false h1)).trans (if_neg (ne_true_of_eq_false hf))).symm)
  ·exact call_meets F.slot_str_split (typeIs_str _ _ _) F.entry_str_split (F.args_str_split_2 _ _) (meets_str_split_not_found x y t u h1 hy hf)
    (hq [(x, t)] s.toks ((if_neg (ne_true_of_eq_false h1)).trans (if_pos hf)).symm)
 ·exact call_meets F.slot_str_split (typeIs_str _ _ _) F.entry_str_split (F.args_str_split_2 _ _) (meets_str_split_cannot_occur x y t u h1)
   (hq [(x, t)] s.toks (if_pos h1).symm)
theorem vals_strV : ∀ (l : List (Str × Tok)), Vals ((l.map (·.1)).map V.str) (strValues l)
 | [] => .nil
 | (x, t) :: l => .cons ⟨t, rfl⟩ (vals_strV l)
theorem mt_split : MtM X "str.split" rSplit := by
 intro pins s σ H x vs v us Q I rx rv h
 obtain ⟨z, d, rfl, rfl, hz, q⟩ := h
 obtain ⟨t, rfl⟩ := rx
 obtain ⟨u, rfl, ru⟩ := vals1 rv
 obtain ⟨t2, rfl⟩ := ru
 have hp : (Builtin.Str.partsBetween z (Builtin.Str.occurrences z (one d) 0 z.length (z.length + 1)) (one d).length).length ≤ z.length + 2 := by
  have := StrLaws.occ_length_le z (one d) 0 z.length (z.length + 1)
  unfold Builtin.Str.partsBetween
  simp
  omega
 refine split_at (by rfl) (big_le (by omega)) (big_le (by omega)) fun l k e => ?_
 have hD : s.heap.objs.size ≤ s.heap.objs.size := Nat.le_refl _
 have hf : H s.heap.objs.size = none := I.hok.fresh hD
 have hll : l.length = (Txt.split z (one d)).length := by rw [← e, List.length_map]
 have hsp : (Txt.split z (one d)).length ≤ z.length + 2 := by
  unfold Txt.split
  split
  ·simp
  ·split
   ·simp
   ·exact hp
 refine ⟨.ref s.heap.objs.size, upd H s.heap.objs.size (.lst ((Txt.split z (one d)).map V.str)), I.laid (t' := k) (o := .lst ((Txt.split z (one d)).map V.str)) (fun b o eb => Heap.get?_push_of_some _ eb) hD (show ObjOk X.prog X.w _ _ _ (.lst ((Txt.split z (one d)).map V.str)) from ⟨?_, strValues l, 0, ?_, ?_⟩), rfl, q _ _ hf (same_new hf _) upd_same⟩
 ·rw [List.length_map]
  exact big_le (by omega)
 ·rw [← e]
  exact vals_strV l
 ·exact Heap.get?_push_size _ rfl
theorem q_split (ho : QE X o to) (ha : QA X [e] t) (hbase : attributeBase o "split" X.env (eval o X.env) = eval o X.env := by rfl) (hline : (apos.endLine == cpos.line) = true := by rfl) (hp : plainE e = true := by rfl) :
  QE X (.Call (.Attribute o "split" apos) [e] [] cpos) (tXm rSplit to t) := ⟨pe_xm F.slot_str_split F.type_str_split mt_split ho.h ha.h hbase (by rw [se_cons hp]; rfl) hline (se_cons hp) rfl⟩
def rStarts : V → List V → Hp → VK → Prop := fun x vs H Q => ∃ z y, x = .str z ∧ vs = [.str y] ∧ Q (.bl (Txt.startswith z y)) H
theorem mt_starts : MtM X "str.startswith" rStarts := by
 intro pins s σ H x vs v us Q I rx rv h
 obtain ⟨z, y, rfl, rfl, q⟩ := h
 obtain ⟨t, rfl⟩ := rx
 obtain ⟨u, rfl, ru⟩ := vals1 rv
 obtain ⟨t2, rfl⟩ := ru
 exact SC.startswith ⟨.bl _, H, I, rfl, q⟩
theorem q_starts (ho : QE X o to) (ha : QA X [e] t) (hbase : attributeBase o "startswith" X.env (eval o X.env) = eval o X.env := by rfl) (hline : (apos.endLine == cpos.line) = true := by rfl) (hp : plainE e = true := by rfl) :
  QE X (.Call (.Attribute o "startswith" apos) [e] [] cpos) (tXm rStarts to t) := ⟨pe_xm F.slot_str_startswith F.type_str_startswith mt_starts ho.h ha.h hbase (by rw [se_cons hp]; rfl) hline (se_cons hp) rfl⟩
def rInX : R2 := fun x y H Q => ∃ (d : Nat) (z : Str), x = .str (one d) ∧ y = .str z ∧ Q (.bl (decide (d ∈ z.cps.toList))) H
theorem op_inX : OpR X (compareOp .In) rInX := by
 intro pins s σ H x y v u Q I rx ry h
 obtain ⟨d, z, rfl, rfl, q⟩ := h
 refine op_in_str pins s σ H _ _ v u Q I rx ry ⟨one d, z, rfl, rfl, ?_⟩
 rw [show one d = ⟨#[d]⟩ from rfl, StrLaws.found_one]
 exact q
theorem q_inX (ha : QE X a ta) (hb : QE X b tb) (hm : behindInMarks .In b = false := by with_unfolding_all rfl) : QE X (.Compare a [.In] [b] pos) (tOp rInX ta tb) := ⟨pe_cmpR op_inX ha.h hb.h hm⟩
theorem q_cutRX (ha : QE X a ta) (hb : QE X b tb) : QE X (.Subscript a (.Slice (some b) none none p2) pos) (tSl rSlX ta (tPart tb) tNoPart) := ⟨pe_slice sl_str ha.h (po_some hb.h) po_none⟩
theorem q_gstr {x z : Str} {tk : Tok} (hg : Gl X x) (hm : X.mg x = some (.str z tk)) (hd : (x == ("__debug__" : Str)) = false := by decide) : QE X (.Name x pos) (tC (.str z)) := ⟨pe_glob hg hm ⟨_, rfl⟩ hd⟩
theorem q_lenX (hg : Gl X "len") (hm : X.mg "len" = none) (ha : QA X (e :: es) t) (hp : (e :: es).all plainE = true := by rfl) :
  QE X (.Call (.Name "len" p) (e :: es) [] pos) (tCB (fun xs H Q => ∃ z, xs = [.str z] ∧ z.length ≤ sizeLine ∧ Q (.int z.length) H) t) := ⟨pe_cB call_len_str hg hm PySem.boot_len ha.h hp⟩
def rAllB : List V → Hp → VK → Prop := fun xs H Q => ∃ (a : Addr) (bs : List Bool), xs = [.ref a] ∧ H a = some (.lst (bs.map V.bl)) ∧ Q (.bl (bs.all id)) H
theorem vals_bools : ∀ {bs : List Bool} {us : List Value}, Vals (bs.map V.bl) us → us = bs.map Value.bool
 | [], us, h => by cases h; rfl
 | b :: bs, us, h => by
  cases h with
  | cons h1 h2 =>
   cases h1
   rw [vals_bools h2]
   rfl
theorem all_rngB {bs : List Bool} : (List.range bs.length).all (fun i => bs.getD i false) = bs.all id := by
 rw [Bool.eq_iff_iff, List.all_eq_true, List.all_eq_true]
 constructor
 ·intro h x hx
  obtain ⟨i, hi⟩ := List.getElem?_of_mem hx
  have := h i (List.mem_range.mpr (List.getElem?_eq_some_iff.mp hi).1)
  rw [List.getD_eq_getElem?_getD, hi] at this
  exact this
 ·intro h i hi
  have hi' := List.mem_range.mp hi
  rw [List.getD_eq_getElem?_getD, List.getElem?_eq_getElem hi']
  exact h _ (List.getElem_mem hi')
theorem call_allB (hc : X.calm = true) : CallR X (.builtin "all") rAllB := by
 intro pins s σ H xs us Q I r h
 obtain ⟨a, bs, rfl, e, q⟩ := h
 obtain ⟨u, rfl, ru⟩ := vals1 r
 cases ru
 obtain ⟨_, its, n, hv, g⟩ := I.hok a _ e
 have ei := vals_bools hv
 subst ei
 have hL : s.heap.IsList a (bs.map Value.bool).toArray := ⟨_, g, rfl, n, by simp⟩
 refine call_all_walk (wpAny_pyIter_list hL ?_)
 have hn : a ≠ s.heap.objs.size := Nat.ne_of_lt (Heap.lt_size g)
 refine ⟨_, _, _, _, _, _, fun i => bs.getD i false, rfl, Walks.list (A := X.A.in1) (I.ok.hd hc) _ a hn (bs.map Value.bool).toArray, ?_, ?_, fun h' tk hk => ?_⟩
 ·exact ⟨⟨_, Heap.get?_push_size _ rfl, rfl, rfl⟩, ⟨_, Heap.get?_push_of_some _ g, rfl, n, by simp⟩⟩
 ·intro i v s1 Q1 E1 hP hQ
  have : v = Value.bool (bs.getD i false) := by
   have hP' : (bs.map Value.bool).toArray[i]? = some v := hP
   rw [List.getElem?_toArray, List.getElem?_map] at hP'
   rw [List.getD_eq_getElem?_getD]
   cases hb : bs[i]? with
   | none => rw [hb] at hP'; cases hP'
   | some b => rw [hb] at hP'; cases hP'; rfl
  subst this
  exact wpAny_truthy_bool hQ
 ·rw [show (bs.map Value.bool).toArray.size = bs.length by simp, all_rngB]
  exact ⟨.bl (bs.all id), H, I.kept (old_kept hk), rfl, q⟩
theorem q_allB (hg : Gl X "all") (hm : X.mg "all" = none) (ha : QA X [e] t) (hp : plainE e = true := by rfl) (hc : X.calm = true := by rfl) : QE X (.Call (.Name "all" p) [e] [] pos) (tCB rAllB t) :=
 ⟨pe_callB (call_allB hc) hg hm (by decide +kernel) ha.h (by decide) (by decide) (se_cons hp) rfl⟩
end
def Itx (z : Str) : It := ⟨fun i _ => i < z.cps.toList.length, fun i H x H' => H' = H ∧ ∃ d, z.cps.toList[i]? = some d ∧ x = .str (one d), fun i _ => z.cps.toList.length ≤ i⟩
theorem turn_text {P : Program} {w : World} {K : PySem.W.Frag} {tg : Expr} (it : Addr) (z : Str) (t : Tok) : Turn P w K tg (Itx z) [it] it (fun i h => h.IsStrIter it "str_ascii_iterator" z t i) where
 mem := by simp
 obj := fun i h st b hb => by
  have e : b = it := by simpa using hb
  subst e
  obtain ⟨o, e, c, d⟩ := st
  exact ⟨o, e, fun v z => by rw [d] at z; cases z⟩
 keep := fun i h h' st k => let ⟨o, ho, r⟩ := st; ⟨o, k it (by simp) o ho, r⟩
 item := by
  intro X hP hw hK hc i pins s σ H E I hf st hg
  subst hP hw hK
  obtain ⟨f0, f1, f2, f3, f4, f5⟩ := hf it (by simp)
  have hg2 : i < z.cps.toList.length := hg
  have hg' : i < z.cps.size := by simpa using hg2
  refine wpAny_pyNext_ascii_item st (c := z.cps[i]) (by simp [hg']) fun h' st' sb => ?_
  have I1 : Inv X pins σ H { s with heap := h', toks := s.toks + 1 } := I.turned (fun b o hb e => (sb.2 b hb).trans e) f0 f1 f3 f4 f5
  obtain ⟨o, e, c, d⟩ := id st'
  exact ⟨_, rfl, go_of (s := { s with heap := h', toks := s.toks + 1 }) e c d (by decide) ⟨.str (one z.cps[i]), H, I1, ⟨_, rfl⟩, ⟨rfl, _, by simp [hg'], rfl⟩, st', fun b hb => (hf b hb).1⟩⟩
 done := by
  intro X hP hw hK hc i pins s σ H E I hf st hg
  subst hP hw hK
  obtain ⟨f0, f1, f2, f3, f4, f5⟩ := hf it (by simp)
  have hg' : z.cps.toList.length ≤ i := hg
  exact wpAny_pyNext_ascii_end (I.ok.hd hc) st (by simp at hg' ⊢; omega) fun h' eb => ⟨rfl, I.turned (t' := s.toks) (fun b o hb e => eb b o hb e) f0 f1 f3 f4 f5⟩
 self := fun _ _ _ _ _ st h => wpAny_pyIter_striter_ascii st h
section
variable {X : Cx} {tg l : Expr} {tl : TE}
def iTxt (tl : TE) : TI := fun σ H R => tl σ H fun x H1 => ∃ z, x = .str z ∧ (∀ d ∈ z.cps.toList, d < 128) ∧ R (Itx z) H1
theorem i_txt (hl : QE X l tl) : QI X tg l (iTxt tl) := ⟨by
 intro pins s σ H R I h
 refine thn (hl.h pins s σ H _ I h) fun v s1 ⟨x, H1, I1, r1, q1⟩ => ?_
 obtain ⟨z, e, ha, q⟩ := q1
 subst e
 obtain ⟨t, rfl⟩ := r1
 have hall : z.cps.all (· < 128) = true := by
  rw [Array.all_eq_true_iff_forall_mem]
  intro d hd
  exact decide_eq_true (ha d (by simpa using hd))
 refine wpAny_pyIter_ascii hall ?_
 refine ⟨s1.heap.objs.size, [s1.heap.objs.size], _, _, H1, rfl, I1.kept (t' := s1.toks) fun b o e => Heap.get?_push_of_some _ e, turn_text _ z t, ⟨_, Heap.get?_push_size _ rfl, rfl, rfl⟩, fun b hb => ?_, q⟩
 have e : b = s1.heap.objs.size := by simpa using hb
 subst e
 exact I1.fpOk (Nat.le_refl _) (I1.hok.fresh (Nat.le_refl _))⟩
end
section
variable {X : Cx} {a b c e : Expr} {es : List Expr} {ta tb tc : TE} {t : TA} {p pos : Pos}
theorem t_leLe (ha : QE X a ta) (hb : QE X b tb) (hc : QE X c tc) (hm : lastMarks [CmpOp.LtE, CmpOp.LtE] [b, c] = false := by with_unfolding_all rfl) : QT X (.Compare a [.LtE, .LtE] [b, c] pos) (tTest (tChain (rI0 fun i j => .bl (decide (i ≤ j))) (rI0 fun i j => .bl (decide (i ≤ j))) ta tb tc)) := ⟨pt_chain op_le op_le ha.h hb.h hc.h hm⟩
structure OwnCls (K : PySem.W.Frag) (C : Addr) : Prop where
 cl : Cls K C
 a : PySem.W.findIn K (.ref C) "__class__" = some (some (.builtin "object.__class__"))
 b : PySem.W.specialIn K (.builtin "object.__class__") "__get__" = some (some (.builtin "getset_descriptor.__get__"))
 t : PySem.W.takesIn K (.builtin "object.__class__") = some true
 m : PySem.W.mroIn K C (.type "object") = some true
 k : PySem.W.kitOne K (.ref C) (.ref C) = some true
def rInstC (K : PySem.W.Frag) : List V → Hp → VK → Prop := fun xs H Q => ∃ a C dx fs, xs = [.ref a, .ref C] ∧ H a = some (.ins C dx fs) ∧ OwnCls K C ∧ Q (.bl true) H
end
theorem blk_text {z : Str} {nt : Nat} {cp : St} {g : TG} {tt : TT} {te : TE} {H1 : Hp} {Q : VK} (Pv : Addr → Nat → List V → Hp → Prop) (h0 : ∀ acc H2, H1 acc = none → Same H1 H2 → H2 acc = some (.lst []) → Pv acc 0 [] H2)
  (hl : ∀ acc i ys H, H1 acc = none → Pv acc i ys H → H acc = some (.lst ys) ∧ ys.length < 1000000)
  (hs : ∀ acc i d ys H os, H1 acc = none → z.cps.toList[i]? = some d → Pv acc i ys H → os.length = nt → g (.str (one d)) (os ++ cp) H fun τ H3 => ∃ os', os'.length = nt ∧ τ = os' ++ cp ∧ tt τ H3 fun b H4 => if b = true then te τ H4 fun v H5 => H5 acc = some (.lst ys) ∧ Pv acc (i + 1) (ys ++ [v]) (upd H5 acc (.lst (ys ++ [v]))) else Pv acc (i + 1) ys H4)
  (hd : ∀ acc ys H, H1 acc = none → Pv acc z.cps.toList.length ys H → Q (.ref acc) H) : tBlkT nt cp (Itx z) g tt te H1 Q := by
 intro acc H2 hn sm e
 refine ⟨fun i m ys H => m = z.cps.toList.length - i ∧ i ≤ z.cps.toList.length ∧ Pv acc i ys H, ⟨z.cps.toList.length, by simp, Nat.zero_le _, h0 acc H2 hn sm e⟩, ?_⟩
 rintro i m ys H ⟨rfl, hi, p⟩
 obtain ⟨q1, q2⟩ := hl acc i ys H hn p
 refine ⟨q1, ?_⟩
 by_cases hlt : i < z.cps.toList.length
 ·refine .inr ⟨hlt, q2, Pv acc (i + 1), fun ys' H' p' => ⟨z.cps.toList.length - (i + 1), by omega, rfl, hlt, p'⟩, fun os x H' ol y => ?_⟩
  obtain ⟨rfl, d, hy, rfl⟩ := y
  exact hs acc i d ys _ os hn hy p ol
 ·have e : i = z.cps.toList.length := by omega
  subst e
  exact .inl ⟨Nat.le_refl _, hd _ _ _ hn p⟩
end My
namespace My
open PySem PySem.Spec L2
open PyProof.Rows hiding St
section
variable {X : Cx} {o e : Expr} {apos cpos : Pos} {td ty te : TE}
def tDClr (td : TE) : TE := fun σ H Q => td σ H fun x H1 => ∃ a kvs, x = .ref a ∧ H1 a = some (.dK kvs) ∧ Q .non (upd H1 a (.dK []))
def tTru (K : PySem.W.Frag) (ta : TE) : TT := fun σ H Q => ta σ H fun x H' => ∃ k, TruV K x H' k ∧ Q k H'
end
end My
namespace My
open PySem PySem.Spec L2
open PyProof.Rows hiding St
section
variable {X : Cx} {j k : Nat} {C : Addr} {m : Str} {ps : List Str} {sp : Sp} {pos apos : Pos} {o : Expr} {ta : TE}
end
end My
namespace My
open PySem PySem.Spec L2
open PyProof.Rows hiding St
structure GDict (P : Program) (w : World) (K : PySem.W.Frag) (a : Addr) (kvs : List (Key × V)) : Prop where
 ex : (a == sysModules) = false ∧ ∃ o vs, K.lookup a = some o ∧ o.IsDictOf (mixKind P w) vs ∧ KV kvs vs
section
variable {X : Cx} {pins : List (Addr × Obj)} {σ : St} {H : Hp} {s : Shared} {a : Addr} {kvs : List (Key × V)} {k : Key} {u r : Value} {A : Around} {E : Value → Shared → Prop}
theorem GDict.at (g : GDict X.prog X.w X.K a kvs) (I : Inv X pins σ H s) : (a == sysModules) = false ∧ ∃ vs, s.heap.DictOf (mixKind X.prog X.w) a vs ∧ KV kvs vs := by
 obtain ⟨h1, o, vs, h2, h3, h4⟩ := g.ex
 exact ⟨h1, vs, Heap.dictOf_iff.mpr ⟨o, I.kIn _ _ h2, h3⟩, h4⟩
end
section
variable {X : Cx} {o e f a b : Expr} {apos cpos pos : Pos} {td ty tx ta tb : TE}
def tGI (P : Program) (w : World) (K : PySem.W.Frag) (neg : Bool) (ty td : TE) : TE := fun σ H Q => ty σ H fun y H1 => td σ H1 fun x H2 => ∃ a kvs k, x = .ref a ∧ GDict P w K a kvs ∧ y = kV k ∧ Q (.bl (if neg = true then !(valV kvs k).isSome else (valV kvs k).isSome)) H2
theorem pc_inG (hi : PE X a ta) (ho : PE X b tb) : PC X .In a b (tGI X.prog X.w X.K false ta tb) := by
 intro pins s σ H Q I h
 refine thn (hi pins s σ H _ I h) fun iv s1 ⟨y, H1, I1, ry, q1⟩ => thn (ho pins s1 σ H1 _ I1 q1) fun u s2 ⟨x, H2, I2, rx, a, kvs, k, ex, g, ey, q2⟩ => ?_
 subst ex ey
 obtain rfl : u = Value.ref a := rx
 obtain ⟨hd, vs, dd, rel⟩ := g.at I2
 refine wpAny_in_of (kV_is ry) hd dd.mapOf ?_
 rw [← (rel.val k).isSome_eq]
 exact ⟨.bl _, H2, I2.tok _, rfl, by simpa using q2⟩
theorem pc_ninG (hi : PE X a ta) (ho : PE X b tb) : PC X .NotIn a b (tGI X.prog X.w X.K true ta tb) := by
 intro pins s σ H Q I h
 refine thn (hi pins s σ H _ I h) fun iv s1 ⟨y, H1, I1, ry, q1⟩ => thn (ho pins s1 σ H1 _ I1 q1) fun u s2 ⟨x, H2, I2, rx, a, kvs, k, ex, g, ey, q2⟩ => ?_
 subst ex ey
 obtain rfl : u = Value.ref a := rx
 obtain ⟨hd, vs, dd, rel⟩ := g.at I2
 refine wpAny_notIn_of (kV_is ry) hd dd.mapOf ?_
 rw [← (rel.val k).isSome_eq]
 exact ⟨.bl _, H2, I2.tok _, rfl, by simpa using q2⟩
theorem t_inG (ha : QE X a ta) (hb : QE X b tb) (hm : behindInMarks .In b = false := by with_unfolding_all rfl) : QT X (.Compare a [.In] [b] pos) (tB (tGI X.prog X.w X.K false ta tb)) := ⟨pt_cmp (pc_inG ha.h hb.h) hm⟩
theorem t_ninG (ha : QE X a ta) (hb : QE X b tb) (hm : behindInMarks .NotIn b = false := by with_unfolding_all rfl) : QT X (.Compare a [.NotIn] [b] pos) (tB (tGI X.prog X.w X.K true ta tb)) := ⟨pt_cmp (pc_ninG ha.h hb.h) hm⟩
theorem g_typ {pins : List (Addr × Obj)} {σ : St} {H : Hp} {s : Shared} {a : Addr} {kvs : List (Key × V)} (I : Inv X pins σ H s) (g : GDict X.prog X.w X.K a kvs) : s.TypeIs (.ref a) "dict" ∧ (∀ b, Value.ref a = .ref b → ∃ ob, s.heap.get? b = some ob ∧ ob.dict = none) := by
 obtain ⟨hd, vs, dd, rel⟩ := g.at I
 refine ⟨dd.typeIs, fun b q => ?_⟩
 cases q
 obtain ⟨ob, _, _, h1, h2, _⟩ := dd
 exact ⟨ob, h1, h2.2.1⟩
def tGGet1 (P : Program) (w : World) (K : PySem.W.Frag) (td ty : TE) : TE := fun σ H Q => td σ H fun x H1 => ∃ a kvs, x = .ref a ∧ GDict P w K a kvs ∧ ty σ H1 fun y H2 => ∃ k, y = kV k ∧ Q ((valV kvs k).getD .non) H2
def tGGet2 (P : Program) (w : World) (K : PySem.W.Frag) (td ty tx : TE) : TE := fun σ H Q => td σ H fun x H1 => ∃ a kvs, x = .ref a ∧ GDict P w K a kvs ∧ ty σ H1 fun y H2 => tx σ H2 fun z H3 => ∃ k, y = kV k ∧ Q ((valV kvs k).getD z) H3
theorem q_gget1 (ho : QE X o td) (he : QE X e ty) (m : M1 X o "get" apos e cpos := by exact ⟨rfl, rfl, rfl, rfl⟩) : QE X (.Call (.Attribute o "get" apos) [e] [] cpos) (tGGet1 X.prog X.w X.K td ty) := ⟨by
 intro pins s σ H Q I h
 refine wpAny_Call_method m.base m.few m.line PySem.F.plainAttrs_dict PySem.F.slot_dict_get PySem.F.type_dict_get (thn (ho.h pins s σ H _ I h) fun u s1 ⟨x, H1, I1, rx, a, kvs, ex, g, q1⟩ => ?_)
 subst ex
 obtain rfl : u = Value.ref a := rx
 obtain ⟨t1, t2⟩ := g_typ I1 g
 refine ⟨t1, t2, ?_⟩
 rw [m.trees]
 refine Calls.callWith_builtin rfl (Calls.evalArgs_plain (Calls.spliced_cons (thn (he.h pins s1 σ H1 _ I1 q1) fun iv s2 ⟨y, H2, I2, ry, k, ey, q2⟩ => Calls.spliced_nil ?_)))
 subst ey
 obtain ⟨hd, vs, dd, rel⟩ := g.at I2
 exact call_meetsIn PySem.F.slot_dict_get dd.typeIs PySem.F.entry_dict_get (PySem.F.args_dict_get_2 _ _) (meets_dict_get (mixKind X.prog X.w) a (kV_is ry) hd) ⟨_, dd.mapOf, _, H2, I2.tok _, (rel.val k).getD (d := .non) rfl, q2⟩⟩
theorem q_gget2 (ho : QE X o td) (he : QE X e ty) (hf : QE X f tx) (m : M2 X o "get" apos e f cpos := by exact ⟨rfl, rfl, rfl, rfl⟩) : QE X (.Call (.Attribute o "get" apos) [e, f] [] cpos) (tGGet2 X.prog X.w X.K td ty tx) := ⟨by
 intro pins s σ H Q I h
 refine wpAny_Call_method m.base m.few m.line PySem.F.plainAttrs_dict PySem.F.slot_dict_get PySem.F.type_dict_get (thn (ho.h pins s σ H _ I h) fun u s1 ⟨x, H1, I1, rx, a, kvs, ex, g, q1⟩ => ?_)
 subst ex
 obtain rfl : u = Value.ref a := rx
 obtain ⟨t1, t2⟩ := g_typ I1 g
 refine ⟨t1, t2, ?_⟩
 rw [m.trees]
 refine Calls.callWith_builtin rfl (Calls.evalArgs_plain (Calls.spliced_cons (thn (he.h pins s1 σ H1 _ I1 q1) fun iv s2 ⟨y, H2, I2, ry, q2⟩ =>
  Calls.spliced_cons (thn (hf.h pins s2 σ H2 _ I2 q2) fun fv s3 ⟨z, H3, I3, rz, k, ey, q3⟩ => Calls.spliced_nil ?_))))
 subst ey
 obtain ⟨hd, vs, dd, rel⟩ := g.at I3
 exact call_meetsIn PySem.F.slot_dict_get dd.typeIs PySem.F.entry_dict_get (PySem.F.args_dict_get_3 _ _ _) (meets_dict_get_default (mixKind X.prog X.w) a (kV_is ry) hd fv) ⟨_, dd.mapOf, _, H3, I3.tok _, (rel.val k).getD rz, q3⟩⟩
theorem q_nev : QE X e (fun _ _ _ => False) := ⟨fun _ _ _ _ _ _ h => h.elim⟩
end
inductive EntsOf (w : World) : List DictEntry → List (Key × V) → Prop
 | nil : EntsOf w [] []
 | cons {e : DictEntry} {k : Key} {v : V} {es : List DictEntry} {kvs : List (Key × V)} : keyIs k e.key = true → e.hash = keyH w k → RelV v e.val → EntsOf w es kvs → EntsOf w (e :: es) ((k, v) :: kvs)
theorem EntsOf.vs {P : Program} {w : World} {es : List DictEntry} {kvs : List (Key × V)} (h : EntsOf w es kvs) : ∃ vs, Pairs (mixKind P w) es vs ∧ KV kvs vs ∧ vs.map (·.1) = kvs.map (·.1) ∧ ∀ e ∈ es, ∃ k, (mixKind P w).is k e.key = true ∧ e.hash = (mixKind P w).hash k := by
 induction h with
 | nil => exact ⟨[], .nil, .nil, rfl, fun e h => by cases h⟩
 | @cons e k v es kvs h1 h2 h3 _ ih =>
  obtain ⟨vs, g1, g2, g3, g4⟩ := ih
  refine ⟨(k, e.val) :: vs, .cons h1 rfl g1, .cons ⟨rfl, h3⟩ g2, by rw [List.map_cons, List.map_cons, g3], fun e' he => ?_⟩
  rcases List.mem_cons.mp he with rfl | he
  ·exact ⟨k, h1, h2⟩
  ·exact g4 e' he
theorem gdict_of {P : Program} {w : World} {K : PySem.W.Frag} {a : Addr} {es : Array DictEntry} {ep : Nat} {kvs : List (Key × V)} (lk : K.lookup a = some ⟨.type "dict", none, .dict es ep, #[]⟩) (ha : (a == sysModules) = false) (he : EntsOf w es.toList kvs) (hn : (kvs.map (·.1)).Nodup) : GDict P w K a kvs := by
 obtain ⟨vs, g1, g2, g3, g4⟩ := he.vs (P := P)
 exact ⟨ha, _, vs, lk, ⟨es, ep, ⟨rfl, rfl, rfl⟩, rfl, fun e hm => g4 e (by simpa using hm), g1, by rw [g3]; exact hn⟩, g2⟩
section
variable {X : Cx} {E : XK} {ts cs : List Str} {caps : List Nat} {sc : Scope} {cl : List (Str × Addr)}
theorem s_setCompX {elt tg it : Expr} {x : Str} {px pos spos : Pos} {wi : TI} {g : TG} {te : TE} (b : Goes X E) (i : Nat) (B : Blk X ts caps cs sc cl) (hi : QI X tg it wi) (hg : ∀ s H fp, QG (blkE X E (ts ++ cs) sc cl s H fp) tg g) (he : ∀ s H fp, QE (blkE X E (ts ++ cs) sc cl s H fp) elt te) (hx : QG X (.Name x px) (gName i))
  (hsw : swapsWith (.ListComp elt [⟨tg, it, [], 0⟩] sc pos) (some (.Name x px)) spos.line X.env = pure true := by rfl) (hc : X.calm = true := by rfl) (hs : ∀ x, foldedSetIterable it X.env x = pure x := by intro _; rfl) :
  QS X (.Assign [.Name x px] (.ListComp elt [⟨tg, it, [], 0⟩] sc pos) spos) (tAsg (tComp ts.length caps wi g te) (gName i)) := ⟨by
 intro pins s σ H D I h
 rw [exec_Assign_Name_used _ _ _ _ hsw]
 refine wpAny_bind (wpAny_standAt (wpAny_bind ?_))
 show wpAny _ X.A (do let _ ← comprehension (.ListComp elt [⟨tg, it, [], 0⟩] sc pos) sc X.env _ (newList []) false (eval it X.env) (some (assign (.Name x px) X.env))) _ _ s
 refine wpAny_bind (wpAny_mono (wpAny_comprehension_free (use := some (assign (.Name x px) X.env)) (Q := fun _ s' => SP X pins D .next s') rfl hs B.clos B.kind B.loc
  (thn (hi.h pins s σ H _ I h) fun v s1 h1 => thn h1 fun itv s2 h2 => ?_)) (fun _ s' hq => wpAny_pure (wpAny_pure hq)) fun _ _ e => e)
 obtain ⟨it, fp, tn, J, H2, e, I2, T, st2, f2, hq⟩ := h2
 subst e
 refine thn (blk_runX (E := E) b.toBody B hc (fun s H fp => (hg s H fp).h) (fun _ _ _ => pts_nil) (fun s H fp => (he s H fp).h) I2 T st2 f2 hq) fun acc s3 h3 => thn h3 fun cenv s4 h4 => codeAny_mono h4 fun r s' hp => ?_
 rcases hp with hp | ⟨e, rfl, hp⟩
 ·obtain ⟨rfl, a, H', rfl, I', fC, ⟨m, hm⟩, q⟩ := hp
  obtain ⟨oC, esC, epC, hoC, hdC, rC⟩ := id hm
  have Ip : Inv X (pins ++ [(cenv.locals, oC)]) σ H' s' := I'.pins_of fun p hp => by
   rcases List.mem_append.mp hp with z | z
   ·exact I'.pin p (List.mem_append_right _ z)
   ·have z : p = (cenv.locals, oC) := by simpa using z
    subst z
    exact ⟨hoC, fC.1, fC.2.1, fC.2.2.1, fun v z => by rw [show oC.data = _ from hdC] at z; cases z⟩
  refine thn (hx.h _ s' σ H' (.ref a) (.ref a) _ Ip rfl q) fun _ s5 ⟨σ5, H5, I5, q5⟩ => ?_
  have pC := I5.pin (cenv.locals, oC) (List.mem_append_right _ (List.mem_append_right _ (by simp)))
  exact ⟨m, ⟨oC, esC, epC, pC.1, hdC, rC⟩, fun h' sb => ⟨σ5, H5, I5.unpinned.turned (t' := s5.toks) (fun b o hb e => sb.extBut b o hb e) pC.2.1 fC.2.1 fC.2.2.2.1 fC.2.2.2.2.1 fC.2.2.2.2.2, q5⟩⟩
 ·obtain ⟨ea, Cc, a0, B0, H', rfl, I', fC, ⟨m, hm⟩, fa, cv, hB, q⟩ := hp
  refine ⟨m, hm, fun h' sb cenv' _ => ?_⟩
  have I4 : Inv X pins σ H' { s' with heap := h' } := I'.turned (t' := s'.toks) (fun b o hb e => sb.extBut b o hb e) fC.1 fC.2.1 fC.2.2.2.1 fC.2.2.2.2.1 fC.2.2.2.2.2
  have nst : cenv.locals ∉ X.stack.filterMap (·.frame) := fun z => by
   rcases List.mem_cons.mp (I'.stkSub _ z) with y | y
   ·exact fC.2.1 y
   ·exact fC.2.2.1 y
  have fa2 := fa.but hm sb hB nst
  have k0 := fa2.1
  refine passOn_any (s := { s' with heap := h' }) fa2 fun h6 fa6 u6 => ?_
  exact b.passAny (fly (t' := s'.toks) I4 b.st b.fr cv k0 fa6.1 u6) fa6 cv q⟩
end
end My
set_option maxHeartbeats 4000000
local macro_rules | `(tactic| walk_at "rd") => `(tactic| ((try dsimp only [L2.tSeq, L2.tNext, L2.tRet, L2.tRetN, L2.tIfS, L2.tDrop, L2.tAsg, L2.gName, L2.tVar, L2.tC, L2.tOp, L2.tUn, L2.rI, L2.rI0, L2.rU, L2.rEq, L2.rNe, L2.tTest, L2.tB, L2.tAnd, L2.tOr, L2.tNot, L2.tAndV, L2.tOrV, L2.tNotV, L2.tIf, L2.tCall, L2.tCB, L2.tNil, L2.tCons, My.tTup2, My.tLst2, L2.tPar, My.gTup2, L2.gCons, L2.gNil, My.rIxT2, My.rIxL2, L2.rIxL, L2.rCat, L2.CPow, L2.CMul, L2.CDiv, L2.tBM, L2.rAppend, List.getElem?_cons_zero, List.getElem?_cons_succ, List.set_cons_zero, List.set_cons_succ, List.cons_append, List.nil_append, L2.scal, Bool.not_true, Bool.not_false, List.length_cons, List.length_nil, My.tApp, My.tMakeX, My.tTry0, My.tHand0, My.tFs, My.tLm0, My.tLm, L2.rReverse, L2.rClear, L2.rPop, L2.rExtend, My.tDG, My.sDP, My.tDI, L2.rIxS, L2.tSl, L2.tNoPart, L2.tPart, My.tXm, My.rFind, My.rJoin, My.rSlX, My.rSortSet, My.rEqP, My.rNeP, My.rSortStr, My.rSortD, My.rSumI, L2.tDGet2, My.rStrI, My.rIntX, My.tFs1, My.tFs3, My.rSplit, My.rStarts, My.rInX, My.rAllB, My.rInstC, L2.tDPop1, My.tDClr, My.tTru, My.tGI, My.tGGet1, My.tGGet2, My.tMethX, L2.tChain, L2.gSub, L2.rSetL, L2.tMeth, L2.tMake, L2.tFld, L2.sFld, My.tTry, My.tXE, My.tXS, My.tCallX, My.tRaise]); (try simp only [L2.tSeq, L2.tNext, L2.tRet, L2.tRetN, L2.tIfS, L2.tDrop, L2.tAsg, L2.gName, L2.tVar, L2.tC, L2.tOp, L2.tUn, L2.rI, L2.rI0, L2.rU, L2.rEq, L2.rNe, L2.tTest, L2.tB, L2.tAnd, L2.tOr, L2.tNot, L2.tAndV, L2.tOrV, L2.tNotV, L2.tIf,
 L2.tCall, L2.tCB, L2.tNil, L2.tCons, My.tTup2, My.tLst2, L2.tPar, My.gTup2, L2.gCons, L2.gNil, My.rIxT2, My.rIxL2, L2.rIxL, L2.rCat, L2.CPow, L2.CMul, L2.CDiv, L2.tBM, L2.rAppend,
 List.getElem?_cons_zero, List.getElem?_cons_succ, List.set_cons_zero, List.set_cons_succ, List.append_nil, List.cons_append, List.nil_append, Option.some.injEq, Option.some_inj, exists_eq_left, exists_eq_left', exists_eq_right, exists_eq, exists_eq', exists_and_left, exists_and_right, exists_const,
 L2.V.int.injEq, L2.V.bl.injEq, L2.V.ref.injEq, L2.V.str.injEq, L2.V.ty.injEq, L2.HO.lst.injEq, L2.HO.tup.injEq, reduceCtorEq, List.cons.injEq, and_true, true_and, and_false, false_and, exists_false, or_false, false_or, L2.scal, Bool.not_true, Bool.not_false, decide_eq_true_eq, Bool.false_eq_true, if_true, if_false, Bool.not_eq_true', decide_eq_false_iff_not, ite_self, ge_iff_le, gt_iff_lt, My.atI0, My.atI1, My.atI2, My.atI3, List.length_cons, List.length_nil, Nat.zero_add, and_assoc, My.tApp, My.tMakeX, My.tTry0, My.tHand0, My.tFs, My.tLm0, My.tLm, L2.rReverse, L2.rClear, L2.rPop, L2.rExtend, My.tDG, My.sDP, My.tDI, L2.rIxS, L2.tSl, L2.tNoPart, L2.tPart, My.tXm, My.rFind, My.rJoin, My.rSlX, My.rSortSet, My.rEqP, My.rNeP, My.rSortStr, My.rSortD, My.rSumI, L2.tDGet2, My.rStrI, My.rIntX, My.tFs1, My.tFs3, My.rSplit, My.rStarts, My.rInX, My.rAllB, My.rInstC, L2.tDPop1, My.tDClr, My.tTru, My.tGI, My.tGGet1, My.tGGet2, My.tMethX, L2.tChain, L2.gSub, L2.rSetL, L2.tMeth, L2.tMake, L2.tFld, L2.sFld, My.tTry, My.tXE, My.tXS, My.tCallX, My.tRaise, My.kind_bl, My.kind_int, My.ask_int, My.ask_bool, My.ask_tuple, My.ask_list, My.ask_str, My.isa_bb, My.isa_bi, My.isa_ii, My.isa_ib, My.isa_tt, My.isa_ll, Bool.true_eq_false, Int.reduceToNat, Int.reducePow, Int.reduceLT, Int.reduceLE, Int.reduceNeg, Int.reduceAbs, Int.reduceSub, Int.reduceMul, Nat.reduceLT, Nat.reduceLeDiff, Nat.reducePow, Int.zero_add, true_or, or_true, eq_self])))
namespace My
open PySem PySem.Spec L2
open PyProof.Rows hiding St
def top (i : Nat) : Stmt := PySem.Challenge.pw_roadshare_k82_no_fractions.main.body.getD i (.Pass ⟨0, 0, 0, 0⟩)
abbrev s_is_whole : Stmt := top 12
theorem sc_is_whole : FnScope ["thing"] ["thing"] (defScope s_is_whole) := ⟨rfl, rfl, rfl, by decide +kernel, rfl, by decide +kernel, by decide +kernel⟩
abbrev s_greatest_divisor : Stmt := top 13
theorem sc_greatest_divisor : FnScope ["one", "other", "larger", "smaller", "rest"] ["one", "other"] (defScope s_greatest_divisor) := ⟨rfl, rfl, rfl, by decide +kernel, rfl, by decide +kernel, by decide +kernel⟩
abbrev s_is_ratio : Stmt := top 16
theorem sc_is_ratio : FnScope ["thing", "top", "bottom"] ["thing"] (defScope s_is_ratio) := ⟨rfl, rfl, rfl, by decide +kernel, rfl, by decide +kernel, by decide +kernel⟩
abbrev s_is_price : Stmt := top 27
theorem sc_is_price : FnScope ["thing"] ["thing"] (defScope s_is_price) := ⟨rfl, rfl, rfl, by decide +kernel, rfl, by decide +kernel, by decide +kernel⟩
abbrev s_is_road : Stmt := top 28
theorem sc_is_road : FnScope ["thing", "many", "to"] ["thing", "many"] (defScope s_is_road) := ⟨rfl, rfl, rfl, by decide +kernel, rfl, by decide +kernel, by decide +kernel⟩
abbrev s_look_roads : Stmt := top 29
theorem sc_look_roads : FnScope ["thing", "many", "road"] ["thing"] (defScope s_look_roads) := ⟨rfl, rfl, rfl, by decide +kernel, rfl, by decide +kernel, by decide +kernel⟩
abbrev s_way_from : Stmt := top 30
theorem sc_way_from : FnScope ["roads", "k", "way", "place"] ["roads", "k"] (defScope s_way_from) := ⟨rfl, rfl, rfl, by decide +kernel, rfl, by decide +kernel, by decide +kernel⟩
abbrev s_Tree___init__ : Stmt := inClass (top 31) 0
theorem sc_Tree___init__ : FnScope ["self", "roads"] ["self", "roads"] (defScope s_Tree___init__) := ⟨rfl, rfl, rfl, by decide +kernel, rfl, by decide +kernel, by decide +kernel⟩
abbrev s_Tree_roads : Stmt := inClass (top 31) 1
theorem sc_Tree_roads : FnScope ["self"] ["self"] (defScope s_Tree_roads) := ⟨rfl, rfl, rfl, by decide +kernel, rfl, by decide +kernel, by decide +kernel⟩
abbrev s_show_ratio : Stmt := top 35
theorem sc_show_ratio : FnScope ["one", "top", "bottom"] ["one"] (defScope s_show_ratio) := ⟨rfl, rfl, rfl, by decide +kernel, rfl, by decide +kernel, by decide +kernel⟩
abbrev s_show_tree : Stmt := top 36
theorem sc_show_tree : FnScope ["tree"] ["tree"] (defScope s_show_tree) := ⟨rfl, rfl, rfl, by decide +kernel, rfl, by decide +kernel, by decide +kernel⟩
abbrev s_show_road : Stmt := top 37
theorem sc_show_road : FnScope ["road", "to", "price"] ["road"] (defScope s_show_road) := ⟨rfl, rfl, rfl, by decide +kernel, rfl, by decide +kernel, by decide +kernel⟩
abbrev s_read_whole : Stmt := top 38
theorem sc_read_whole : FnScope ["text"] ["text"] (defScope s_read_whole) := ⟨rfl, rfl, rfl, by decide +kernel, rfl, by decide +kernel, by decide +kernel⟩
abbrev s_read_ratio : Stmt := top 39
theorem sc_read_ratio : FnScope ["text", "below", "numbers", "top", "one"] ["text"] (defScope s_read_ratio) := ⟨rfl, rfl, rfl, by decide +kernel, rfl, by decide +kernel, by decide +kernel⟩
abbrev s_read_tree : Stmt := top 40
theorem sc_read_tree : FnScope ["text", "rows"] ["text"] (defScope s_read_tree) := ⟨rfl, rfl, rfl, by decide +kernel, rfl, by decide +kernel, by decide +kernel⟩
abbrev s_read_road : Stmt := top 41
theorem sc_read_road : FnScope ["row", "words"] ["row"] (defScope s_read_road) := ⟨rfl, rfl, rfl, by decide +kernel, rfl, by decide +kernel, by decide +kernel⟩
abbrev s_look_text : Stmt := top 42
theorem sc_look_text : FnScope ["thing"] ["thing"] (defScope s_look_text) := ⟨rfl, rfl, rfl, by decide +kernel, rfl, by decide +kernel, by decide +kernel⟩
abbrev s_Shire___init__ : Stmt := inClass (top 101) 0
theorem sc_Shire___init__ : FnScope ["self", "tree"] ["self", "tree"] (defScope s_Shire___init__) := ⟨rfl, rfl, rfl, by decide +kernel, rfl, by decide +kernel, by decide +kernel⟩
abbrev s_Shire_tree : Stmt := inClass (top 101) 8
theorem sc_Shire_tree : FnScope ["self"] ["self"] (defScope s_Shire_tree) := ⟨rfl, rfl, rfl, by decide +kernel, rfl, by decide +kernel, by decide +kernel⟩
abbrev s_read_row : Stmt := top 106
theorem sc_read_row : FnScope ["row", "words", "kinds"] ["row"] (defScope s_read_row) := ⟨rfl, rfl, rfl, by decide +kernel, rfl, by decide +kernel, by decide +kernel⟩
abbrev s_kinds_behind : Stmt := top 107
theorem sc_kinds_behind : FnScope ["first", "many", "kinds"] ["first", "many"] (defScope s_kinds_behind) := ⟨rfl, rfl, rfl, by decide +kernel, rfl, by decide +kernel, by decide +kernel⟩
abbrev s_read_word : Stmt := top 108
theorem sc_read_word : FnScope ["kind", "word"] ["kind", "word"] (defScope s_read_word) := ⟨rfl, rfl, rfl, by decide +kernel, rfl, by decide +kernel, by decide +kernel⟩
abbrev s_told : Stmt := top 120
theorem sc_told : FnScope ["shire", "first", "words"] ["shire", "first", "words"] (defScope s_told) := ⟨rfl, rfl, rfl, by decide +kernel, rfl, by decide +kernel, by decide +kernel⟩
abbrev s_Desk___init__ : Stmt := inClass (top 121) 0
theorem sc_Desk___init__ : FnScope ["self", "text"] ["self", "text"] (defScope s_Desk___init__) := ⟨rfl, rfl, rfl, by decide +kernel, rfl, by decide +kernel, by decide +kernel⟩
abbrev s_Desk_say : Stmt := inClass (top 121) 1
theorem sc_Desk_say : FnScope ["self", "row", "words", "first", "fresh"] ["self", "row"] (defScope s_Desk_say) := ⟨rfl, rfl, rfl, by decide +kernel, rfl, by decide +kernel, by decide +kernel⟩
abbrev s_law_cell_at : Stmt := top 123
theorem sc_law_cell_at : FnScope ["_law_script", "_law_k"] ["_law_script", "_law_k"] (defScope s_law_cell_at) := ⟨rfl, rfl, rfl, by decide +kernel, rfl, by decide +kernel, by decide +kernel⟩
abbrev s_law_divisor : Stmt := top 124
theorem sc_law_divisor : FnScope ["_law_one", "_law_other"] ["_law_one", "_law_other"] (defScope s_law_divisor) := ⟨rfl, rfl, rfl, by decide +kernel, rfl, by decide +kernel, by decide +kernel⟩
abbrev s_law_low : Stmt := top 125
theorem sc_law_low : FnScope ["_law_top", "_law_bottom", "_law_part"] ["_law_top", "_law_bottom"] (defScope s_law_low) := ⟨rfl, rfl, rfl, by decide +kernel, rfl, by decide +kernel, by decide +kernel⟩
abbrev s_law_odd_by : Stmt := top 126
theorem sc_law_odd_by : FnScope ["_law_cell", "_law_many", "_law_some", "_law_one", "_law_text", "_law_at"] ["_law_cell"] (defScope s_law_odd_by) := ⟨rfl, rfl, rfl, by decide +kernel, rfl, by decide +kernel, by decide +kernel⟩
abbrev s_law_door : Stmt := top 127
theorem sc_law_door : FnScope ["_law_desk", "_law_door_here", "_law_thing", "_law_word"] ["_law_desk", "_law_door_here", "_law_thing", "_law_word"] (defScope s_law_door) := ⟨rfl, rfl, rfl, by decide +kernel, rfl, by decide +kernel, by decide +kernel⟩
abbrev s_law_refused : Stmt := top 128
theorem sc_law_refused : FnScope ["_law_desk", "_law_door_here", "_law_thing", "_law_word", "e"] ["_law_desk", "_law_door_here", "_law_thing", "_law_word"] (defScope s_law_refused) := ⟨rfl, rfl, rfl, by decide +kernel, rfl, by decide +kernel, by decide +kernel⟩
abbrev s_law : Stmt := top 129
theorem sc_law : FnScope ["_law_script", "_law_cell", "_law_odd", "_law_thing", "_law_desk", "_law_door_here"] ["_law_script"] (defScope s_law) := ⟨rfl, rfl, rfl, by decide +kernel, rfl, by decide +kernel, by decide +kernel⟩
theorem if_go {c : TT} {a b : TS} {D : Ends} {σ : St} {H : Hp} (h : ∀ A : St → Hp → Prop, A = a D → ∀ B : St → Hp → Prop, B = b D → c σ H fun x H1 => if x = true then A σ H1 else B σ H1) : tIfS c a b D σ H := h _ rfl _ rfl
theorem seq_go {a b : TS} {D : Ends} {σ : St} {H : Hp} (h : ∀ B : St → Hp → Prop, B = b D → a { D with nx := B } σ H) : tSeq a b D σ H := h _ rfl
def isW : V → Bool
 | .int _ => true
 | _ => false
def Th0 (H : Hp) (x : V) : Prop := ∃ t, kindV H x = some t
def sp_whole : Sp := fun vs H Q _ => ∃ x, vs = [x] ∧ Th0 H x ∧ Q (.bl (isW x)) H
def sp_gcd : Sp := fun vs H Q _ => ∃ a b : Int, vs = [.int a, .int b] ∧ Q (.int (Int.gcd a b)) H
def sp_cell (K : PySem.W.Frag) : Sp := fun vs H Q _ => ∃ (a : Addr) (ns : List Int) (k : Nat), vs = [.ref a, .int k] ∧ SqL K H a (ns.map V.int) ∧ Q (.int (cellOf ns k)) H
section
variable {P : Program} {w : World} {K : PySem.W.Frag} {mg : Str → Option Value} {base : Heap} {f : Addr} {fd : FuncData}
theorem isW_kind {H : Hp} {x : V} {t : String} (e : kindV H x = some t) : (isA t "int" && !isA t "bool") = isW x := by
 unfold kindV at e
 split at e
 ·cases e; rfl
 ·cases e; rfl
 ·cases e; rfl
 ·cases e; rfl
 ·split at e
  ·cases e; rfl
  ·cases e; rfl
  ·cases e; rfl
  ·cases e
 ·cases e
theorem ok_is_whole (F : Fun K "is_whole" "is_whole" s_is_whole f fd) (n_isinstance : mg "isinstance" = none) (n_int : mg "int" = none) (n_bool : mg "bool" = none) :
  FnOk P w K mg base CX0 1 f fd ["thing"] sp_whole := by
 refine okQ F sc_is_whole (fun vs H Q E h => ?_) (fun cdv A outer s H vs Q E hr h => ?_)
 ·obtain ⟨x, rfl, _⟩ := h; rfl
 obtain ⟨x, rfl, ⟨t, ht⟩, q⟩ := h
 refine ⟨_, (b_one (s_ret (q_and (q_inst rfl n_isinstance (a_c (q_v 0) (a_c (q_ty rfl n_int rfl) a_nil))) (q_one (q_not (q_inst rfl n_isinstance (a_c (q_v 0) (a_c (q_ty rfl n_bool rfl) a_nil)))))))), ?_⟩
 rw [show start ["thing"] [x] = [some (x)] from rfl]
 rw [← isW_kind ht] at q
 refine ⟨_, rfl, x, "int", t, rfl, ht, by decide, _, rfl, ?_⟩
 refine ite2 (fun c => ?_) (fun c => ?_)
 ·refine ⟨_, rfl, x, "bool", t, rfl, ht, by decide, _, rfl, ?_⟩
  rw [c] at q
  exact q
 ·rw [Bool.eq_false_iff.mpr c] at q
  exact q
def Pg (a b : Int) (H : Hp) (σ : St) (H' : Hp) : Prop := ∃ (l m : Int) (r : Option V), σ = [some (.int a), some (.int b), some (.int l), some (.int m), r] ∧ H' = H ∧ 0 ≤ l ∧ 0 ≤ m ∧ Int.gcd l m = Int.gcd a b
theorem ok_gcd (F : Fun K "greatest_divisor" "greatest_divisor" s_greatest_divisor f fd) (n_abs : mg "abs" = none) :
  FnOk P w K mg base CX0 1 f fd ["one", "other"] sp_gcd := by
 refine okQ F sc_greatest_divisor (fun vs H Q E h => ?_) (fun cdv A outer s H vs Q E hr h => ?_)
 ·obtain ⟨a, b, rfl, _⟩ := h; rfl
 obtain ⟨a, b, rfl, q⟩ := h
 refine ⟨_, (b_cons (s_set 2 sc_greatest_divisor.nd (q_abs rfl n_abs (a_c (q_v 0) a_nil)))
   (b_cons (s_set 3 sc_greatest_divisor.nd (q_abs rfl n_abs (a_c (q_v 1) a_nil)))
   (b_cons (s_while PassesOwn.never (t_ne (q_v 3) q_int) (b_cons (s_set 4 sc_greatest_divisor.nd (q_mod (q_v 2) (q_v 3)))
   (b_cons (s_set 2 sc_greatest_divisor.nd (q_v 3))
   (b_one (s_set 3 sc_greatest_divisor.nd (q_v 4))))))
   (b_one (s_ret (q_v 2)))))), ?_⟩
 rw [show start ["one", "other", "larger", "smaller", "rest"] [.int a, .int b] = [some (.int a), some (.int b), none, none, none] from rfl]
 walk_at "rd"
 simp only [abs_ite]
 refine while_w (Pg a b H) (fun σ _ => (slotI σ 3).toNat) ⟨_, _, none, rfl, rfl, by omega, by omega, gcd_abs a b⟩ ?_
 rintro σ H' ⟨l, m, r, rfl, rfl, hl, hm, hg⟩
 walk_at "rd"
 refine ite2 (fun c => ?_) (fun c => ?_)
 ·have hm' : 0 < m := by omega
  refine ⟨_, fun σ' H' z => z, hm', _, ?_, rfl, m, l % m, some (.int (l % m)), rfl, rfl, hm, Int.emod_nonneg _ (by omega), ?_⟩
  ·exact emod_lt_nat hm'
  ·rw [gcd_turn]; exact hg
 ·have e : m = 0 := by omega
  subst e
  have e2 : (Int.gcd a b : Int) = l := by rw [← hg]; simp; omega
  rw [e2] at q
  exact q
theorem ok_cell (F : Fun K "_law_cell_at" "_law_cell_at" s_law_cell_at f fd) (n_len : mg "len" = none) :
  FnOk P w K mg base CX0 1 f fd ["_law_script", "_law_k"] (sp_cell K) := by
 refine okQ F sc_law_cell_at (fun vs H Q E h => ?_) (fun cdv A outer s H vs Q E hr h => ?_)
 ·obtain ⟨a, ns, k, rfl, _⟩ := h; rfl
 obtain ⟨a, ns, k, rfl, hS, q⟩ := h
 refine ⟨_, (b_cons (s_if (t_lt (q_v 1) (q_lenS rfl n_len (a_c (q_v 0) a_nil))) (b_one (s_ret (q_ixS (q_v 0) (q_v 1)))) b_nil)
   (b_one (s_ret (q_add (q_mul q_int (q_v 1)) q_int)))), ?_⟩
 rw [show start ["_law_script", "_law_k"] [.ref a, .int k] = [some (.ref a), some (.int k)] from rfl]
 walk_at "rd"
 refine ⟨_, .inl hS, ?_⟩
 rw [List.length_map]
 refine ite2 (fun c => ?_) (fun c => ?_)
 ·exact ⟨_, hS, _, cell_in (by omega), q⟩
 ·rw [cell_out (by omega)] at q
  exact q
end
def RatV (H : Hp) (x : V) (q : Rat) : Prop := ∃ p, x = .ref p ∧ H p = some (.tup [.int q.num, .int (q.den : Int)])
theorem RatV.same {H H' : Hp} {x : V} {q : Rat} (h : RatV H x q) (s : Same H H') : RatV H' x q := by
 obtain ⟨p, e, h⟩ := h
 exact ⟨p, e, s _ _ h⟩
def Big (b : Int) : Prop := b.natAbs < 2 ^ 8000
theorem Big.of {b : Int} {n : Nat} (h : b.natAbs < 2 ^ n) (hn : n ≤ 8000) : Big b := pow_mono h hn
theorem low_ratio {t b : Int} (hb : 0 < b) : t.fdiv (Int.gcd t b : Int) = (Rat.divInt t b).num ∧ b.fdiv (Int.gcd t b : Int) = ((Rat.divInt t b).den : Int) := by
 have e : sgcd t b = (Int.gcd t b : Int) := by unfold sgcd; rw [if_neg (by omega)]
 have h := ratio_parts (t := t) (b := b) (by omega)
 rw [← e, fdiv_of_dvd (sgcd_dvd_left t b), fdiv_of_dvd (sgcd_dvd_right t b)]
 exact h
def sp_lowQ : Sp := fun vs H Q _ => ∃ t b : Int, vs = [.int t, .int b] ∧ Big b ∧ 0 < b ∧ ∀ r H', Same H H' → RatV H' r (Rat.divInt t b) → Q r H'
theorem eqd_rat {H : Hp} {x y : V} {q : Rat} (hx : RatV H x q) (hy : RatV H y q) : ∃ p c, x = .ref p ∧ y = .ref c ∧ EqD H x y true 1 := by
 obtain ⟨p, rfl, hp⟩ := hx
 obtain ⟨c, rfl, hc⟩ := hy
 refine ⟨p, c, rfl, rfl, ?_⟩
 have h := EqD.tup (e := fun _ => true) (n := 0) hp hc fun j x y h1 h2 => by
  rw [h1] at h2
  cases h2
  match j, h1 with
  | 0, h1 => cases h1; have z := EqD.flat (H := H) (x := .int q.num) (y := .int q.num) rfl rfl; rw [eqV_refl rfl] at z; exact z
  | 1, h1 => cases h1; have z := EqD.flat (H := H) (x := .int (q.den : Int)) (y := .int (q.den : Int)) rfl rfl; rw [eqV_refl rfl] at z; exact z
 exact h
def Thing (H : Hp) (x : V) : Prop := Th0 H x ∧ ∀ a xs, x = .ref a → H a = some (.tup xs) → ∀ y ∈ xs, Th0 H y
def frV : V → V → Bool
 | .int t, .int b => decide (1 ≤ b) && decide (Int.gcd t b = 1)
 | _, _ => false
def isFr (H : Hp) : V → Bool
 | .ref a => match H a with
  | some (.tup [u, v]) => frV u v
  | _ => false
 | _ => false
theorem frV_ii (i j : Int) : frV (.int i) (.int j) = (decide (1 ≤ j) && decide (Int.gcd i j = 1)) := rfl
theorem w_or_int (u : V) : isW u = false ∨ ∃ i, u = .int i := by
 cases u
 case int i => exact .inr ⟨i, rfl⟩
 all_goals exact .inl rfl
theorem frV_l {u v : V} (h : isW u = false) : frV u v = false := by
 cases u
 case int i => cases h
 all_goals cases v <;> rfl
theorem frV_r {u v : V} (h : isW v = false) : frV u v = false := by
 cases v
 case int i => cases h
 all_goals cases u <;> rfl
def sp_fr : Sp := fun vs H Q _ => ∃ x, vs = [x] ∧ Thing H x ∧ Q (.bl (isFr H x)) H
section
variable {P : Program} {w : World} {K : PySem.W.Frag} {mg : Str → Option Value} {base : Heap} {f : Addr} {fd : FuncData}
theorem th0_same {H H' : Hp} {x : V} (hs : Same H H') (h : Th0 H x) : Th0 H' x := by
 obtain ⟨t, e⟩ := h
 refine ⟨t, ?_⟩
 unfold kindV at e ⊢
 split at e
 ·exact e
 ·exact e
 ·exact e
 ·exact e
 ·split at e
  ·rename_i q; rw [hs _ _ q]; exact e
  ·rename_i q; rw [hs _ _ q]; exact e
  ·rename_i q; rw [hs _ _ q]; exact e
  ·cases e
 ·cases e
theorem th_int {H : Hp} (i : Int) : Thing H (.int i) := ⟨⟨"int", rfl⟩, fun _ _ e => nomatch e⟩
theorem th_lst {H : Hp} {a : Addr} {xs : List V} (h : H a = some (.lst xs)) : Thing H (.ref a) := ⟨⟨"list", by unfold kindV; dsimp only; rw [h]⟩, fun b ys e1 e2 => by cases e1; rw [h] at e2; cases e2⟩
theorem th_tup {H : Hp} {a : Addr} {xs : List V} (h : H a = some (.tup xs)) (hx : ∀ x ∈ xs, Th0 H x) : Thing H (.ref a) :=
 ⟨⟨"tuple", by unfold kindV; dsimp only; rw [h]⟩, fun b ys e1 e2 => by cases e1; rw [h] at e2; cases e2; exact hx⟩
theorem th_pair {H : Hp} {a : Addr} {x y : V} (h : H a = some (.tup [x, y])) (hx : Th0 H x) (hy : Th0 H y) : Thing H (.ref a) := th_tup h (by
 intro z hz
 simp only [List.mem_cons, List.not_mem_nil, or_false] at hz
 rcases hz with rfl | rfl
 ·exact hx
 ·exact hy)
theorem thing_cases {H : Hp} {x : V} (h : Thing H x) : (∃ a u v, x = .ref a ∧ H a = some (.tup [u, v]) ∧ Th0 H u ∧ Th0 H v) ∨
  (∃ a xs, x = .ref a ∧ H a = some (.tup xs) ∧ xs.length ≠ 2 ∧ isFr H x = false) ∨ (∃ t, kindV H x = some t ∧ isA t "tuple" = false ∧ isFr H x = false) := by
 obtain ⟨⟨t, e⟩, h2⟩ := h
 have e0 := e
 unfold kindV at e
 split at e
 ·cases e; exact .inr (.inr ⟨_, e0, by decide, rfl⟩)
 ·cases e; exact .inr (.inr ⟨_, e0, by decide, rfl⟩)
 ·cases e; exact .inr (.inr ⟨_, e0, by decide, rfl⟩)
 ·cases e; exact .inr (.inr ⟨_, e0, by decide, rfl⟩)
 ·rename_i a
  split at e
  ·rename_i q; cases e; exact .inr (.inr ⟨_, e0, by decide, by unfold isFr; dsimp only; rw [q]⟩)
  ·rename_i xs q
   match xs, q with
   | [u, v], q => exact .inl ⟨a, u, v, rfl, q, h2 a _ rfl q u (by simp), h2 a _ rfl q v (by simp)⟩
   | [], q => exact .inr (.inl ⟨a, _, rfl, q, by simp, by simp only [isFr, q]⟩)
   | [_], q => exact .inr (.inl ⟨a, _, rfl, q, by simp, by simp only [isFr, q]⟩)
   | _ :: _ :: _ :: _, q => exact .inr (.inl ⟨a, _, rfl, q, by simp, by simp only [isFr, q]⟩)
  ·rename_i q; cases e; exact .inr (.inr ⟨_, e0, by decide, by unfold isFr; dsimp only; rw [q]⟩)
  ·cases e
 ·cases e
theorem fr_pair {H : Hp} {a : Addr} {u v : V} (h : H a = some (.tup [u, v])) : isFr H (.ref a) = frV u v := by
 unfold isFr
 dsimp only
 rw [h]
theorem ok_is_ratio (F : Fun K "is_ratio" "is_ratio" s_is_ratio f fd) (n_isinstance : mg "isinstance" = none) (n_tuple : mg "tuple" = none) (n_len : mg "len" = none)
  (F_is_whole : Fn P w K mg base CX0 1 "is_whole" ["thing"] sp_whole) (F_greatest_divisor : Fn P w K mg base CX0 1 "greatest_divisor" ["one", "other"] sp_gcd) :
  FnOk P w K mg base CX0 2 f fd ["thing"] sp_fr := by
 refine okQ F sc_is_ratio (fun vs H Q E h => ?_) (fun cdv A outer s H vs Q E hr h => ?_)
 ·obtain ⟨x, rfl, _⟩ := h; rfl
 obtain ⟨x, rfl, hx, q⟩ := h
 refine ⟨_, (b_cons (s_if (t_w (w_or (t_not (t_val (q_inst rfl n_isinstance (a_c (q_v 0) (a_c (q_ty rfl n_tuple rfl) a_nil))))) (w_or1 (t_ne (q_len rfl n_len (a_c (q_v 0) a_nil)) q_int)))) (b_one (s_ret q_bl)) b_nil)
   (b_cons (s_set 1 sc_is_ratio.nd (q_ixT (q_v 0) q_int))
   (b_cons (s_set 2 sc_is_ratio.nd (q_ixT (q_v 0) q_int))
   (b_cons (s_if (t_w (w_or (t_not (t_val (q_fn F_is_whole hr (by decide) rfl (a_c (q_v 1) a_nil)))) (w_or1 (t_not (t_val (q_fn F_is_whole hr (by decide) rfl (a_c (q_v 2) a_nil))))))) (b_one (s_ret q_bl)) b_nil)
   (b_one (s_ret (q_and (q_ge (q_v 2) q_int) (q_one (q_eq (q_fn F_greatest_divisor hr (by decide) rfl (a_c (q_v 1) (a_c (q_v 2) a_nil))) q_int))))))))), ?_⟩
 rw [show start ["thing", "top", "bottom"] [x] = [some (x), none, none] from rfl]
 rcases thing_cases hx with ⟨a, u, v, rfl, ha, hu, hv⟩ | ⟨a, xs, rfl, ha, hl, hf⟩ | ⟨t, ht, hn, hf⟩
 ·rw [fr_pair ha] at q
  walk_at "rd"
  simp only [kind_tup ha, ha, sp_whole, sp_gcd]
  walk_at "rd"
  rw [if_neg (by decide)]
  refine ⟨hu, ?_⟩
  rcases w_or_int u with w1 | ⟨i, rfl⟩
  ·rw [frV_l w1] at q
   rw [if_pos w1]
   exact q
  rw [if_neg (by simp [isW])]
  refine ⟨hv, ?_⟩
  rcases w_or_int v with w2 | ⟨j, rfl⟩
  ·rw [frV_r w2] at q
   rw [if_pos w2]
   exact q
  rw [if_neg (by simp [isW])]
  walk_at "rd"
  rw [frV_ii] at q
  refine ite2 (fun c => ?_) (fun c => ?_)
  ·rw [decide_eq_true c, Bool.true_and] at q
   have e : decide ((Int.gcd i j : Int) = 1) = decide (Int.gcd i j = 1) := decide_eq_decide.mpr (by omega)
   rw [e]
   exact q
  ·rw [decide_eq_false c, Bool.false_and] at q
   exact q
 ·rw [hf] at q
  walk_at "rd"
  simp only [kind_tup ha, ha]
  walk_at "rd"
  rw [if_pos (by omega)]
  exact q
 ·rw [hf] at q
  walk_at "rd"
  simp only [ht]
  walk_at "rd"
  rw [if_pos hn]
  exact q
end
section
variable {P : Program} {w : World} {K : PySem.W.Frag} {mg : Str → Option Value} {base : Heap} {f : Addr} {fd : FuncData}
def RoadV (H : Hp) (x : V) (r : Nat × Rat) : Prop := ∃ p y, x = .ref p ∧ H p = some (.tup [.int r.1, y]) ∧ RatV H y r.2
def RoadsV (H : Hp) (xs : List V) (rs : List (Nat × Rat)) : Prop := xs.length = rs.length ∧ ∀ (i : Nat) x r, xs[i]? = some x → rs[i]? = some r → RoadV H x r
def TreeOk (rs : List (Nat × Rat)) : Prop := ∃ rank : Nat → Nat, rank 0 = 0 ∧ (∀ v, rank v ≤ rs.length) ∧ ∀ (k : Nat) r, rs[k]? = some r → r.1 ≤ rs.length ∧ rank r.1 < rank (k + 1)
def intL (lo : Int) (n : Nat) : List Int := (List.range n).map fun k : Nat => lo + (k : Int)
def Pr (H0 : Hp) (a p pn : Addr) (m c n : Int) (b : Bool) (zs : List V) (i : Nat) (σ : St) (H : Hp) : Prop := ∃ (o1 o2 o3 : Option V) (ts : List Int), σ = [some (.ref a), some (.int m), some (.int c), some (.int n), some (.bl b), some (.ref p), o1, o2, o3, none, none, none] ∧
 Same H0 H ∧ H p = some (.lst (ts.map V.int)) ∧ H pn = some (.lst zs) ∧ ts.Perm (intL 1 n.toNat)
theorem RoadV.same {H H' : Hp} {x : V} {r : Nat × Rat} (h : RoadV H x r) (s : Same H H') : RoadV H' x r := let ⟨p, y, e, h1, h2⟩ := h; ⟨p, y, e, s _ _ h1, h2.same s⟩
theorem cxK {CX : CXT} {N : List Str} {qual : Str} {scope : Scope} {cd : Value} {A : Around} {outer : List Env} {s : Shared} {H : Hp} {E : XK} : (cxOf CX P w K mg base N qual scope f cd A outer s H E).K = K := rfl
inductive WayR (rs : List (Nat × Rat)) : Nat → List Nat → Prop where
 | nil : WayR rs 0 []
 | cons {k : Nat} {r : Nat × Rat} {w : List Nat} (h : rs[k]? = some r) (hw : WayR rs r.1 w) : WayR rs (k + 1) ((k + 1) :: w)
theorem WayR.uniq {rs : List (Nat × Rat)} {k : Nat} {w : List Nat} (h : WayR rs k w) : ∀ {w' : List Nat}, WayR rs k w' → w' = w := by
 induction h with
 | nil => intro w' h'; cases h'; rfl
 | cons h _ ih =>
  intro w' h'
  cases h' with
  | cons h2 hw2 =>
   rw [h] at h2
   cases h2
   rw [ih hw2]
theorem way_some {rs : List (Nat × Rat)} (T : TreeOk rs) {k : Nat} (hk : k ≤ rs.length) : ∃ w, WayR rs k w ∧ w.length ≤ rs.length := by
 obtain ⟨rank, r0, hb, hr⟩ := T
 have key : ∀ m k, k ≤ rs.length → rank k ≤ m → ∃ w, WayR rs k w ∧ w.length ≤ rank k := by
  intro m
  induction m with
  | zero =>
   intro k hk hm
   cases k with
   | zero => exact ⟨[], .nil, Nat.zero_le _⟩
   | succ j =>
    have h2 := (hr j _ (List.getElem?_eq_getElem (l := rs) (i := j) (by omega))).2
    omega
  | succ m ih =>
   intro k hk hm
   cases k with
   | zero => exact ⟨[], .nil, Nat.zero_le _⟩
   | succ j =>
    have e := List.getElem?_eq_getElem (l := rs) (i := j) (by omega)
    obtain ⟨h1, h2⟩ := hr j _ e
    obtain ⟨w, hw, hl⟩ := ih rs[j].1 h1 (by omega)
    exact ⟨(j + 1) :: w, .cons e hw, by simp; omega⟩
 obtain ⟨w, hw, hl⟩ := key _ k hk (Nat.le_refl _)
 exact ⟨w, hw, Nat.le_trans hl (hb k)⟩
theorem WayR.mem {rs : List (Nat × Rat)} {k : Nat} {w : List Nat} (h : WayR rs k w) : ∀ x ∈ w, 1 ≤ x ∧ x ≤ rs.length := by
 induction h with
 | nil => intro x hx; cases hx
 | cons h _ ih =>
  intro x hx
  rcases List.mem_cons.mp hx with z | z
  ·have := (List.getElem?_eq_some_iff.mp h).1
   omega
  ·exact ih x z
def natV (w : List Nat) : List V := w.map fun k : Nat => V.int (k : Int)
end
def PrP (H : Hp) (x : V) : Prop := ∃ a t b, x = .ref a ∧ H a = some (.tup [.int t, .int b]) ∧ 1 ≤ b ∧ Int.gcd t b = 1 ∧ 0 ≤ t
def RdP (H : Hp) (x : V) (n : Int) : Prop := ∃ a t y, x = .ref a ∧ H a = some (.tup [.int t, y]) ∧ 0 ≤ t ∧ t < n ∧ PrP H y
def Thing2 (H : Hp) (x : V) : Prop := Th0 H x ∧ ∀ a xs, x = .ref a → H a = some (.tup xs) → ∀ y ∈ xs, Thing H y
def sp_isprice : Sp := fun vs H Q _ => ∃ x, vs = [x] ∧ Thing H x ∧ ∀ r : Bool, (r = true ↔ PrP H x) → Q (.bl r) H
def sp_isroad : Sp := fun vs H Q _ => ∃ x n, vs = [x, .int n] ∧ Thing2 H x ∧ ∀ r : Bool, (r = true ↔ RdP H x n) → Q (.bl r) H
theorem fr_inv {H : Hp} {x : V} (h : isFr H x = true) : ∃ a t b, x = .ref a ∧ H a = some (.tup [.int t, .int b]) ∧ 1 ≤ b ∧ Int.gcd t b = 1 := by
 unfold isFr at h
 split at h
 ·rename_i a
  split at h
  ·rename_i u v e
   rcases w_or_int u with w1 | ⟨i, rfl⟩
   ·rw [frV_l w1] at h; cases h
   rcases w_or_int v with w1 | ⟨j, rfl⟩
   ·rw [frV_r w1] at h; cases h
   rw [frV_ii, Bool.and_eq_true, decide_eq_true_eq, decide_eq_true_eq] at h
   exact ⟨a, i, j, rfl, e, h.1, h.2⟩
  ·cases h
 ·cases h
theorem fr_of {H : Hp} {a : Addr} {t b : Int} (e : H a = some (.tup [.int t, .int b])) (h1 : 1 ≤ b) (h2 : Int.gcd t b = 1) : isFr H (.ref a) = true := by
 rw [fr_pair e, frV_ii, decide_eq_true h1, decide_eq_true h2]; rfl
section
variable {P : Program} {w : World} {K : PySem.W.Frag} {mg : Str → Option Value} {base : Heap} {f : Addr} {fd : FuncData}
theorem ok_is_price (F : Fun K "is_price" "is_price" s_is_price f fd) (F_is_ratio : Fn P w K mg base CX0 2 "is_ratio" ["thing"] sp_fr) : FnOk P w K mg base CX0 3 f fd ["thing"] sp_isprice := by
 refine okQ F sc_is_price (fun vs H Q E h => ?_) (fun cdv A outer s H vs Q E hr h => ?_)
 ·obtain ⟨x, rfl, _⟩ := h; rfl
 obtain ⟨x, rfl, hx, q⟩ := h
 refine ⟨_, (b_one (s_ret (q_and (q_fn F_is_ratio hr (by decide) rfl (a_c (q_v 0) a_nil)) (q_one (q_ge (q_ixT (q_v 0) q_int) q_int))))), ?_⟩
 rw [show start ["thing"] [x] = [some (x)] from rfl]
 walk_at "rd"
 simp only [sp_fr]
 walk_at "rd"
 refine ⟨hx, ?_⟩
 refine ite2 (fun c => ?_) (fun c => ?_)
 ·obtain ⟨a, t, b, rfl, e, h1, h2⟩ := fr_inv c
  walk_at "rd"
  simp only [e]
  walk_at "rd"
  refine q _ ?_
  rw [decide_eq_true_eq]
  exact ⟨fun h => ⟨a, t, b, rfl, e, h1, h2, h⟩, fun ⟨a', t', b', e1, e2, _, _, h⟩ => by cases e1; rw [e] at e2; cases e2; exact h⟩
 ·refine q _ ?_
  refine ⟨(fun z => nomatch z), fun ⟨a', t', b', e1, e2, h1, h2, _⟩ => absurd ?_ c⟩
  subst e1
  exact fr_of e2 h1 h2
theorem thing2_cases {H : Hp} {x : V} (h : Thing2 H x) : (∃ a u v, x = .ref a ∧ H a = some (.tup [u, v]) ∧ Thing H u ∧ Thing H v) ∨ (∃ a xs, x = .ref a ∧ H a = some (.tup xs) ∧ xs.length ≠ 2) ∨ (∃ t, kindV H x = some t ∧ isA t "tuple" = false ∧ ∀ a xs, x = .ref a → H a ≠ some (.tup xs)) := by
 obtain ⟨⟨t, e⟩, h2⟩ := h
 have e0 := e
 unfold kindV at e
 split at e
 ·cases e; exact .inr (.inr ⟨_, e0, by decide, fun _ _ z => nomatch z⟩)
 ·cases e; exact .inr (.inr ⟨_, e0, by decide, fun _ _ z => nomatch z⟩)
 ·cases e; exact .inr (.inr ⟨_, e0, by decide, fun _ _ z => nomatch z⟩)
 ·cases e; exact .inr (.inr ⟨_, e0, by decide, fun _ _ z => nomatch z⟩)
 ·rename_i a
  split at e
  ·rename_i q; cases e; exact .inr (.inr ⟨_, e0, by decide, fun _ _ z => by cases z; rw [q]; intro z; cases z⟩)
  ·rename_i xs q
   match xs, q with
   | [u, v], q => exact .inl ⟨a, u, v, rfl, q, h2 a _ rfl q u (by simp), h2 a _ rfl q v (by simp)⟩
   | [], q => exact .inr (.inl ⟨a, _, rfl, q, by simp⟩)
   | [_], q => exact .inr (.inl ⟨a, _, rfl, q, by simp⟩)
   | _ :: _ :: _ :: _, q => exact .inr (.inl ⟨a, _, rfl, q, by simp⟩)
  ·rename_i q; cases e; exact .inr (.inr ⟨_, e0, by decide, fun _ _ z => by cases z; rw [q]; intro z; cases z⟩)
  ·cases e
 ·cases e
theorem ok_is_road (F : Fun K "is_road" "is_road" s_is_road f fd) (n_isinstance : mg "isinstance" = none) (n_tuple : mg "tuple" = none) (n_len : mg "len" = none) (F_is_whole : Fn P w K mg base CX0 1 "is_whole" ["thing"] sp_whole)
  (F_is_price : Fn P w K mg base CX0 3 "is_price" ["thing"] sp_isprice) : FnOk P w K mg base CX0 4 f fd ["thing", "many"] sp_isroad := by
 refine okQ F sc_is_road (fun vs H Q E h => ?_) (fun cdv A outer s H vs Q E hr h => ?_)
 ·obtain ⟨x, n, rfl, _⟩ := h; rfl
 obtain ⟨x, n, rfl, hx, q⟩ := h
 refine ⟨_, (b_cons (s_if (t_w (w_or (t_not (t_val (q_inst rfl n_isinstance (a_c (q_v 0) (a_c (q_ty rfl n_tuple rfl) a_nil))))) (w_or1 (t_ne (q_len rfl n_len (a_c (q_v 0) a_nil)) q_int)))) (b_one (s_ret q_bl)) b_nil)
   (b_cons (s_set 2 sc_is_road.nd (q_ixT (q_v 0) q_int))
   (b_one (s_ret (q_and (q_fn F_is_whole hr (by decide) rfl (a_c (q_v 2) a_nil)) (q_and (q_leLt q_int (q_v 2) (q_v 1)) (q_one (q_fn F_is_price hr (by decide) rfl (a_c (q_ixT (q_v 0) q_int) a_nil))))))))), ?_⟩
 rw [show start ["thing", "many", "to"] [x, .int n] = [some (x), some (.int n), none] from rfl]
 have no : ¬ RdP H x n → Q (.bl false) H := fun h => q false ⟨(fun z => nomatch z), fun z => absurd z h⟩
 rcases thing2_cases hx with ⟨a, u, v, rfl, ha, hu, hv⟩ | ⟨a, xs, rfl, ha, hl⟩ | ⟨t, ht, hn, hf⟩
 ·walk_at "rd"
  simp only [kind_tup ha, ha, sp_whole, sp_isprice, tChain]
  walk_at "rd"
  rw [if_neg (by decide)]
  refine ⟨hu.1, ?_⟩
  rcases w_or_int u with w1 | ⟨i, rfl⟩
  ·rw [if_neg (by rw [w1]; decide)]
   exact no fun ⟨a', t, y, e1, e2, _⟩ => by cases e1; rw [ha] at e2; cases e2; cases w1
  rw [if_pos (show isW (V.int i) = true from rfl)]
  walk_at "rd"
  have inv : ∀ t y, H a = some (.tup [.int t, y]) → t = i ∧ y = v := fun t y e2 => by rw [ha] at e2; cases e2; exact ⟨rfl, rfl⟩
  refine ite2 (fun c1 => ?_) (fun c1 => ?_)
  ·refine ite2 (fun c2 => ?_) (fun c2 => ?_)
   ·refine ⟨hv, fun r hr => q r (hr.trans ⟨fun hp => ⟨a, i, v, rfl, ha, c1, c2, hp⟩, fun ⟨a', t, y, e1, e2, _, _, hp⟩ => ?_⟩)⟩
    cases e1
    rw [← (inv _ _ e2).2]
    exact hp
   ·exact no fun ⟨a', t, y, e1, e2, _, h3, _⟩ => by cases e1; rw [(inv _ _ e2).1] at h3; exact c2 h3
  ·exact no fun ⟨a', t, y, e1, e2, h3, _, _⟩ => by cases e1; rw [(inv _ _ e2).1] at h3; exact c1 h3
 ·walk_at "rd"
  simp only [kind_tup ha, ha]
  walk_at "rd"
  rw [if_pos (by omega)]
  exact no fun ⟨a', t, y, e1, e2, _⟩ => by cases e1; rw [ha] at e2; cases e2; exact hl rfl
 ·walk_at "rd"
  simp only [ht]
  walk_at "rd"
  rw [if_pos hn]
  exact no fun ⟨a', t, y, e1, e2, _⟩ => hf _ _ e1 e2
def sp_look : Sp := fun vs H Q _ => ∃ (a : Addr) (xs : List V), vs = [.ref a] ∧ H a = some (.lst xs) ∧ xs.length ≤ 40 ∧ (∀ x ∈ xs, Thing2 H x ∧ RdP H x (xs.length + 1)) ∧ Q .non H
def sp_wayf : Sp := fun vs H Q _ => ∃ (a : Addr) (xs : List V) (rs : List (Nat × Rat)) (k : Nat) (w : List Nat), vs = [.ref a, .int k] ∧ H a = some (.lst xs) ∧ RoadsV H xs rs ∧ WayR rs k w ∧ w.length ≤ rs.length ∧ rs.length ≤ 40 ∧ k ≤ rs.length ∧ (∀ r ∈ rs, r.1 ≤ rs.length) ∧
 ∀ p H', H p = none → Same H H' → H' p = some (.lst (natV w)) → Q (.ref p) H'
end
theorem RatV.keep {H H' : Hp} {x : V} {q : Rat} (h : RatV H x q) (s : ∀ b ys, H b = some (.tup ys) → H' b = some (.tup ys)) : RatV H' x q := let ⟨p, e, h1⟩ := h; ⟨p, e, s _ _ h1⟩
theorem RoadV.keep {H H' : Hp} {x : V} {r : Nat × Rat} (h : RoadV H x r) (s : ∀ b ys, H b = some (.tup ys) → H' b = some (.tup ys)) : RoadV H' x r := let ⟨p, y, e, h1, h2⟩ := h; ⟨p, y, e, s _ _ h1, h2.keep s⟩
theorem RoadsV.keep {H H' : Hp} {xs : List V} {rs : List (Nat × Rat)} (h : RoadsV H xs rs) (s : ∀ b ys, H b = some (.tup ys) → H' b = some (.tup ys)) : RoadsV H' xs rs := ⟨h.1, fun i x r h1 h2 => (h.2 i x r h1 h2).keep s⟩
theorem RoadsV.same {H H' : Hp} {xs : List V} {rs : List (Nat × Rat)} (h : RoadsV H xs rs) (s : Same H H') : RoadsV H' xs rs := h.keep fun b ys => s b _
def WaysV (H : Hp) (ws : List V) (rs : List (Nat × Rat)) : Prop := ws.length = rs.length + 1 ∧ ∀ (k : Nat) x, ws[k]? = some x → ∃ p w, x = .ref p ∧ H p = some (.lst (natV w)) ∧ WayR rs k w ∧ w.length ≤ rs.length
def TreeV (C : Addr) (H : Hp) (x : V) (rs : List (Nat × Rat)) : Prop := ∃ a dx la wa ls ws, x = .ref a ∧ H a = some (.ins C dx [("lanes", .ref la), ("ways", .ref wa)]) ∧ H la = some (.lst ls) ∧ RoadsV H ls rs ∧ H wa = some (.lst ws) ∧ WaysV H ws rs
theorem TreeV.same {C : Addr} {H H' : Hp} {x : V} {rs : List (Nat × Rat)} (h : TreeV C H x rs) (s : Same H H') : TreeV C H' x rs := by
 obtain ⟨a, dx, la, wa, ls, ws, e, h1, h2, h3, h4, h5, h6⟩ := h
 exact ⟨a, dx, la, wa, ls, ws, e, s _ _ h1, s _ _ h2, h3.same s, s _ _ h4, h5, fun k x hx => let ⟨p, w, e, g1, g2⟩ := h6 k x hx; ⟨p, w, e, s _ _ g1, g2⟩⟩
theorem rd_of_road {H : Hp} {x : V} {r : Nat × Rat} {n : Int} (h : RoadV H x r) (h1 : (r.1 : Int) < n) (h2 : 0 ≤ r.2.num) : Thing2 H x ∧ RdP H x n := by
 obtain ⟨p, y, rfl, hp, q, rfl, hq⟩ := h
 have hg : Int.gcd r.2.num (r.2.den : Int) = 1 := by
  show Nat.gcd r.2.num.natAbs (Int.natAbs (r.2.den : Int)) = 1
  rw [Int.natAbs_natCast]
  exact r.2.reduced
 have hd : 1 ≤ (r.2.den : Int) := by have := r.2.den_pos; omega
 refine ⟨⟨⟨"tuple", kind_tup hp⟩, fun a xs e1 e2 y hy => ?_⟩, p, _, _, rfl, hp, by omega, h1, q, _, _, rfl, hq, hd, hg, h2⟩
 cases e1
 rw [hp] at e2
 cases e2
 simp only [List.mem_cons, List.not_mem_nil, or_false] at hy
 rcases hy with rfl | rfl
 ·exact th_int _
 ·exact th_pair hq (th_int _).1 (th_int _).1
section
variable {P : Program} {w : World} {K : PySem.W.Frag} {mg : Str → Option Value} {base : Heap} {f : Addr} {fd : FuncData} {CT CNP : Addr}
def sp_init (C : Addr) : Sp := fun vs H Q _ => ∃ (x dx a : Addr) (xs : List V) (rs : List (Nat × Rat)), vs = [.ref x, .ref a] ∧ H x = some (.ins C dx []) ∧ H a = some (.lst xs) ∧ RoadsV H xs rs ∧ TreeOk rs ∧ rs.length ≤ 40 ∧ (∀ r ∈ rs, 0 ≤ r.2.num) ∧
 ∀ H', (∀ b o, b ≠ x → H b = some o → H' b = some o) → TreeV C H' (.ref x) rs → (∀ l zs, H l = some (.lst zs) → ∀ H'', Same H' H'' → ∀ ys, TreeV C (upd H'' l (.lst ys)) (.ref x) rs) → Q .non H'
theorem ok_init (F : Fun K "__init__" "Tree.__init__" s_Tree___init__ f fd) (n_list : mg "list" = none) (n_len : mg "len" = none) (n_range : mg "range" = none) (cls_Tree : Cls K CT) (nf_lanes : NoAttr K CT "lanes") (nf_ways : NoAttr K CT "ways")
  (F_look_roads : Fn P w K mg base CX0 5 "look_roads" ["thing"] sp_look) (F_way_from : Fn P w K mg base CX0 1 "way_from" ["roads", "k"] sp_wayf) : FnOk P w K mg base CX0 6 f fd ["self", "roads"] (sp_init CT) := by
 refine okQ F sc_Tree___init__ (fun vs H Q E h => ?_) (fun cdv A outer s H vs Q E hr h => ?_)
 ·obtain ⟨x, dx, a, xs, rs, rfl, _⟩ := h; rfl
 obtain ⟨x, dx, a, xs, rs, rfl, hx, ha, hR, hT, hl, hn, q⟩ := h
 refine ⟨_, (b_cons (s_expr (q_fn F_look_roads hr (by decide) rfl (a_c (q_v 1) a_nil)))
   (b_cons (s_fld (q_v 0) (q_list rfl n_list (a_c (q_v 1) a_nil)))
   (b_one (s_fld (q_v 0) (q_comp (blkC ["k"] [1] ["roads"]) (i_rng1 rfl n_range (a_c (q_add (q_len rfl n_len (a_c (q_v 1) a_nil)) q_int) a_nil)) (by exact fun s H fp => (g_name 0 (show List.Nodup (["k", "roads"] : List Str) from by decide +kernel))) (by exact fun s H fp => (q_fn F_way_from hr (by decide) rfl (a_c (q_v 1) (a_c (q_v 0) a_nil))))))))), ?_⟩
 rw [show start ["self", "roads"] [.ref x, .ref a] = [some (.ref x), some (.ref a)] from rfl]
 walk_at "rd"
 simp only [sp_look, rList]
 walk_at "rd"
 refine ⟨xs, ha, by rw [hR.1]; exact hl, fun y hy => ?_, xs, .inl (.of ha), fun l H1 hl1 s1 e1 => ?_⟩
 ·obtain ⟨i, hi⟩ := List.getElem?_of_mem hy
  have hi' : i < rs.length := by rw [← hR.1]; exact (List.getElem?_eq_some_iff.mp hi).1
  obtain ⟨_, _, _, hT2⟩ := hT
  have h2 := hT2 i _ (List.getElem?_eq_getElem hi')
  exact rd_of_road (hR.2 i y _ hi (List.getElem?_eq_getElem hi')) (by rw [hR.1]; omega) (hn _ (List.getElem_mem hi'))
 refine ⟨CT, dx, [], s1 _ _ hx, cls_Tree, nf_lanes, by decide, ?_⟩
 have hax : a ≠ x := ne_of ha hx (by intro z; cases z)
 rw [show putF (Str.ofString "lanes") (.ref l) [] = [(Str.ofString "lanes", V.ref l)] from rfl]
 have k1 : ∀ b o, b ≠ x → H b = some o → upd H1 x (.ins CT dx [(Str.ofString "lanes", V.ref l)]) b = some o := fun b o hb e => by rw [upd_ne hb]; exact s1 _ _ e
 have ha2 : upd H1 x (.ins CT dx [(Str.ofString "lanes", V.ref l)]) a = some (.lst xs) := k1 _ _ hax ha
 have hl2 : upd H1 x (.ins CT dx [(Str.ofString "lanes", V.ref l)]) l = some (.lst xs) := by rw [upd_ne (ne_of e1 (s1 _ _ hx) (by intro z; cases z))]; exact e1
 have hx2 : upd H1 x (.ins CT dx [(Str.ofString "lanes", V.ref l)]) x = some (.ins CT dx [(Str.ofString "lanes", V.ref l)]) := upd_same
 generalize upd H1 x (.ins CT dx [(Str.ofString "lanes", V.ref l)]) = H2 at k1 ha2 hl2 hx2 ⊢
 simp only [tComp, iRng1, cxK]
 walk_at "rd"
 have hxl := hR.1
 have hto : ∀ r ∈ rs, r.1 ≤ rs.length := fun r hr => by
  obtain ⟨_, _, _, g⟩ := id hT
  obtain ⟨i, hi⟩ := List.getElem?_of_mem hr
  exact (g i r hi).1
 refine ⟨xs, .inl ha2, by omega, by omega, ?_⟩
 rw [show capOf [some (V.ref x), some (V.ref a)] [1] = [some (V.ref a)] from rfl]
 have tk : ∀ H3, Same H2 H3 → RoadsV H3 xs rs := fun H3 sm => hR.keep fun b ys e => sm _ _ (k1 b _ (ne_of e hx (by intro z; cases z)) e)
 refine blk_rng (fun acc i ys H' => Same H2 H' ∧ H' acc = some (.lst ys) ∧ ys.length = i ∧ i ≤ 50 ∧ ∀ (k : Nat) y, ys[k]? = some y → ∃ p w, y = .ref p ∧ p ≠ acc ∧ H2 p = none ∧ H' p = some (.lst (natV w)) ∧ WayR rs k w ∧ w.length ≤ rs.length)
  (fun acc H3 hn sm e => ⟨sm, e, rfl, by omega, fun k y hy => by simp at hy⟩) (fun acc i ys H3 ⟨_, e, hl, hi, _⟩ => ⟨e, by omega⟩) (fun acc i ys H3 os hn hi hP ol => ?_) (fun acc ys H3 hn' hP => ?_)
 ·obtain ⟨sm, e, hyl, hi2, hE⟩ := hP
  obtain ⟨o, rfl⟩ : ∃ o, os = [o] := by match os, ol with | [o], _ => exact ⟨o, rfl⟩
  obtain ⟨w, hw, hwl⟩ := way_some hT (k := i) (by omega)
  walk_at "rd"
  refine ⟨[some (.int (i : Int))], rfl, rfl, ?_⟩
  refine ⟨a, xs, rs, i, w, rfl, sm _ _ ha2, tk _ sm, hw, hwl, by omega, by omega, hto, fun p' H4 hp' s4 e4 => ⟨s4 _ _ e, same_upd hn (sm.trans s4), upd_same, by simp [hyl], by omega, fun k y hy => ?_⟩⟩
  by_cases hk : k < ys.length
  ·rw [List.getElem?_append_left hk] at hy
   obtain ⟨p, w, e5, hpa, hpn, e6, e7⟩ := hE k y hy
   exact ⟨p, e5, hpa, hpn, w, by rw [upd_ne hpa]; exact s4 _ _ e6, e7⟩
  ·have hk2 : k = i := by
    have := (List.getElem?_eq_some_iff.mp hy).1
    simp at this; omega
   subst hk2
   rw [List.getElem?_append_right (by omega), hyl] at hy
   have hy' : V.ref p' = y := by simpa using hy
   subst hy'
   have hpa : p' ≠ acc := fun z => by rw [z, e] at hp'; cases hp'
   exact ⟨p', rfl, hpa, sm.free hp', w, by rw [upd_ne hpa]; exact e4, hw, hwl⟩
 ·obtain ⟨sm, e, hyl, hi2, hE⟩ := hP
  have nx : ∀ b ys, H3 b = some (.lst ys) → b ≠ x := fun b ys e => ne_of e (sm _ _ hx2) (by intro z; cases z)
  have gen : ∀ H5 : Hp, H5 x = some (.ins CT dx [("lanes", .ref l), ("ways", .ref acc)]) → H5 l = some (.lst xs) → H5 acc = some (.lst ys) → (∀ p w, H2 p = none → H3 p = some (.lst (natV w)) → H5 p = some (.lst (natV w))) → (∀ b zs, H3 b = some (.tup zs) → H5 b = some (.tup zs)) → TreeV CT H5 (.ref x) rs := by
   intro H5 g1 g2 g3 g4 g5
   refine ⟨x, dx, l, acc, xs, ys, rfl, g1, g2, (tk _ sm).keep g5, g3, by omega, fun k y hy => ?_⟩
   obtain ⟨p, w, e5, _, hpn, e6, e7⟩ := hE k y hy
   exact ⟨p, w, e5, g4 _ _ hpn e6, e7⟩
  refine ⟨CT, dx, _, sm _ _ hx2, cls_Tree, nf_ways, by show (1 : Nat) < 1000; decide, q _ (fun b o hb e => by rw [upd_ne hb]; exact sm _ _ (k1 b o hb e)) ?_ (fun l0 zs h0 H'' s'' us => ?_)⟩
  ·exact gen _ upd_same (by rw [upd_ne (nx _ _ (sm _ _ hl2))]; exact sm _ _ hl2) (by rw [upd_ne (nx _ _ e)]; exact e) (fun p w _ h => by rw [upd_ne (nx _ _ h)]; exact h) (fun b zs h => by rw [upd_ne (ne_of h (sm _ _ hx2) (by intro z; cases z))]; exact h)
  ·have n1 : x ≠ l0 := ne_of hx h0 (by intro z; cases z)
   have h2 : H2 l0 = some (.lst zs) := k1 _ _ (fun z => n1 z.symm) h0
   have h3 : H'' l0 = some (.lst zs) := s'' _ _ (by rw [upd_ne (fun z => n1 z.symm)]; exact sm _ _ h2)
   have keepL : ∀ b ws, b ≠ l0 → H3 b = some (.lst ws) → upd H'' l0 (.lst us) b = some (.lst ws) := fun b ws hb h => by
    rw [upd_ne hb]; exact s'' _ _ (by rw [upd_ne (nx _ _ h)]; exact h)
   have n2 : l ≠ l0 := fun z => by rw [z, h0] at hl1; cases hl1
   have n3 : acc ≠ l0 := fun z => by rw [z, h2] at hn'; cases hn'
   exact gen _ (by rw [upd_ne n1]; exact s'' _ _ upd_same) (keepL _ _ n2 (sm _ _ hl2)) (keepL _ _ n3 e) (fun p w hp h => keepL _ _ (fun z => by rw [z, h2] at hp; cases hp) h)
    (fun b zs' h => by
     have hb : b ≠ l0 := ne_of h (sm _ _ h2) (by intro z; cases z)
     rw [upd_ne hb]; exact s'' _ _ (by rw [upd_ne (ne_of h (sm _ _ hx2) (by intro z; cases z))]; exact h))
end
section
variable {P : Program} {w : World} {K : PySem.W.Frag} {mg : Str → Option Value} {base : Heap} {f : Addr} {fd : FuncData} {CT CNP : Addr}
def sp_roadsM (C : Addr) : Sp := fun vs H Q _ => ∃ x rs, vs = [x] ∧ TreeV C H x rs ∧ ∀ p H' ls, H p = none → Same H H' → H' p = some (.lst ls) → RoadsV H' ls rs → Q (.ref p) H'
theorem ok_roadsM (F : Fun K "roads" "Tree.roads" s_Tree_roads f fd) (n_list : mg "list" = none) (cls_Tree : Cls K CT) (nf_lanes : NoAttr K CT "lanes") : FnOk P w K mg base CX0 1 f fd ["self"] (sp_roadsM CT) := by
 refine okQ F sc_Tree_roads (fun vs H Q E h => ?_) (fun cdv A outer s H vs Q E hr h => ?_)
 ·obtain ⟨x, rs, rfl, _⟩ := h; rfl
 obtain ⟨x, rs, rfl, ⟨a, dx, la, wa, ls, ws, rfl, h1, h2, h3, h4, h5, h6⟩, q⟩ := h
 refine ⟨_, (b_one (s_ret (q_list rfl n_list (a_c (q_fld (q_v 0)) a_nil)))), ?_⟩
 rw [show start ["self"] [.ref a] = [some (.ref a)] from rfl]
 walk_at "rd"
 simp only [rList]
 walk_at "rd"
 exact ⟨CT, dx, _, h1, cls_Tree, nf_lanes, .ref la, rfl, la, rfl, ls, .inl (.of h2), fun l H2 hl s e => q l H2 ls hl s e (h3.same s)⟩
end
theorem eqd_road {H : Hp} {x y : V} {r : Nat × Rat} (hx : RoadV H x r) (hy : RoadV H y r) : EqD H x y true 2 := by
 obtain ⟨p, u, rfl, hp, hu⟩ := hx
 obtain ⟨c, v, rfl, hc, hv⟩ := hy
 obtain ⟨_, _, _, _, d⟩ := eqd_rat hu hv
 have h := EqD.tup (e := fun _ => true) (n := 1) hp hc fun j x y h1 h2 => by
  match j, h1, h2 with
  | 0, h1, h2 =>
   cases h1; cases h2
   have z := EqD.flat (H := H) (x := .int (r.1 : Int)) (y := .int (r.1 : Int)) rfl rfl
   rw [eqV_refl rfl] at z
   exact z.up
  | 1, h1, h2 => cases h1; cases h2; exact d
 exact h
theorem eqd_roads {H : Hp} {a b : Addr} {xs ys : List V} {rs : List (Nat × Rat)} (ha : H a = some (.lst xs)) (hb : H b = some (.lst ys)) (hx : RoadsV H xs rs) (hy : RoadsV H ys rs) : EqD H (.ref a) (.ref b) true 3 := by
 have h := EqD.lst (e := fun _ => true) (n := 2) ha hb (by rw [hx.1, hy.1]) fun j x y h1 h2 => by
  have hj : j < rs.length := by rw [← hx.1]; exact (List.getElem?_eq_some_iff.mp h1).1
  exact eqd_road (hx.2 j x _ h1 (List.getElem?_eq_getElem hj)) (hy.2 j y _ h2 (List.getElem?_eq_getElem hj))
 rw [all_range fun _ _ => rfl] at h
 exact h
def LT (H : Hp) (x : V) : Prop := Th0 H x ∧ ∀ a xs, x = .ref a → H a = some (.lst xs) → xs.length ≤ 1000 ∧ ∀ y ∈ xs, Thing2 H y
def GoodL (H : Hp) (x : V) : Prop := ∃ a xs, x = .ref a ∧ H a = some (.lst xs) ∧ xs.length ≤ 40 ∧ ∀ y ∈ xs, RdP H y ((xs.length : Int) + 1)
theorem list_cases {H : Hp} {x : V} (h : Th0 H x) : (∃ a xs, x = .ref a ∧ H a = some (.lst xs)) ∨ (∃ t, kindV H x = some t ∧ isA t "list" = false ∧ ∀ a xs, x = .ref a → H a ≠ some (.lst xs)) := by
 obtain ⟨t, e⟩ := h
 have e0 := e
 unfold kindV at e
 split at e
 ·cases e; exact .inr ⟨_, e0, by decide, fun _ _ z => nomatch z⟩
 ·cases e; exact .inr ⟨_, e0, by decide, fun _ _ z => nomatch z⟩
 ·cases e; exact .inr ⟨_, e0, by decide, fun _ _ z => nomatch z⟩
 ·cases e; exact .inr ⟨_, e0, by decide, fun _ _ z => nomatch z⟩
 ·rename_i a
  split at e
  ·rename_i xs q; exact .inl ⟨a, xs, rfl, q⟩
  ·rename_i q; cases e; exact .inr ⟨_, e0, by decide, fun _ _ z => by cases z; rw [q]; intro z; cases z⟩
  ·rename_i q; cases e; exact .inr ⟨_, e0, by decide, fun _ _ z => by cases z; rw [q]; intro z; cases z⟩
  ·cases e
 ·cases e
section
variable {P : Program} {w : World} {K : PySem.W.Frag} {mg : Str → Option Value} {base : Heap} {f : Addr} {fd : FuncData} {CT CNP CNT : Addr}
def sp_lookX (CNT : Addr) : Sp := fun vs H Q E => ∃ x, vs = [x] ∧ LT H x ∧ (GoodL H x → Q .non H) ∧ (¬ GoodL H x → E (.ref CNT) none H)
def PlkX (H0 : Hp) (a : Addr) (xs : List V) (i : Nat) (σ : St) (H : Hp) : Prop := ∃ o, σ = [some (.ref a), some (.int ((xs.length : Int) + 1)), o] ∧ H = H0 ∧ ∀ (j : Nat) y, j < i → xs[j]? = some y → RdP H0 y ((xs.length : Int) + 1)
theorem ok_lookX {tk : Tok} (F : FunD K "look_roads" "look_roads" s_look_roads .none f fd) (n_isinstance : mg "isinstance" = none) (n_list : mg "list" = none) (n_len : mg "len" = none) (g_MOST_ROADS : mg "MOST_ROADS" = some (.int 40 tk)) (m_NoTree : mg "NoTree" = some (.ref CNT)) (ec_NoTree : ErrC K CNT)
  (F_is_road : Fn P w K mg base CX0 4 "is_road" ["thing", "many"] sp_isroad) : FnOk P w K mg base (CX1 P w) 5 f fd ["thing"] (sp_lookX CNT) := by
 refine okX F sc_look_roads (fun vs H Q E h => ?_) (fun cdv A outer s H vs Q E hr h => ?_)
 ·obtain ⟨x, rfl, _⟩ := h; rfl
 obtain ⟨x, rfl, ⟨hx0, hx1⟩, q1, q2⟩ := h
 refine ⟨_, (b_cons (s_if (t_not (t_val (q_inst rfl n_isinstance (a_c (q_v 0) (a_c (q_ty rfl n_list rfl) a_nil))))) (b_one (s_raise goes_of m_NoTree ec_NoTree rfl (a_c q_str a_nil))) b_nil)
   (b_cons (s_if (t_gt (q_len rfl n_len (a_c (q_v 0) a_nil)) (q_gint rfl g_MOST_ROADS)) (b_one (s_raise goes_of m_NoTree ec_NoTree rfl (a_c (q_fstr (q_gint rfl g_MOST_ROADS)) a_nil))) b_nil)
   (b_cons (s_set 1 sc_look_roads.nd (q_add (q_len rfl n_len (a_c (q_v 0) a_nil)) q_int))
   (b_one (s_for PassesOwn.leaving (i_list (q_v 0)) (g_name 2 sc_look_roads.nd) (b_one (s_if (t_not (t_val (q_fn F_is_road hr (by decide) rfl (a_c (q_v 2) (a_c (q_v 1) a_nil))))) (b_one (s_raise goes_of m_NoTree ec_NoTree rfl (a_c q_str a_nil))) b_nil))))))), ?_⟩
 rw [show start ["thing", "many", "road"] [x] = [some (x), none, none] from rfl]
 rcases list_cases hx0 with ⟨a, xs, rfl, ha⟩ | ⟨t, ht, hn, hf⟩
 ·have inv : ∀ b ys, V.ref a = .ref b → H b = some (.lst ys) → ys = xs := fun b ys e1 e2 => by cases e1; rw [ha] at e2; cases e2; rfl
  obtain ⟨hxl, hx2⟩ := hx1 a xs rfl ha
  walk_at "rd"
  simp only [tFor_list, kind_lst ha, ha]
  walk_at "rd"
  refine ite2 (fun c => ?_) (fun c => ?_)
  ·refine fun _ => q2 fun ⟨b, ys, e1, e2, hl, _⟩ => ?_
   rw [inv _ _ e1 e2] at hl
   omega
  refine listK_of (PlkX H a xs) ⟨_, rfl, rfl, fun j y hj => absurd hj (Nat.not_lt_zero _)⟩ (fun i σ H' _ ⟨o, _, e, _⟩ => by rw [e]; exact .of ha) (fun i y σ H' hi hP => ?_) (fun σ H' hP => ?_)
  ·obtain ⟨o, rfl, rfl, hj⟩ := hP
   walk_at "rd"
   simp only [sp_isroad]
   walk_at "rd"
   have hm := List.mem_of_getElem? hi
   refine ⟨hx2 y hm, fun r hr => ?_⟩
   cases r with
   | false =>
    rw [if_pos rfl]
    refine q2 fun ⟨b, ys, e1, e2, _, h3⟩ => ?_
    rw [inv _ _ e1 e2] at h3
    exact Bool.false_ne_true (hr.mpr (h3 y hm))
   | true =>
    rw [if_neg (by decide)]
    refine ⟨_, rfl, rfl, fun j z hj1 hj2 => ?_⟩
    by_cases hji : j < i
    ·exact hj j z hji hj2
    ·have : j = i := by omega
     subst this
     rw [hi] at hj2
     cases hj2
     exact hr.mp rfl
  ·obtain ⟨o, rfl, rfl, hj⟩ := hP
   refine q1 ⟨a, xs, rfl, ha, by omega, fun y hy => ?_⟩
   obtain ⟨j, hj2⟩ := List.getElem?_of_mem hy
   exact hj j y (List.getElem?_eq_some_iff.mp hj2).1 hj2
 ·walk_at "rd"
  simp only [ht]
  walk_at "rd"
  rw [if_pos hn]
  exact q2 fun ⟨b, ys, e1, e2, _⟩ => hf _ _ e1 e2
def RoadsW (H : Hp) (xs : List V) (rs : List (Nat × Rat)) : Prop := xs.length = rs.length ∧ ∀ (i : Nat) x r, xs[i]? = some x → rs[i]? = some r → ∃ p y, x = .ref p ∧ H p = some (.tup [.int (r.1 : Int), y])
theorem RoadsV.weak {H : Hp} {xs : List V} {rs : List (Nat × Rat)} (h : RoadsV H xs rs) : RoadsW H xs rs := ⟨h.1, fun i x r h1 h2 => let ⟨p, y, e, h3, _⟩ := h.2 i x r h1 h2; ⟨p, y, e, h3⟩⟩
theorem RoadsW.keep {H H' : Hp} {xs : List V} {rs : List (Nat × Rat)} (h : RoadsW H xs rs) (s : ∀ b ys, H b = some (.tup ys) → H' b = some (.tup ys)) : RoadsW H' xs rs := ⟨h.1, fun i x r h1 h2 => let ⟨p, y, e, h3⟩ := h.2 i x r h1 h2; ⟨p, y, e, s _ _ h3⟩⟩
def HasW (rs : List (Nat × Rat)) (k : Nat) : Prop := ∃ w, WayR rs k w ∧ w.length ≤ rs.length
def sp_wayX (CNT : Addr) : Sp := fun vs H Q E => ∃ (a : Addr) (xs : List V) (rs : List (Nat × Rat)) (k : Nat), vs = [.ref a, .int k] ∧ H a = some (.lst xs) ∧ RoadsW H xs rs ∧ (∀ r ∈ rs, r.1 ≤ rs.length) ∧ k ≤ rs.length ∧ rs.length ≤ 40 ∧
 (∀ p H' w, H p = none → Same H H' → H' p = some (.lst (natV w)) → WayR rs k w → w.length ≤ rs.length → Q (.ref p) H') ∧ (¬ HasW rs k → ∀ H', Same H H' → E (.ref CNT) none H')
def PwX (H0 : Hp) (a p : Addr) (k0 : Nat) (rs : List (Nat × Rat)) (σ : St) (H : Hp) : Prop := ∃ (k : Nat) (pre : List Nat), σ = [some (.ref a), some (.int k0), some (.ref p), some (.int k)] ∧ Same H0 H ∧ H p = some (.lst (natV pre)) ∧ k ≤ rs.length ∧ pre.length ≤ rs.length ∧
 (∀ w, WayR rs k w → WayR rs k0 (pre ++ w)) ∧ ∀ w0, WayR rs k0 w0 → ∃ w, w0 = pre ++ w ∧ WayR rs k w
def preLen (H : Hp) (p : Addr) : Nat := match H p with
 | some (.lst xs) => xs.length
 | _ => 0
theorem ok_wayX (F : FunD K "way_from" "way_from" s_way_from .none f fd) (n_len : mg "len" = none) (m_NoTree : mg "NoTree" = some (.ref CNT)) (ec_NoTree : ErrC K CNT) : FnOk P w K mg base (CX1 P w) 1 f fd ["roads", "k"] (sp_wayX CNT) := by
 refine okX F sc_way_from (fun vs H Q E h => ?_) (fun cdv A outer s H vs Q E hr h => ?_)
 ·obtain ⟨a, xs, rs, k, rfl, _⟩ := h; rfl
 obtain ⟨a, xs, rs, k0, rfl, ha, hR, hto, hk0, hrl, q1, q2⟩ := h
 refine ⟨_, (b_cons (s_set 2 sc_way_from.nd (q_lst a_nil))
   (b_cons (s_set 3 sc_way_from.nd (q_v 1))
   (b_cons (s_while PassesOwn.leaving (t_ne (q_v 3) q_int) (b_cons (s_if (t_eq (q_len rfl n_len (a_c (q_v 2) a_nil)) (q_len rfl n_len (a_c (q_v 0) a_nil))) (b_one (s_raise goes_of m_NoTree ec_NoTree rfl (a_c (q_fstr (q_v 1)) a_nil))) b_nil)
   (b_cons (s_expr (q_app (q_v 2) (a_c (q_v 3) a_nil)))
   (b_one (s_set 3 sc_way_from.nd (q_ixT (q_ixL (q_v 0) (q_sub (q_v 3) q_int)) q_int))))))
   (b_one (s_ret (q_v 2)))))), ?_⟩
 rw [show start ["roads", "k", "way", "place"] [.ref a, .int k0] = [some (.ref a), some (.int k0), none, none] from rfl]
 walk_at "rd"
 intro p H1 hp s1 e1
 refine while_w (PwX H a p k0 rs) (fun _ H => rs.length - preLen H p) ⟨k0, [], rfl, s1, e1, hk0, Nat.zero_le _, fun w h => h, fun w0 h => ⟨w0, rfl, h⟩⟩ ?_
 rintro σ H2 ⟨k, pre, rfl, s2, e2, hk, hpl, h1, h2⟩
 walk_at "rd"
 have hap : a ≠ p := fun z => by rw [z, hp] at ha; cases ha
 have pl : preLen H2 p = pre.length := by unfold preLen; rw [e2]; simp [natV]
 refine ite2 (fun hc => ?_) (fun hc => ?_)
 ·simp only [e2, s2 _ _ ha]
  walk_at "rd"
  have hxl := hR.1
  obtain ⟨k', rfl⟩ : ∃ k', k = k' + 1 := ⟨k - 1, by omega⟩
  have hkl : k' < rs.length := by omega
  have hkx : k' < xs.length := by omega
  have hr := List.getElem?_eq_getElem hkl
  obtain ⟨pr, y, ex, hpr⟩ := hR.2 k' _ _ (List.getElem?_eq_getElem hkx) hr
  have hrp : pr ≠ p := fun z => by rw [z, hp] at hpr; cases hpr
  have nl : (natV pre).length = pre.length := by simp [natV]
  refine ⟨fun σ' H' => preLen H' p = pre.length + 1 ∧ pre.length < rs.length ∧ PwX H a p k0 rs σ' H', fun σ' H' ⟨e, hlt, hP⟩ => ⟨_, by omega, rfl, hP⟩, ite2 (fun c => ?_) (fun c => ?_)⟩
  ·refine ⟨by omega, fun _ => q2 (fun ⟨w0, hw0, hl0⟩ => ?_) H2 s2⟩
   obtain ⟨w, e, hw⟩ := h2 w0 hw0
   cases hw with
   | cons h hw' =>
    have := congrArg List.length e
    simp at this
    omega
  ·refine ⟨by omega, xs, by rw [upd_ne hap]; exact s2 _ _ ha, xs[k'], ?_, pr, ex, _, by rw [upd_ne hrp]; exact s2 _ _ hpr, _, rfl, ?_, by omega, rs[k'].1, pre ++ [k' + 1], rfl, same_upd hp s2, by rw [upd_same]; simp [natV], hto _ (List.getElem_mem hkl), by simp; omega, fun w hw => ?_, fun w0 hw0 => ?_⟩
   ·rw [show (((k' + 1 : Nat)) : Int) - 1 = (k' : Int) by omega]
    exact atI_nat (List.getElem?_eq_getElem hkx)
   ·unfold preLen
    rw [upd_same]
    simp [natV]
   ·have := h1 _ (.cons hr hw)
    simpa using this
   ·obtain ⟨w, e, hw⟩ := h2 w0 hw0
    cases hw with
    | cons h hw' =>
     rw [hr] at h
     cases h
     exact ⟨_, by rw [e]; simp, hw'⟩
 ·have hk0 : k = 0 := by omega
  subst hk0
  have hw := h1 [] .nil
  rw [List.append_nil] at hw
  exact q1 p H2 pre hp s2 e2 hw hpl
def BadL (H : Hp) (x : V) : Prop := ¬ GoodL H x ∨ ∃ a xs rs k, x = .ref a ∧ H a = some (.lst xs) ∧ RoadsW H xs rs ∧ (∀ r ∈ rs, r.1 ≤ rs.length) ∧ rs.length ≤ 40 ∧ k ≤ rs.length ∧ ¬ HasW rs k
def sp_initX (C CNT : Addr) : Sp := fun vs H Q E => ∃ (x dx : Addr) (y : V), vs = [.ref x, y] ∧ H x = some (.ins C dx []) ∧ LT H y ∧ BadL H y ∧ ∀ H', (∀ b o, b ≠ x → H b = some o → H' b = some o) → E (.ref CNT) none H'
theorem ok_initX (F : FunD K "__init__" "Tree.__init__" s_Tree___init__ .none f fd) (n_list : mg "list" = none) (n_len : mg "len" = none) (n_range : mg "range" = none) (cls_Tree : Cls K CT) (nf_lanes : NoAttr K CT "lanes") (nf_ways : NoAttr K CT "ways")
  (F_look_roads : Fn P w K mg base (CX1 P w) 5 "look_roads" ["thing"] (sp_lookX CNT)) (F_way_from : Fn P w K mg base (CX1 P w) 1 "way_from" ["roads", "k"] (sp_wayX CNT)) : FnOk P w K mg base (CX1 P w) 6 f fd ["self", "roads"] (sp_initX CT CNT) := by
 refine okX F sc_Tree___init__ (fun vs H Q E h => ?_) (fun cdv A outer s H vs Q E hr h => ?_)
 ·obtain ⟨x, dx, y, rfl, _⟩ := h; rfl
 obtain ⟨x, dx, y, rfl, hx, hL, hB, q⟩ := h
 refine ⟨_, (b_cons (s_expr (q_fnX goes_of F_look_roads hr (by decide) rfl (a_c (q_v 1) a_nil)))
   (b_cons (s_fld (q_v 0) (q_list rfl n_list (a_c (q_v 1) a_nil)))
   (b_one (s_fld (q_v 0) (q_compX goes_of (blkC ["k"] [1] ["roads"]) (i_rng1 rfl n_range (a_c (q_add (q_len rfl n_len (a_c (q_v 1) a_nil)) q_int) a_nil)) (by exact fun s H fp => (g_name 0 (show List.Nodup (["k", "roads"] : List Str) from by decide +kernel))) (by exact fun s H fp => (q_fnP blk_pass F_way_from hr (by decide) rfl (a_c (q_v 1) (a_c (q_v 0) a_nil))))))))), ?_⟩
 rw [show start ["self", "roads"] [.ref x, y] = [some (.ref x), some (y)] from rfl]
 walk_at "rd"
 simp only [sp_lookX]
 walk_at "rd"
 refine ⟨hL, fun hG => ?_, fun _ => q H fun b o _ e => e⟩
 rcases hB with hB | ⟨a, xs, rs, k, rfl, ha, hR, hto, hrl, hk, hW⟩
 ·exact absurd hG hB
 simp only [rList]
 walk_at "rd"
 refine ⟨xs, .inl (.of ha), fun l H1 hl1 s1 e1 => ?_⟩
 refine ⟨CT, dx, [], s1 _ _ hx, cls_Tree, nf_lanes, by decide, ?_⟩
 have hax : a ≠ x := ne_of ha hx (by intro z; cases z)
 have k1 : ∀ b o, b ≠ x → H b = some o → upd H1 x (.ins CT dx (putF (Str.ofString "lanes") (.ref l) [])) b = some o := fun b o hb e => by rw [upd_ne hb]; exact s1 _ _ e
 have ha2 : upd H1 x (.ins CT dx (putF (Str.ofString "lanes") (.ref l) [])) a = some (.lst xs) := k1 _ _ hax ha
 generalize upd H1 x (.ins CT dx (putF (Str.ofString "lanes") (.ref l) [])) = H2 at k1 ha2 ⊢
 simp only [tComp, iRng1, cxK]
 walk_at "rd"
 have hxl := hR.1
 refine ⟨xs, .inl ha2, by omega, by omega, ?_⟩
 rw [show capOf [some (V.ref x), some (V.ref a)] [1] = [some (V.ref a)] from rfl]
 have tk : ∀ H3, Same H2 H3 → RoadsW H3 xs rs := fun H3 sm => hR.keep fun b ys e => sm _ _ (k1 b _ (ne_of e hx (by intro z; cases z)) e)
 refine blk_rng (fun acc i ys H' => Same H2 H' ∧ H' acc = some (.lst ys) ∧ ys.length = i ∧ i ≤ 50 ∧ ∀ j, j < i → HasW rs j)
  (fun acc H3 hn sm e => ⟨sm, e, rfl, by omega, fun j hj => absurd hj (Nat.not_lt_zero _)⟩) (fun acc i ys H3 ⟨_, e, hl, hi, _⟩ => ⟨e, by omega⟩) (fun acc i ys H3 os hn hi hP ol => ?_) (fun acc ys H3 hn hP => ?_)
 ·obtain ⟨sm, e, hyl, hi2, hE⟩ := hP
  obtain ⟨o, rfl⟩ : ∃ o, os = [o] := by match os, ol with | [o], _ => exact ⟨o, rfl⟩
  walk_at "rd"
  refine ⟨[some (.int (i : Int))], rfl, rfl, ?_⟩
  refine ⟨a, xs, rs, i, rfl, sm _ _ ha2, tk _ sm, hto, by omega, hrl, fun p' H4 w hp' s4 e4 hw hwl => ⟨s4 _ _ e, same_upd hn (sm.trans s4), upd_same, by simp [hyl], by omega, fun j hj => ?_⟩, fun _ H4 s4 => q H4 fun b o hb e => (sm.trans s4) _ _ (k1 b o hb e)⟩
  by_cases hji : j < i
  ·exact hE j hji
  ·have : j = i := by omega
   subst this
   exact ⟨w, hw, hwl⟩
 ·obtain ⟨sm, e, hyl, hi2, hE⟩ := hP
  exact absurd (hE k (by omega)) hW
end
theorem th0_at {H : Hp} {a : Addr} (h : Th0 H (.ref a)) : ∃ o, H a = some o := by
 obtain ⟨t, e⟩ := h
 unfold kindV at e
 dsimp only at e
 cases q : H a with
 | none => rw [q] at e; cases e
 | some o => exact ⟨o, rfl⟩
theorem same_back {H H' : Hp} {a : Addr} {o : HO} (s : Same H H') (h : Th0 H (.ref a)) (e : H' a = some o) : H a = some o := by
 obtain ⟨o', e'⟩ := th0_at h
 rw [s _ _ e'] at e
 cases e
 exact e'
theorem RdP.back {H H' : Hp} {x : V} {n : Int} (h : Thing2 H x) (s : Same H H') (r : RdP H' x n) : RdP H x n := by
 obtain ⟨a, t, y, rfl, e, h1, h2, b, u, v, rfl, e3, h3⟩ := r
 have e' := same_back s h.1 e
 have hy : Thing H (.ref b) := h.2 a _ rfl e' _ (by simp)
 exact ⟨a, t, _, rfl, e', h1, h2, b, u, v, rfl, same_back s hy.1 e3, h3⟩
theorem GoodL.back {H H' : Hp} {x : V} (h : LT H x) (s : Same H H') (g : GoodL H' x) : GoodL H x := by
 obtain ⟨a, xs, rfl, e, hl, hx⟩ := g
 have e' := same_back s h.1 e
 exact ⟨a, xs, rfl, e', hl, fun y hy => ((h.2 a xs rfl e').2 y hy |>.elim fun t0 t1 => RdP.back ⟨t0, t1⟩ s (hx y hy))⟩
theorem LT.of {H : Hp} {l : Addr} {zs : List V} (e : H l = some (.lst zs)) (hl : zs.length ≤ 1000) (h : ∀ y ∈ zs, Thing2 H y) : LT H (.ref l) := ⟨(th_lst e).1, fun a ys e1 e2 => by
 cases e1
 rw [e] at e2
 cases e2
 exact ⟨hl, h⟩⟩
theorem look0 {CNT : Addr} {vs : List V} {H : Hp} {Q : VK} {E : XK} (h : sp_look vs H Q E) : sp_lookX CNT vs H Q E0 := by
 obtain ⟨a, xs, rfl, ha, hl, hx, q⟩ := h
 have g : GoodL H (.ref a) := ⟨a, xs, rfl, ha, hl, fun y hy => (hx y hy).2⟩
 exact ⟨_, rfl, LT.of ha (by omega) fun y hy => (hx y hy).1, fun _ => q, fun z => absurd g z⟩
theorem wayf0 {CNT : Addr} {vs : List V} {H : Hp} {Q : VK} {E : XK} (h : sp_wayf vs H Q E) : sp_wayX CNT vs H Q E0 := by
 obtain ⟨a, xs, rs, k, w, rfl, ha, hR, hw, hwl, hrl, hk, hto, q⟩ := h
 exact ⟨a, xs, rs, k, rfl, ha, hR.weak, hto, hk, hrl, fun p H' w' h1 h2 h3 h4 _ => q p H' h1 h2 (by rw [← hw.uniq h4]; exact h3), fun z => absurd ⟨w, hw, hwl⟩ z⟩
def ListV {α : Type} (R : Hp → V → α → Prop) (H : Hp) (xs : List V) (as : List α) : Prop := xs.length = as.length ∧ ∀ (i : Nat) x a, xs[i]? = some x → as[i]? = some a → R H x a
def Keeps {α : Type} (R : Hp → V → α → Prop) : Prop := ∀ H H' v a, R H v a → (∀ b ys, H b = some (.tup ys) → H' b = some (.tup ys)) → R H' v a
theorem ListV.keep {α : Type} {R : Hp → V → α → Prop} (kR : Keeps R) {H H' : Hp} {xs : List V} {as : List α} (h : ListV R H xs as) (s : ∀ b ys, H b = some (.tup ys) → H' b = some (.tup ys)) : ListV R H' xs as := ⟨h.1, fun i x a h1 h2 => kR _ _ _ _ (h.2 i x a h1 h2) s⟩
theorem ListV.snoc {α : Type} {R : Hp → V → α → Prop} {H : Hp} {xs : List V} {as : List α} {x : V} {a : α} (h : ListV R H xs as) (hx : R H x a) : ListV R H (xs ++ [x]) (as ++ [a]) := ⟨by simp [h.1], fun i y r h1 h2 => by
 by_cases c : i < xs.length
 ·rw [List.getElem?_append_left c] at h1
  rw [List.getElem?_append_left (by rw [← h.1]; exact c)] at h2
  exact h.2 i y r h1 h2
 ·have hi : i = xs.length := by have := (List.getElem?_eq_some_iff.mp h1).1; simp at this; omega
  subst hi
  rw [List.getElem?_append_right (Nat.le_refl _)] at h1
  rw [h.1, List.getElem?_append_right (Nat.le_refl _)] at h2
  simp at h1 h2
  subst h1
  subst h2
  exact hx⟩
theorem blk_gen {α : Type} {K : PySem.W.Frag} {a : Addr} {nt : Nat} {cp : St} {g : TG} {te : TE} {H1 : Hp} {Q : VK} (R : Hp → V → α → Prop) (kR : Keeps R) {xs : List V} {as : List α} (ha : H1 a = some (.lst xs)) (hlen : xs.length = as.length) (hl : xs.length < 1000)
  (ht : ∀ (i : Nat) x b, xs[i]? = some x → as[i]? = some b → ∀ H' (k : VK) os, Same H1 H' → os.length = nt → (∀ v H2, Same H' H2 → R H2 v b → k v H2) → g x (os ++ cp) H' fun τ H3 => ∃ os', os'.length = nt ∧ τ = os' ++ cp ∧ te τ H3 k)
  (q : ∀ p H' ys, H1 p = none → Same H1 H' → H' p = some (.lst ys) → ListV R H' ys as → Q (.ref p) H') : tBlk nt cp (Itl K a) g te H1 Q := by
 unfold tBlk
 refine blk_list (xs := xs) (fun acc i ys H' => Same H1 H' ∧ H' acc = some (.lst ys) ∧ ListV R H' ys (as.take i) ∧ i ≤ as.length)
  (fun acc H2 hn sm e => ⟨sm, e, ⟨by simp, fun i v r h1 h2 => by simp at h1⟩, Nat.zero_le _⟩) (fun acc i ys H2 hn ⟨sm, e, e2, hi⟩ => ⟨e, ?_, .of (sm _ _ ha)⟩) (fun acc i y ys H2 os hn hi hP ol => ?_) (fun acc ys H2 hn hP => ?_)
 ·rw [e2.1, List.length_take]; omega
 ·obtain ⟨sm, e, e2, _⟩ := hP
  have hil : i < as.length := by rw [← hlen]; exact (List.getElem?_eq_some_iff.mp hi).1
  have hb := List.getElem?_eq_getElem hil
  refine ht i y _ hi hb H2 (fun v H5 => H5 acc = some (.lst ys) ∧ (Same H1 (upd H5 acc (.lst (ys ++ [v]))) ∧ upd H5 acc (.lst (ys ++ [v])) acc = some (.lst (ys ++ [v])) ∧ ListV R (upd H5 acc (.lst (ys ++ [v]))) (ys ++ [v]) (as.take (i + 1)) ∧ i + 1 ≤ as.length)) os sm ol fun v H3 s3 hv => ⟨s3 _ _ e, same_upd hn (sm.trans s3), upd_same, ?_, hil⟩
  have kp : ∀ b ys', H3 b = some (.tup ys') → upd H3 acc (.lst (ys ++ [v])) b = some (.tup ys') := fun b ys' eb => by rw [upd_ne (ne_of eb (s3 _ _ e) (by intro z; cases z))]; exact eb
  rw [List.take_add_one, hb]
  exact ((e2.keep kR fun b ys' eb => s3 _ _ eb).keep kR kp).snoc (kR _ _ _ _ hv kp)
 ·obtain ⟨sm, e, e2, _⟩ := hP
  rw [hlen, List.take_length] at e2
  exact q acc H2 ys hn sm e e2
section
variable {P : Program} {w : World} {K : PySem.W.Frag} {mg : Str → Option Value} {base : Heap} {f : Addr} {fd : FuncData}
def Pd (a b : Int) (H : Hp) (σ : St) (H' : Hp) : Prop := ∃ l m : Int, σ = [some (.int l), some (.int m)] ∧ H' = H ∧ Int.gcd l m = Int.gcd a b
theorem ok_divisor (F : Fun K "_law_divisor" "_law_divisor" s_law_divisor f fd) (n_abs : mg "abs" = none) :
  FnOk P w K mg base CX0 1 f fd ["_law_one", "_law_other"] sp_gcd := by
 refine okQ F sc_law_divisor (fun vs H Q E h => ?_) (fun cdv A outer s H vs Q E hr h => ?_)
 ·obtain ⟨a, b, rfl, _⟩ := h; rfl
 obtain ⟨a, b, rfl, q⟩ := h
 refine ⟨_, (b_cons (s_while PassesOwn.never (t_ne (q_v 1) q_int) (b_one (s_par 0 1 sc_law_divisor.nd (a_c (q_v 1) (a_c (q_modN (q_v 0) (q_v 1)) a_nil)))))
   (b_one (s_ret (q_abs rfl n_abs (a_c (q_v 0) a_nil))))), ?_⟩
 rw [show start ["_law_one", "_law_other"] [.int a, .int b] = [some (.int a), some (.int b)] from rfl]
 walk_at "rd"
 refine while_w (Pd a b H) (fun σ _ => (slotI σ 1).natAbs) ⟨_, _, rfl, rfl, rfl⟩ ?_
 rintro σ H' ⟨l, m, rfl, rfl, hg⟩
 walk_at "rd"
 refine ite2 (fun c => ?_) (fun c => ?_)
 ·refine ⟨_, fun σ' H' z => z, c, _, fmod_lt_abs c, rfl, m, l.fmod m, rfl, rfl, ?_⟩
  rw [gcd_turnN]; exact hg
 ·have e : m = 0 := by omega
  subst e
  have e2 : (Int.gcd a b : Int) = (if l < 0 then -l else l) := by rw [← hg, abs_ite]; simp
  rw [e2] at q
  exact q
theorem ok_lowQ (F : Fun K "_law_low" "_law_low" s_law_low f fd) (F_law_divisor : Fn P w K mg base CX0 1 "_law_divisor" ["_law_one", "_law_other"] sp_gcd) : FnOk P w K mg base CX0 2 f fd ["_law_top", "_law_bottom"] sp_lowQ := by
 refine okQ F sc_law_low (fun vs H Q E h => ?_) (fun cdv A outer s H vs Q E hr h => ?_)
 ·obtain ⟨a, b, rfl, _⟩ := h; rfl
 obtain ⟨a, b, rfl, hz, hb, q⟩ := h
 refine ⟨_, (b_cons (s_set 2 sc_law_low.nd (q_fn F_law_divisor hr (by decide) rfl (a_c (q_v 0) (a_c (q_v 1) a_nil))))
   (b_one (s_ret (q_tup (a_c (q_fdivL (q_v 0) (q_v 2)) (a_c (q_fdivL (q_v 1) (q_v 2)) a_nil)))))), ?_⟩
 rw [show start ["_law_top", "_law_bottom", "_law_part"] [.int a, .int b] = [some (.int a), some (.int b), none] from rfl]
 walk_at "rd"
 simp only [sp_gcd]
 walk_at "rd"
 have h1 := Int.gcd_pos_of_ne_zero_right a (Int.ne_of_gt hb)
 have h3 : (Int.gcd a b : Int).natAbs.log2 < 9000 := log2_lt_of (pow_mono (Nat.lt_of_le_of_lt (gcd_le_abs (Int.ne_of_gt hb)) hz) (by omega)) (by omega)
 refine ⟨by omega, h3, by omega, h3, fun p H' _ hs e => q _ H' hs ⟨p, rfl, ?_⟩⟩
 rw [(low_ratio hb).1, (low_ratio (t := a) hb).2] at e
 exact e
end
def BlR (_ : Hp) (v : V) (b : Bool) : Prop := v = .bl b
theorem bl_keeps : Keeps BlR := fun _ _ _ _ h _ => h
def StR (_ : Hp) (v : V) (z : Str) : Prop := v = .str z
theorem st_keeps : Keeps StR := fun _ _ _ _ h _ => h
theorem map_list {α : Type} {g : α → V} {R : Hp → V → α → Prop} (hR : ∀ H v a, R H v a → v = g a) {H : Hp} {ys : List V} {as : List α} (h : ListV R H ys as) : ys = as.map g := by
 refine List.ext_getElem? fun i => ?_
 rw [List.getElem?_map]
 by_cases c : i < ys.length
 ·have c2 : i < as.length := by rw [← h.1]; exact c
  rw [List.getElem?_eq_getElem c, List.getElem?_eq_getElem c2]
  exact congrArg some (hR _ _ _ (h.2 i _ _ (List.getElem?_eq_getElem c) (List.getElem?_eq_getElem c2)))
 ·rw [List.getElem?_eq_none (by omega), List.getElem?_eq_none (by rw [← h.1]; omega)]
  rfl
theorem blk_genX {α : Type} {z : Str} {nt : Nat} {cp : St} {g : TG} {te : TE} {H1 : Hp} {Q : VK} (R : Hp → V → α → Prop) (kR : Keeps R) {as : List α} (hlen : z.cps.toList.length = as.length) (hl : z.cps.toList.length < 1000)
  (ht : ∀ (i : Nat) d b, z.cps.toList[i]? = some d → as[i]? = some b → ∀ H' (k : VK) os, Same H1 H' → os.length = nt → (∀ v H2, Same H' H2 → R H2 v b → k v H2) → g (.str (one d)) (os ++ cp) H' fun τ H3 => ∃ os', os'.length = nt ∧ τ = os' ++ cp ∧ te τ H3 k)
  (q : ∀ p H' ys, H1 p = none → Same H1 H' → H' p = some (.lst ys) → ListV R H' ys as → Q (.ref p) H') : tBlk nt cp (Itx z) g te H1 Q := by
 unfold tBlk
 refine blk_text (fun acc i ys H' => Same H1 H' ∧ H' acc = some (.lst ys) ∧ ListV R H' ys (as.take i) ∧ i ≤ as.length)
  (fun acc H2 hn sm e => ⟨sm, e, ⟨by simp, fun i v r h1 h2 => by simp at h1⟩, Nat.zero_le _⟩) (fun acc i ys H2 hn ⟨sm, e, e2, hi⟩ => ⟨e, ?_⟩) (fun acc i y ys H2 os hn hi hP ol => ?_) (fun acc ys H2 hn hP => ?_)
 ·rw [e2.1, List.length_take]; omega
 ·obtain ⟨sm, e, e2, _⟩ := hP
  have hil : i < as.length := by rw [← hlen]; exact (List.getElem?_eq_some_iff.mp hi).1
  have hb := List.getElem?_eq_getElem hil
  refine ht i y _ hi hb H2 (fun v H5 => H5 acc = some (.lst ys) ∧ (Same H1 (upd H5 acc (.lst (ys ++ [v]))) ∧ upd H5 acc (.lst (ys ++ [v])) acc = some (.lst (ys ++ [v])) ∧ ListV R (upd H5 acc (.lst (ys ++ [v]))) (ys ++ [v]) (as.take (i + 1)) ∧ i + 1 ≤ as.length)) os sm ol fun v H3 s3 hv => ⟨s3 _ _ e, same_upd hn (sm.trans s3), upd_same, ?_, hil⟩
  have kp : ∀ b ys', H3 b = some (.tup ys') → upd H3 acc (.lst (ys ++ [v])) b = some (.tup ys') := fun b ys' eb => by rw [upd_ne (ne_of eb (s3 _ _ e) (by intro z; cases z))]; exact eb
  rw [List.take_add_one, hb]
  exact ((e2.keep kR fun b ys' eb => s3 _ _ eb).keep kR kp).snoc (kR _ _ _ _ hv kp)
 ·obtain ⟨sm, e, e2, _⟩ := hP
  rw [hlen, List.take_length] at e2
  exact q acc H2 ys hn sm e e2
def Few (q : Rat) : Prop := q.num.natAbs < 10 ^ 30 ∧ q.den < 10 ^ 30
def ratS (q : Rat) : Str := if (q.den : Int) = 1 then numS q.num else numS q.num ++ one 47 ++ numS (q.den : Int)
def roadS (r : Nat × Rat) : Str := numS (r.1 : Int) ++ one 32 ++ ratS r.2
def treeS (rs : List (Nat × Rat)) : Str := Txt.join (one 10) (rs.map roadS)
theorem c_slash : Str.ofString "/" = one 47 := by decide +kernel
theorem c_blank : Str.ofString " " = one 32 := by decide +kernel
theorem c_line : Str.ofString "\n" = one 10 := by decide +kernel
theorem c_nought : Str.ofString "0" = one 48 := by decide +kernel
theorem c_minus : Str.ofString "-" = one 45 := by decide +kernel
theorem log_few {i : Int} (h : i.natAbs < 10 ^ 30) : i.natAbs.log2 < 1920 := by
 have h2 : i.natAbs < 2 ^ 100 := Nat.lt_of_lt_of_le h (by decide)
 exact log2_lt_of (pow_mono h2 (by decide)) (by decide)
theorem numS_len2 {i : Int} (h : i.natAbs < 10 ^ 30) : (numS i).length ≤ 31 := by
 unfold numS
 rw [PySem.ofString_length]
 exact int_text_length_le10 (k := 30) (by decide) h
theorem ratS_len {q : Rat} (h : Few q) : (ratS q).length ≤ 63 := by
 have h1 := numS_len2 (i := q.num) h.1
 have h2 := numS_len2 (i := (q.den : Int)) (by have := h.2; omega)
 unfold ratS
 split
 ·omega
 ·rw [strLen_append, strLen_append]
  have : (one 47).length = 1 := rfl
  omega
section
variable {P : Program} {w : World} {K : PySem.W.Frag} {mg : Str → Option Value} {base : Heap} {f : Addr} {fd : FuncData} {CT : Addr}
def sp_showR : Sp := fun vs H Q _ => ∃ (x : V) (q : Rat), vs = [x] ∧ RatV H x q ∧ Few q ∧ Q (.str (ratS q)) H
theorem ok_showR (F : Fun K "show_ratio" "show_ratio" s_show_ratio f fd) : FnOk P w K mg base CX0 1 f fd ["one"] sp_showR := by
 refine okQ F sc_show_ratio (fun vs H Q E h => ?_) (fun cdv A outer s H vs Q E hr h => ?_)
 ·obtain ⟨x, q, rfl, _⟩ := h; rfl
 obtain ⟨x, t, rfl, ⟨p, rfl, hp⟩, hf, q⟩ := h
 refine ⟨_, (b_cons (s_set 1 sc_show_ratio.nd (q_ixT (q_v 0) q_int))
   (b_cons (s_set 2 sc_show_ratio.nd (q_ixT (q_v 0) q_int))
   (b_one (s_ret (q_ifE (t_eq (q_v 2) q_int) (q_fs1 (q_v 1)) (q_fs3 (q_v 1) (q_v 2))))))), ?_⟩
 rw [show start ["one", "top", "bottom"] [.ref p] = [some (.ref p), none, none] from rfl]
 walk_at "rd"
 simp only [hp]
 walk_at "rd"
 have h1 : FmtV (.int t.num) (numS t.num) := .inl ⟨_, rfl, log_few hf.1, rfl⟩
 have h2 : FmtV (.int (t.den : Int)) (numS (t.den : Int)) := .inl ⟨_, rfl, log_few (by have := hf.2; omega), rfl⟩
 unfold ratS at q
 by_cases c : (t.den : Int) = 1
 ·rw [if_pos c] at q ⊢
  exact ⟨_, h1, q⟩
 ·rw [if_neg c] at q ⊢
  exact ⟨_, h1, _, h2, by rw [c_slash]; exact q⟩
theorem fig_all {n : Int} (h0 : 0 ≤ n) : ((numS n).cps.toList.map fun d => decide (d ∈ (Str.ofString "0123456789").cps.toList)).all id = true := by
 obtain ⟨m, rfl⟩ := Int.eq_ofNat_of_zero_le h0
 rw [List.all_eq_true]
 intro b hb
 obtain ⟨d, hd, rfl⟩ := List.mem_map.mp hb
 have hr := numS_digits hd
 rw [show (Str.ofString "0123456789").cps.toList = [48, 49, 50, 51, 52, 53, 54, 55, 56, 57] by decide +kernel]
 have : d = 48 ∨ d = 49 ∨ d = 50 ∨ d = 51 ∨ d = 52 ∨ d = 53 ∨ d = 54 ∨ d = 55 ∨ d = 56 ∨ d = 57 := by omega
 simpa using this
end
theorem roadS_len {r : Nat × Rat} (h : Few r.2) (h1 : r.1 < 10 ^ 30) : (roadS r).length ≤ 95 := by
 have l1 := numS_len2 (i := (r.1 : Int)) (by omega)
 have l2 := ratS_len h
 unfold roadS
 rw [strLen_append, strLen_append]
 have : (one 32).length = 1 := rfl
 omega
section
variable {P : Program} {w : World} {K : PySem.W.Frag} {mg : Str → Option Value} {base : Heap} {f : Addr} {fd : FuncData} {CT : Addr}
def sp_showRoad : Sp := fun vs H Q _ => ∃ (x : V) (r : Nat × Rat), vs = [x] ∧ RoadV H x r ∧ Few r.2 ∧ r.1 < 10 ^ 30 ∧ Q (.str (roadS r)) H
theorem ok_showRoad (F : Fun K "show_road" "show_road" s_show_road f fd) (F_show_ratio : Fn P w K mg base CX0 1 "show_ratio" ["one"] sp_showR) : FnOk P w K mg base CX0 2 f fd ["road"] sp_showRoad := by
 refine okQ F sc_show_road (fun vs H Q E h => ?_) (fun cdv A outer s H vs Q E hr h => ?_)
 ·obtain ⟨x, q, rfl, _⟩ := h; rfl
 obtain ⟨x, r, rfl, ⟨p, y, rfl, hp, hy⟩, hf, hr1, q⟩ := h
 refine ⟨_, (b_cons (s_set 1 sc_show_road.nd (q_ixT (q_v 0) q_int))
   (b_cons (s_set 2 sc_show_road.nd (q_fn F_show_ratio hr (by decide) rfl (a_c (q_ixT (q_v 0) q_int) a_nil)))
   (b_one (s_ret (q_fs3 (q_v 1) (q_v 2)))))), ?_⟩
 rw [show start ["road", "to", "price"] [.ref p] = [some (.ref p), none, none] from rfl]
 walk_at "rd"
 simp only [hp]
 walk_at "rd"
 refine ⟨y, r.2, rfl, hy, hf, _, .inl ⟨_, rfl, log_few (by omega), rfl⟩, _, .inr ⟨rfl, ?_⟩, ?_⟩
 ·have := ratS_len hf
  omega
 ·rw [c_blank]
  exact q
def sp_showTree (C : Addr) : Sp := fun vs H Q _ => ∃ (x : V) (rs : List (Nat × Rat)), vs = [x] ∧ TreeV C H x rs ∧ (∀ r ∈ rs, Few r.2 ∧ r.1 < 10 ^ 30) ∧ rs.length ≤ 40 ∧ ∀ H', Same H H' → Q (.str (treeS rs)) H'
theorem ok_showTree (F : Fun K "show_tree" "show_tree" s_show_tree f fd) (F_show_road : Fn P w K mg base CX0 2 "show_road" ["road"] sp_showRoad) (M_roads : Mth P w K mg base CX0 1 CT "roads" ["self"] (sp_roadsM CT)) : FnOk P w K mg base CX0 4 f fd ["tree"] (sp_showTree CT) := by
 refine okQ F sc_show_tree (fun vs H Q E h => ?_) (fun cdv A outer s H vs Q E hr h => ?_)
 ·obtain ⟨x, q, rfl, _⟩ := h; rfl
 obtain ⟨x, rs, rfl, hT, hf, hl, q⟩ := h
 obtain ⟨a, dx, la, wa, ls, ws, rfl, h1, h2, h3, h4, h5, h6⟩ := id hT
 refine ⟨_, (b_one (s_ret (q_join q_str (a_c (q_comp (blk0 ["road"]) (i_list (q_meth0 M_roads hr (by decide) (q_v 0))) (by exact fun s H fp => (g_name 0 (show List.Nodup (["road"] : List Str) from by decide +kernel))) (by exact fun s H fp => (q_fn F_show_road hr (by decide) rfl (a_c (q_v 0) a_nil)))) a_nil)))), ?_⟩
 rw [show start ["tree"] [.ref a] = [some (.ref a)] from rfl]
 walk_at "rd"
 simp only [tComp, iList]
 walk_at "rd"
 refine ⟨dx, _, h1, rfl, .ref a, rs, rfl, hT, fun p H1 ls1 hp s1 e1 hR => ⟨p, rfl, ⟨_, .of e1⟩, ?_⟩⟩
 rw [show capOf [some (V.ref a)] [] = [] from rfl]
 refine blk_gen StR st_keeps (xs := ls1) (as := rs.map roadS) e1 (by rw [List.length_map]; exact hR.1) (by rw [hR.1]; omega) (fun i y z hy hz H' k os s2 ol hk => ?_) (fun pl H' ys hpl s2 e2 hL => ?_)
 ·obtain ⟨o, rfl⟩ : ∃ o, os = [o] := List.length_eq_one_iff.mp ol
  walk_at "rd"
  rw [List.getElem?_map] at hz
  obtain ⟨r, er, rfl⟩ := Option.map_eq_some_iff.mp hz
  have hm := hf r (List.mem_of_getElem? er)
  exact ⟨[_], rfl, rfl, y, r, rfl, (hR.2 i y r hy er).same s2, hm.1, hm.2, hk _ _ (fun _ _ e => e) rfl⟩
 ·rw [map_list (g := V.str) (fun _ _ _ h => h) hL] at e2
  refine ⟨pl, rfl, _, e2, by rw [c_line]; decide, ?_, ?_⟩
  ·have hs := StrLaws.sumLen_le (B := 95) (rs.map roadS) (fun y hy => by
    obtain ⟨r, hr, rfl⟩ := List.mem_map.mp hy
    exact roadS_len (hf r hr).1 (hf r hr).2)
   rw [List.length_map] at hs ⊢
   omega
  ·rw [c_line]
   exact q _ (s1.trans s2)
def bodyS (t : Rat) : Str := if (t.den : Int) = 1 then numS (t.num.natAbs : Int) else numS (t.num.natAbs : Int) ++ one 47 ++ numS (t.den : Int)
def partI (t : Rat) : List Int := if (t.den : Int) = 1 then [(t.num.natAbs : Int)] else [(t.num.natAbs : Int), (t.den : Int)]
theorem ratS_pos {t : Rat} (h : 0 ≤ t.num) : ratS t = bodyS t := by
 unfold ratS bodyS
 rw [show (t.num.natAbs : Int) = t.num by omega]
theorem ratS_neg {t : Rat} (h : t.num < 0) : ratS t = one 45 ++ bodyS t := by
 have e : numS t.num = one 45 ++ numS (t.num.natAbs : Int) := by
  rw [← numS_neg (by omega)]
  congr 1
  omega
 unfold ratS bodyS
 rw [e]
 split
 ·rfl
 ·rw [Str.append_assoc, Str.append_assoc, Str.append_assoc]
theorem digits_no {m : Nat} {c : Nat} (h : c < 48 ∨ 57 < c) : c ∉ (numS (m : Int)).cps.toList := fun z => by
 have := numS_digits z
 omega
theorem body_split (t : Rat) : Txt.split (bodyS t) (one 47) = (partI t).map numS := by
 unfold bodyS partI
 split
 ·have e := split_join (c := 47) (xs := [numS (t.num.natAbs : Int)]) (by simp) (fun p hp => by
   simp at hp
   rw [hp]
   exact digits_no (by omega))
  rw [join_one] at e
  exact e
 ·have e := split_join (c := 47) (xs := [numS (t.num.natAbs : Int), numS (t.den : Int)]) (by simp) (fun p hp => by
   simp at hp
   rcases hp with rfl | rfl
   ·exact digits_no (by omega)
   ·exact digits_no (by omega))
  rw [join_two] at e
  exact e
theorem body_head (t : Rat) : ((bodyS t).cps.toList.head? == some 45) = false := by
 have h := no_minus t.num.natAbs
 unfold bodyS
 split
 ·exact h
 ·rw [cl_app, cl_app, List.append_assoc]
  cases e : (numS (t.num.natAbs : Int)).cps.toList with
  | nil => exact absurd e (numS_ne _)
  | cons a l =>
   rw [e] at h
   exact h
theorem rat_below (t : Rat) : Txt.startswith (ratS t) (one 45) = decide (t.num < 0) := by
 rw [starts_one]
 by_cases c : t.num < 0
 ·rw [ratS_neg c, decide_eq_true c, cl_app]
  rfl
 ·rw [ratS_pos (by omega), decide_eq_false c]
  exact body_head t
theorem body_len {t : Rat} (h : Few t) : (bodyS t).length ≤ 63 := by
 have h1 := numS_len2 (i := (t.num.natAbs : Int)) (by have := h.1; omega)
 have h2 := numS_len2 (i := (t.den : Int)) (by have := h.2; omega)
 unfold bodyS
 split
 ·omega
 ·rw [strLen_append, strLen_append]
  have : (one 47).length = 1 := rfl
  omega
theorem part_few {t : Rat} (h : Few t) : ∀ n ∈ partI t, 0 ≤ n ∧ n < 10 ^ 30 := by
 intro n hn
 have h1 := h.1
 have h2 := h.2
 unfold partI at hn
 split at hn
 ·simp at hn
  omega
 ·simp at hn
  omega
end
theorem body_no {t : Rat} {c : Nat} (h : c < 47 ∨ 57 < c) : c ∉ (bodyS t).cps.toList := by
 unfold bodyS
 split
 ·exact digits_no (by omega)
 ·rw [cl_app, cl_app, one_cl]
  intro z
  rcases List.mem_append.mp z with z | z
  ·rcases List.mem_append.mp z with z | z
   ·exact digits_no (by omega) z
   ·simp at z
    omega
  ·exact digits_no (by omega) z
theorem ratS_no {t : Rat} {c : Nat} (h : c < 45 ∨ 57 < c) : c ∉ (ratS t).cps.toList := by
 by_cases n : t.num < 0
 ·rw [ratS_neg n, cl_app, one_cl]
  intro z
  rcases List.mem_append.mp z with z | z
  ·simp at z
   omega
  ·exact body_no (by omega) z
 ·rw [ratS_pos (by omega)]
  exact body_no (by omega)
theorem roadS_no {r : Nat × Rat} {c : Nat} (h : c < 32 ∨ 57 < c) : c ∉ (roadS r).cps.toList := by
 unfold roadS
 rw [cl_app, cl_app, one_cl]
 intro z
 rcases List.mem_append.mp z with z | z
 ·rcases List.mem_append.mp z with z | z
  ·exact digits_no (by omega) z
  ·simp at z
   omega
 ·exact ratS_no (by omega) z
theorem road_split (r : Nat × Rat) : Txt.split (roadS r) (one 32) = [numS (r.1 : Int), ratS r.2] := by
 have e := split_join (c := 32) (xs := [numS (r.1 : Int), ratS r.2]) (by simp) (fun p hp => by
  simp at hp
  rcases hp with rfl | rfl
  ·exact digits_no (by omega)
  ·exact ratS_no (by omega))
 rw [join_two] at e
 exact e
theorem tree_split {rs : List (Nat × Rat)} (h : rs ≠ []) : Txt.split (treeS rs) (one 10) = rs.map roadS :=
 split_join (by simpa using h) fun p hp => by
  obtain ⟨r, _, rfl⟩ := List.mem_map.mp hp
  exact roadS_no (by omega)
theorem roadS_ne (r : Nat × Rat) : (roadS r).cps.toList ≠ [] := by
 unfold roadS
 rw [cl_app, cl_app]
 intro z
 rw [List.append_eq_nil_iff, List.append_eq_nil_iff] at z
 exact numS_ne _ z.1.1
theorem tree_empty {rs : List (Nat × Rat)} : treeS rs = Str.ofString "" ↔ rs = [] := by
 constructor
 ·intro e
  match rs, e with
  | [], _ => rfl
  | r :: l, e =>
   exfalso
   have e2 := congrArg (fun z : Str => z.cps.toList) e
   have e3 : treeS (r :: l) = Str.join (one 10) ((r :: l).map roadS) := StrLaws.glued_eq_join _ _
   simp only [e3, join_cl] at e2
   rw [show (Str.ofString "").cps.toList = [] by decide +kernel] at e2
   have hne := roadS_ne r
   match l, e2 with
   | [], e2 => exact hne e2
   | _ :: _, e2 =>
    have e4 : (roadS r).cps.toList ++ 10 :: _ = [] := e2
    simp at e4
 ·rintro rfl
  decide +kernel
theorem tree_len {rs : List (Nat × Rat)} (hf : ∀ r ∈ rs, Few r.2 ∧ r.1 < 10 ^ 30) (hl : rs.length ≤ 40) : (treeS rs).length ≤ 4000 := by
 have h1 := join_len (one 10) (rs.map roadS)
 have h2 := StrLaws.sumLen_le (B := 95) (rs.map roadS) (fun y hy => by
  obtain ⟨r, hr, rfl⟩ := List.mem_map.mp hy
  exact roadS_len (hf r hr).1 (hf r hr).2)
 rw [List.length_map] at h1 h2
 have : (one 10).length = 1 := rfl
 rw [this] at h1
 unfold treeS
 omega
section
variable {X : Cx} {E : XK} {j k : Nat} {x : Str} {ps : List Str} {sp : Sp} {p pos : Pos} {e : Expr} {es : List Expr} {t : TA} {C : Addr}
theorem q_makeX (b : Goes X E) (F : Mkr X.prog X.w X.K X.mg X.base (CX1 X.prog X.w) j C x ps sp) (hr : Room (k + 1) X.A) (hj : j ≤ k) (hg : Gl X x) (ha : QA X (e :: es) t) (hp : (e :: es).all plainE = true := by rfl) (hdb : (x == ("__debug__" : Str)) = false := by decide) :
  QE X (.Call (.Name x p) (e :: es) [] pos) (tMake C sp [] E t) := by
 obtain ⟨f, fd, G, bd, M, hm⟩ := F.ex
 exact ⟨pe_make M (G.mono hj) hr hg hm bd .nil b.pass ha.h hdb (se_cons (hd_plain hp).1) (se_any (hd_plain hp).2)⟩
end
def BadW (z : Str) : Prop := z.length ≤ 100 ∧ (∀ d ∈ z.cps.toList, d < 128) ∧ (z.length = 0 ∨ 30 < z.length ∨ (z.cps.toList.map fun d => decide (d ∈ (Str.ofString "0123456789").cps.toList)).all id = false ∨ ((z.cps.toList.head? == some 48) = true ∧ z ≠ one 48))
section
variable {P : Program} {w : World} {K : PySem.W.Frag} {mg : Str → Option Value} {base : Heap} {f : Addr} {fd : FuncData} {CT CNT CNX : Addr}
def sp_readWX (CNX : Addr) : Sp := fun vs H Q E => ∃ z, vs = [.str z] ∧ ((∃ n : Int, z = numS n ∧ 0 ≤ n ∧ n < 10 ^ 30 ∧ ∀ H', Same H H' → Q (.int n) H') ∨ (BadW z ∧ ∀ H', Same H H' → E (.ref CNX) none H'))
theorem ok_readWX {tk1 tk2 : Tok} (F : FunD K "read_whole" "read_whole" s_read_whole .none f fd) (n_len : mg "len" = none) (n_all : mg "all" = none) (n_int : mg "int" = none) (g_MOST_FIGURES : mg "MOST_FIGURES" = some (.int 30 tk1)) (g_FIGURES : mg "FIGURES" = some (.str "0123456789" tk2)) (m_NoText : mg "NoText" = some (.ref CNX)) (ec_NoText : ErrC K CNX) :
  FnOk P w K mg base (CX1 P w) 2 f fd ["text"] (sp_readWX CNX) := by
 refine okX F sc_read_whole (fun vs H Q E h => ?_) (fun cdv A outer s H vs Q E hr h => ?_)
 ·obtain ⟨n, rfl, _⟩ := h; rfl
 obtain ⟨z, rfl, h⟩ := h
 refine ⟨_, (b_cons (s_if (t_w (w_or (t_not (t_leLe q_int (q_lenX rfl n_len (a_c (q_v 0) a_nil)) (q_gint rfl g_MOST_FIGURES))) (w_or1 (t_not (t_val (q_allB rfl n_all (a_c (q_comp (blk0 ["sign"]) (i_txt (q_v 0)) (by exact fun s H fp => (g_name 0 (show List.Nodup (["sign"] : List Str) from by decide +kernel))) (by exact fun s H fp => (q_inX (q_v 0) (q_gstr rfl g_FIGURES)))) a_nil))))))) (b_one (s_raise goes_of m_NoText ec_NoText rfl (a_c (q_fstr (q_gint rfl g_MOST_FIGURES)) a_nil))) b_nil)
   (b_cons (s_if (t_w (w_and (t_val (q_starts (q_v 0) (a_c q_str a_nil))) (w_and1 (t_ne (q_v 0) q_str)))) (b_one (s_raise goes_of m_NoText ec_NoText rfl (a_c q_str a_nil))) b_nil)
   (b_one (s_ret (q_intX rfl n_int (a_c (q_v 0) a_nil)))))), ?_⟩
 rw [show start ["text"] [.str z] = [some (.str z)] from rfl]
 walk_at "rd"
 rcases h with ⟨n, rfl, h0, h1, q⟩ | ⟨⟨hl, hd, hb⟩, q⟩
 ·have hl := numS_len h0 h1
  obtain ⟨m, em⟩ := Int.eq_ofNat_of_zero_le h0
  have hp : 1 ≤ (numS n).length := by rw [em]; exact numS_pos m
  have hread := numS_read h0 h1
  refine ⟨big_le (by omega), ?_⟩
  rw [if_pos (by omega), if_neg (by omega)]
  simp only [tComp, iTxt]
  walk_at "rd"
  refine ⟨fun d hd => ?_, ?_⟩
  ·rw [em] at hd
   have := numS_digits hd
   omega
  rw [show capOf [some (V.str (numS n))] [] = [] from rfl]
  refine blk_genX BlR bl_keeps (as := (numS n).cps.toList.map fun d => decide (d ∈ (Str.ofString "0123456789").cps.toList)) (by rw [List.length_map]) (by rw [len_cl]; omega) (fun i d b hd hb H' k os s1 ol hk => ?_) (fun p H' ys hp1 s1 e1 hL => ?_)
  ·obtain ⟨o, rfl⟩ : ∃ o, os = [o] := List.length_eq_one_iff.mp ol
   walk_at "rd"
   rw [List.getElem?_map, hd] at hb
   cases hb
   exact ⟨[_], rfl, rfl, _, rfl, hk _ _ (fun _ _ e => e) rfl⟩
  ·rw [map_list (g := V.bl) (fun _ _ _ h => h) hL] at e1
   refine ⟨p, rfl, _, e1, ?_⟩
   rw [fig_all h0, if_neg (by decide)]
   have fin : ∃ x, intText? (numS n) = some x ∧ (numS n).length ≤ 640 ∧ Q (V.int x) H' := ⟨n, hread, by omega, q _ s1⟩
   rw [c_nought, starts_one]
   by_cases c : ((numS n).cps.toList.head? == some 48) = true
   ·rw [if_pos c]
    have hz : m = 0 := starts_zero (by rw [← em]; exact beq_iff_eq.mp c)
    have hn : n = 0 := by omega
    rw [if_neg (by rw [hn, numS_zero]; exact fun z => z rfl)]
    exact fin
   ·rw [if_neg c]
    exact fin
 ·refine ⟨big_le (by omega), ?_⟩
  by_cases c1 : z.length = 0
  ·rw [if_neg (by omega)]
   exact fun _ => q _ fun _ _ e => e
  rw [if_pos (by omega)]
  by_cases c2 : 30 < z.length
  ·rw [if_pos (by omega)]
   exact fun _ => q _ fun _ _ e => e
  rw [if_neg (by omega)]
  simp only [tComp, iTxt]
  walk_at "rd"
  refine ⟨fun d hd' => by have := hd d hd'; omega, ?_⟩
  rw [show capOf [some (V.str z)] [] = [] from rfl]
  refine blk_genX BlR bl_keeps (as := z.cps.toList.map fun d => decide (d ∈ (Str.ofString "0123456789").cps.toList)) (by rw [List.length_map]) (by rw [len_cl]; omega) (fun i d b hd hb H' k os s1 ol hk => ?_) (fun p H' ys hp1 s1 e1 hL => ?_)
  ·obtain ⟨o, rfl⟩ : ∃ o, os = [o] := List.length_eq_one_iff.mp ol
   walk_at "rd"
   rw [List.getElem?_map, hd] at hb
   cases hb
   exact ⟨[_], rfl, rfl, _, rfl, hk _ _ (fun _ _ e => e) rfl⟩
  ·rw [map_list (g := V.bl) (fun _ _ _ h => h) hL] at e1
   refine ⟨p, rfl, _, e1, ?_⟩
   rcases hb with hb | hb | hb | hb
   ·exact absurd hb c1
   ·exact absurd hb c2
   ·rw [if_pos hb]
    exact fun _ => q _ s1
   ·by_cases c3 : (z.cps.toList.map fun d => decide (d ∈ (Str.ofString "0123456789").cps.toList)).all id = false
    ·rw [if_pos c3]
     exact fun _ => q _ s1
    rw [if_neg c3, c_nought, starts_one, if_pos hb.1, if_pos hb.2]
    exact q _ s1
end
def Err (E : XK) (C : Addr) (H : Hp) : Prop := ∀ H', Same H H' → E (.ref C) none H'
theorem Err.now {E : XK} {C : Addr} {H : Hp} (h : Err E C H) : E (.ref C) none H := h H fun _ _ e => e
theorem Err.same {E : XK} {C : Addr} {H H' : Hp} (h : Err E C H) (s : Same H H') : Err E C H' := fun H2 s2 => h H2 (s.trans s2)
def isNeg (z : Str) : Bool := Txt.startswith z (one 45)
def bodyZ (z : Str) : Str := if isNeg z = true then Txt.slice z (some 1) none else z
def PartOk (p : Str × Option Int) : Prop := (∀ n, p.2 = some n → p.1 = numS n ∧ 0 ≤ n ∧ n < 10 ^ 30) ∧ (p.2 = none → BadW p.1)
def RatRd (z : Str) (ps : List (Str × Option Int)) : Prop := Txt.split (bodyZ z) (one 47) = ps.map (·.1) ∧ ps.length ≤ 100 ∧ ps ≠ [] ∧ (bodyZ z).length ≤ 1000 ∧ ∀ p ∈ ps, PartOk p
def oneOf (z : Str) (ns : List Int) : Int × Int := (if isNeg z = true then -(ns.getD 0 0) else ns.getD 0 0, if ns.length = 1 then 1 else ns.getD 1 0)
def PartR (_ : Hp) (v : V) (p : Str × Option Int) : Prop := ∃ n, p.2 = some n ∧ v = .int n
theorem part_keeps : Keeps PartR := fun _ _ _ _ h _ => h
theorem part_list {H : Hp} {ys : List V} {ps : List (Str × Option Int)} (h : ListV PartR H ys ps) : ∃ ns : List Int, ps.map (·.2) = ns.map some ∧ ys = ns.map V.int := by
 obtain ⟨hl, hx⟩ := h
 induction ps generalizing ys with
 | nil => exact ⟨[], rfl, List.eq_nil_of_length_eq_zero hl⟩
 | cons p ps ih =>
  match ys, hl with
  | y :: ys, hl =>
   obtain ⟨n, h1, h2⟩ := hx 0 y p rfl rfl
   obtain ⟨ns, h3, h4⟩ := ih (ys := ys) (by simpa using hl) fun i x q e1 e2 => hx (i + 1) x q e1 e2
   exact ⟨n :: ns, by rw [List.map_cons, List.map_cons, h1, h3], by rw [List.map_cons, h2, h4]⟩
section
variable {P : Program} {w : World} {K : PySem.W.Frag} {mg : Str → Option Value} {base : Heap} {f : Addr} {fd : FuncData} {CT CNT CNX CS CD : Addr}
def sp_lookTX (CNX : Addr) : Sp := fun vs H Q E => ∃ x, vs = [x] ∧ Th0 H x ∧ ((∃ z, x = .str z) → Q .non H) ∧ ((∀ z, x ≠ .str z) → E (.ref CNX) none H)
theorem kind_str {H : Hp} {x : V} {t : String} (h : kindV H x = some t) : isA t "str" = true ↔ ∃ z, x = .str z := by
 cases x with
 | str z => cases h; exact ⟨fun _ => ⟨z, rfl⟩, fun _ => rfl⟩
 | ref a =>
  refine ⟨fun y => ?_, fun ⟨z, e⟩ => nomatch e⟩
  unfold kindV at h
  dsimp only at h
  split at h <;> first | (cases h; exact absurd y (by decide)) | cases h
 | _ => refine ⟨fun y => ?_, fun ⟨z, e⟩ => nomatch e⟩; first | (cases h; exact absurd y (by decide)) | cases h
theorem ok_lookTX (F : FunD K "look_text" "look_text" s_look_text .none f fd) (n_isinstance : mg "isinstance" = none) (n_str : mg "str" = none) (m_NoText : mg "NoText" = some (.ref CNX)) (ec_NoText : ErrC K CNX) : FnOk P w K mg base (CX1 P w) 1 f fd ["thing"] (sp_lookTX CNX) := by
 refine okX F sc_look_text (fun vs H Q E h => ?_) (fun cdv A outer s H vs Q E hr h => ?_)
 ·obtain ⟨x, rfl, _⟩ := h; rfl
 obtain ⟨x, rfl, ⟨t, ht⟩, q1, q2⟩ := h
 refine ⟨_, (b_one (s_if (t_not (t_val (q_inst rfl n_isinstance (a_c (q_v 0) (a_c (q_ty rfl n_str rfl) a_nil))))) (b_one (s_raise goes_of m_NoText ec_NoText rfl (a_c q_str a_nil))) b_nil)), ?_⟩
 rw [show start ["thing"] [x] = [some (x)] from rfl]
 walk_at "rd"
 refine ⟨t, ht, ?_⟩
 by_cases c : isA t "str" = true
 ·rw [if_neg (by rw [c]; decide)]
  exact q1 ((kind_str ht).mp c)
 ·rw [if_pos (by simpa using c)]
  exact q2 fun z e => c ((kind_str ht).mpr ⟨z, e⟩)
def sp_readRX (CNX : Addr) : Sp := fun vs H Q E => ∃ x, vs = [x] ∧ ((∃ z ps, x = .str z ∧ z.length ≤ 1000 ∧ RatRd z ps ∧ ((∃ p ∈ ps, p.2 = none) → Err E CNX H) ∧ ∀ ns : List Int, ps.map (·.2) = ns.map some → (∀ t : Rat, Few t → (t.num, (t.den : Int)) = oneOf z ns → (ratS t = z → ∀ r H', Same H H' → RatV H' r t → Q r H') ∧ (ratS t ≠ z → Err E CNX H)) ∧ ((¬ ∃ t : Rat, (t.num, (t.den : Int)) = oneOf z ns) → Err E CNX H))
 ∨ (Th0 H x ∧ (∀ z, x ≠ .str z) ∧ Err E CNX H))
theorem ok_readRX (F : FunD K "read_ratio" "read_ratio" s_read_ratio .none f fd) (n_len : mg "len" = none) (m_NoText : mg "NoText" = some (.ref CNX)) (ec_NoText : ErrC K CNX) (F_look_text : Fn P w K mg base (CX1 P w) 1 "look_text" ["thing"] (sp_lookTX CNX)) (F_read_whole : Fn P w K mg base (CX1 P w) 2 "read_whole" ["text"] (sp_readWX CNX)) (F_is_ratio : Fn P w K mg base CX0 2 "is_ratio" ["thing"] sp_fr)
  (F_show_ratio : Fn P w K mg base CX0 1 "show_ratio" ["one"] sp_showR) : FnOk P w K mg base (CX1 P w) 4 f fd ["text"] (sp_readRX CNX) := by
 refine okX F sc_read_ratio (fun vs H Q E h => ?_) (fun cdv A outer s H vs Q E hr h => ?_)
 ·obtain ⟨q, rfl, _⟩ := h; rfl
 obtain ⟨x, rfl, h⟩ := h
 refine ⟨_, (b_cons (s_expr (q_fnX goes_of F_look_text hr (by decide) rfl (a_c (q_v 0) a_nil)))
   (b_cons (s_set 1 sc_read_ratio.nd (q_starts (q_v 0) (a_c q_str a_nil)))
   (b_cons (s_setCompX goes_of 2 (blk0 ["part"]) (i_list (q_split (q_ifE (t_val (q_v 1)) (q_cutRX (q_v 0) q_int) (q_v 0)) (a_c q_str a_nil))) (by exact fun s H fp => (g_name 0 (show List.Nodup (["part"] : List Str) from by decide +kernel))) (by exact fun s H fp => (q_fnP blk_pass F_read_whole hr (by decide) rfl (a_c (q_v 0) a_nil))) (g_name 2 sc_read_ratio.nd))
   (b_cons (s_set 3 sc_read_ratio.nd (q_ifE (t_val (q_v 1)) (q_neg (q_ixL (q_v 2) q_int)) (q_ixL (q_v 2) q_int)))
   (b_cons (s_set 4 sc_read_ratio.nd (q_tup (a_c (q_v 3) (a_c (q_ifE (t_eq (q_len rfl n_len (a_c (q_v 2) a_nil)) q_int) q_int (q_ixL (q_v 2) q_int)) a_nil))))
   (b_cons (s_if (t_w (w_or (t_not (t_val (q_fn F_is_ratio hr (by decide) rfl (a_c (q_v 4) a_nil)))) (w_or1 (t_ne (q_fn F_show_ratio hr (by decide) rfl (a_c (q_v 4) a_nil)) (q_v 0))))) (b_one (s_raise goes_of m_NoText ec_NoText rfl (a_c q_str a_nil))) b_nil)
   (b_one (s_ret (q_v 4))))))))), ?_⟩
 rw [show start ["text", "below", "numbers", "top", "one"] [x] = [some (x), none, none, none, none] from rfl]
 refine seq_go fun B hB => ?_
 walk_at "rd"
 rcases h with ⟨z, ps, rfl, hzl, ⟨hsp, hpl, hne, hbl, hpo⟩, qE, qN⟩ | ⟨ht, hn, qE⟩
 rotate_left
 ·exact ⟨x, rfl, ht, fun ⟨z, e⟩ => absurd e (hn z), fun _ => qE.now⟩
 refine ⟨_, rfl, ⟨"str", rfl⟩, fun _ => ?_, fun y => absurd rfl (y z)⟩
 subst hB
 try dsimp only
 refine seq_go fun B hB => ?_
 walk_at "rd"
 rw [c_minus]
 subst hB
 try dsimp only
 refine seq_go fun B hB => ?_
 have blk : ∀ l H2, H l = none → Same H H2 → H2 l = some (.lst ((Txt.split (bodyZ z) (one 47)).map V.str)) → (∃ xs, SqL K H2 l xs) ∧ tBlk 1 (capOf [some (V.str z), some (V.bl (Txt.startswith z (one 45))), none, none, none] []) (Itl K l) (gName 0) (tCall (sp_readWX CNX) [] E (tCons (tVar 0) tNil)) H2 fun x H1 => B [some (V.str z), some (V.bl (Txt.startswith z (one 45))), some x, none, none] H1 := by
  intro l H2 hl s2 e2
  refine ⟨⟨_, .of e2⟩, ?_⟩
  rw [hsp] at e2
  rw [show capOf [some (V.str z), some (V.bl (Txt.startswith z (one 45))), none, none, none] [] = [] from rfl]
  refine blk_gen PartR part_keeps (xs := (ps.map (·.1)).map V.str) (as := ps) e2 (by rw [List.length_map, List.length_map]) (by rw [List.length_map, List.length_map]; omega) (fun i y p hy hp H' k os s3 ol hk => ?_) (fun pl H3 ys hpl3 s3 e3 hL => ?_)
  ·obtain ⟨o, rfl⟩ : ∃ o, os = [o] := List.length_eq_one_iff.mp ol
   rw [List.getElem?_map, List.getElem?_map, hp] at hy
   cases hy
   have hm := List.mem_of_getElem? hp
   obtain ⟨g1, g2⟩ := hpo p hm
   walk_at "rd"
   cases c : p.2 with
   | some n =>
    obtain ⟨g3, g4, g5⟩ := g1 n c
    exact ⟨[_], rfl, rfl, _, rfl, .inl ⟨n, g3, g4, g5, fun H4 s4 => hk _ _ s4 ⟨n, c, rfl⟩⟩⟩
   | none => exact ⟨[_], rfl, rfl, _, rfl, .inr ⟨g2 c, fun H4 s4 => qE ⟨p, hm, c⟩ _ (s2.trans (s3.trans s4))⟩⟩
  obtain ⟨ns, hns, rfl⟩ := part_list hL
  have hnl : ns.length = ps.length := by have := congrArg List.length hns; simpa using this.symm
  have hnp : 1 ≤ ns.length := by rw [hnl]; cases ps with | nil => exact absurd rfl hne | cons _ _ => simp
  obtain ⟨qN1, qN2⟩ := qN ns hns
  have hnb : ∀ n ∈ ns, 0 ≤ n ∧ n < 10 ^ 30 := by
   intro n hn
   have : some n ∈ ps.map (·.2) := by rw [hns]; exact List.mem_map.mpr ⟨n, hn, rfl⟩
   obtain ⟨p, hp, e⟩ := List.mem_map.mp this
   exact ((hpo p hp).1 n e).2
  have s23 := s2.trans s3
  obtain ⟨n0, nr, rfl⟩ : ∃ n0 nr, ns = n0 :: nr := by cases ns with | nil => simp at hnp | cons a b => exact ⟨a, b, rfl⟩
  have h0 : atI ((n0 :: nr).map V.int) 0 = some (.int n0) := atI0 _ _
  subst hB
  try dsimp only
  refine seq_go fun B hB => ?_
  have tail : ∀ top, top = (oneOf z (n0 :: nr)).1 → B [some (V.str z), some (V.bl (Txt.startswith z (one 45))), some (V.ref pl), some (V.int top), none] H3 := by
   intro top htop
   subst hB
   try dsimp only
   refine seq_go fun B hB => ?_
   have tail2 : ∀ bt p H4, bt = (oneOf z (n0 :: nr)).2 → Same H3 H4 → H4 p = some (HO.tup [V.int top, V.int bt]) → B [some (V.str z), some (V.bl (Txt.startswith z (one 45))), some (V.ref pl), some (V.int top), some (V.ref p)] H4 := by
    intro bt p H4 hbt s4 e4
    have hone : (top, bt) = oneOf z (n0 :: nr) := by rw [htop, hbt]
    have s24 := s23.trans s4
    subst hB
    try dsimp only
    refine seq_go fun B hB => ?_
    refine if_go fun A hA C hC => ?_
    have bad : ∀ H5, Same H4 H5 → Err E CNX H → A [some (V.str z), some (V.bl (Txt.startswith z (one 45))), some (V.ref pl), some (V.int top), some (V.ref p)] H5 := by
     intro H5 s5 hE
     subst hA
     walk_at "rd"
     exact hE _ (s24.trans s5)
    walk_at "rd"
    refine ⟨_, rfl, th_pair e4 (th_int _).1 (th_int _).1, _, rfl, ?_⟩
    rw [fr_pair e4, frV_ii]
    by_cases c : 1 ≤ bt ∧ Int.gcd top bt = 1
    ·have ht : ∃ t : Rat, t.num = top ∧ (t.den : Int) = bt := ⟨⟨top, bt.toNat, by omega, by
      have := c.2
      unfold Int.gcd at this
      rw [show bt.natAbs = bt.toNat by omega] at this
      exact this⟩, rfl, by show ((bt.toNat : Nat) : Int) = bt; omega⟩
     obtain ⟨t, rfl, rfl⟩ := ht
     have hf : Few t := by
      have m0 := hnb n0 (by simp)
      refine ⟨?_, ?_⟩
      ·have : t.num = (oneOf z (n0 :: nr)).1 := htop
       unfold oneOf at this
       dsimp only at this
       rw [show (n0 :: nr).getD 0 0 = n0 from rfl] at this
       split at this <;> omega
      ·have : (t.den : Int) = (oneOf z (n0 :: nr)).2 := hbt
       unfold oneOf at this
       dsimp only at this
       split at this
       ·omega
       ·rename_i hc
        match nr, hc with
        | n1 :: nr, _ =>
         have m1 := hnb n1 (by simp)
         rw [show (n0 :: n1 :: nr).getD 1 0 = n1 from rfl] at this
         omega
     have hv : RatV H4 (.ref p) t := ⟨p, rfl, e4⟩
     rw [decide_eq_true c.1, decide_eq_true c.2, if_neg (by decide)]
     refine ⟨_, t, rfl, hv, hf, rfl, ?_⟩
     obtain ⟨g1, g2⟩ := qN1 t hf hone
     by_cases c3 : ratS t = z
     ·rw [if_neg (fun y => y (by rw [c3]))]
      subst hC
      subst hB
      walk_at "rd"
      exact g1 c3 _ _ s24 hv
     ·rw [if_pos (fun y => c3 (by injection y))]
      exact bad _ (fun _ _ e => e) (g2 c3)
    ·rw [show (decide (1 ≤ bt) && decide (Int.gcd top bt = 1)) = false by
      rw [Bool.and_eq_false_iff]
      by_cases c4 : 1 ≤ bt
      ·exact .inr (decide_eq_false fun y => c ⟨c4, y⟩)
      ·exact .inl (decide_eq_false c4), if_pos (by rfl)]
     refine bad _ (fun _ _ e => e) (qN2 fun ⟨t, ht⟩ => c ?_)
     rw [← hone] at ht
     injection ht with ht1 ht2
     rw [← ht1, ← ht2]
     have hdp := t.den_pos
     refine ⟨by omega, ?_⟩
     show Nat.gcd t.num.natAbs (Int.natAbs (t.den : Int)) = 1
     rw [Int.natAbs_natCast]
     exact t.reduced
   walk_at "rd"
   refine ⟨_, .inl e3, ?_⟩
   rw [List.length_map]
   by_cases c : (n0 :: nr).length = 1
   ·rw [if_pos (by omega)]
    intro p H4 hp s4 e4
    exact tail2 1 p H4 (by unfold oneOf; dsimp only; rw [if_pos c]) s4 e4
   ·rw [if_neg (by omega)]
    match nr, c with
    | n1 :: nr, c => exact ⟨_, e3, .int n1, atI1 _ _ _, fun p H4 hp s4 e4 => tail2 n1 p H4 (by unfold oneOf; dsimp only; rw [if_neg c]; rfl) s4 e4⟩
  walk_at "rd"
  by_cases c : Txt.startswith z (one 45) = true
  ·rw [if_pos c]
   exact ⟨_, e3, _, h0, n0, rfl, tail _ (by unfold oneOf isNeg; dsimp only; rw [if_pos c]; rfl)⟩
  ·rw [if_neg c]
   exact ⟨_, e3, _, h0, tail _ (by unfold oneOf isNeg; dsimp only; rw [if_neg c]; rfl)⟩
 simp only [tAsg, tComp, cxK, iList]
 walk_at "rd"
 by_cases c : Txt.startswith z (one 45) = true
 ·rw [if_pos c]
  rw [show Txt.slice z (some 1) none = bodyZ z by unfold bodyZ isNeg; rw [if_pos c]]
  exact ⟨by omega, 47, c_slash, by omega, blk⟩
 ·rw [if_neg c]
  refine ⟨47, c_slash, by omega, ?_⟩
  conv in Txt.split z => rw [show z = bodyZ z by unfold bodyZ isNeg; rw [if_neg c]]
  exact blk
end
def BadRat (v : Str) : Prop := v.length ≤ 1000 ∧ ∃ ps, RatRd v ps ∧ ((∃ p ∈ ps, p.2 = none) ∨ ∃ ns : List Int, ps.map (·.2) = ns.map some ∧ ∀ t : Rat, Few t → (t.num, (t.den : Int)) = oneOf v ns → ratS t ≠ v)
theorem some_inj {ns ms : List Int} (h : ns.map some = ms.map some) : ns = ms := by
 induction ns generalizing ms with
 | nil => cases ms with | nil => rfl | cons _ _ => simp at h
 | cons a ns ih =>
  cases ms with
  | nil => simp at h
  | cons b ms =>
   rw [List.map_cons, List.map_cons] at h
   injection h with h1 h2
   injection h1 with h1
   rw [h1, ih h2]
theorem badrat_sp {CNX : Addr} {v : Str} {H : Hp} {Q : VK} {E : XK} (h : BadRat v) (q : Err E CNX H) : sp_readRX CNX [.str v] H Q E := by
 obtain ⟨hl, ps, hr, h⟩ := h
 refine ⟨_, rfl, .inl ⟨v, ps, rfl, hl, hr, fun _ => q, fun ns hns => ⟨fun t hf ht => ⟨fun e => ?_, fun _ => q⟩, fun _ => q⟩⟩⟩
 rcases h with ⟨p, hp, hn⟩ | ⟨ms, hms, hb⟩
 ·have : p.2 ∈ ps.map (·.2) := List.mem_map.mpr ⟨p, hp, rfl⟩
  rw [hns, hn] at this
  obtain ⟨_, _, z⟩ := List.mem_map.mp this
  cases z
 ·rw [hns] at hms
  rw [some_inj hms] at ht
  exact absurd e (hb t hf ht)
theorem nottext_sp {CNX : Addr} {x : V} {H : Hp} {Q : VK} {E : XK} (h : Th0 H x) (hn : ∀ z, x ≠ .str z) (q : Err E CNX H) : sp_readRX CNX [x] H Q E := ⟨x, rfl, .inr ⟨h, hn, q⟩⟩
theorem neg_rat (q : Rat) : isNeg (ratS q) = decide (q.num < 0) := rat_below q
theorem body_rat (q : Rat) : bodyZ (ratS q) = bodyS q := by
 unfold bodyZ
 rw [neg_rat]
 by_cases c : q.num < 0
 ·rw [decide_eq_true c, if_pos rfl, ratS_neg c, cut_one]
 ·rw [decide_eq_false c, if_neg (by decide), ratS_pos (by omega)]
theorem rat_eq {q t : Rat} (h1 : t.num = q.num) (h2 : (t.den : Int) = (q.den : Int)) : t = q := Rat.ext h1 (by omega)
theorem one_rat (q : Rat) : oneOf (ratS q) (partI q) = (q.num, (q.den : Int)) := by
 unfold oneOf
 rw [neg_rat]
 have e0 : (partI q).getD 0 0 = (q.num.natAbs : Int) := by unfold partI; split <;> rfl
 rw [e0]
 refine Prod.ext ?_ ?_
 ·dsimp only
  by_cases c : q.num < 0
  ·rw [decide_eq_true c, if_pos rfl]; omega
  ·rw [decide_eq_false c, if_neg (by decide)]; omega
 ·dsimp only
  unfold partI
  by_cases c : (q.den : Int) = 1
  ·rw [if_pos c, c]
   rfl
  ·rw [if_neg c, if_neg (by simp)]
   rfl
theorem goodrat_sp {CNX : Addr} {t : Rat} {H : Hp} {Q : VK} {E : XK} (hf : Few t) (q : ∀ r H', Same H H' → RatV H' r t → Q r H') : sp_readRX CNX [.str (ratS t)] H Q E := by
 have hl := ratS_len hf
 have hb := body_len hf
 have hpl : (partI t).length ≤ 2 ∧ partI t ≠ [] := by unfold partI; split <;> simp
 refine ⟨_, rfl, .inl ⟨ratS t, (partI t).map fun n => (numS n, some n), rfl, by omega, ⟨?_, by rw [List.length_map]; omega, fun z => hpl.2 (by simpa using z), by rw [body_rat]; omega, fun p hp => ?_⟩, fun ⟨p, hp, hn⟩ => ?_, fun ns hns => ?_⟩⟩
 ·rw [body_rat, body_split, List.map_map]
  rfl
 ·obtain ⟨n, hn, rfl⟩ := List.mem_map.mp hp
  refine ⟨fun m hm => ?_, fun z => nomatch z⟩
  cases hm
  exact ⟨rfl, part_few hf n hn⟩
 ·obtain ⟨n, _, rfl⟩ := List.mem_map.mp hp
  cases hn
 ·rw [List.map_map] at hns
  have e : partI t = ns := some_inj hns
  subst e
  rw [one_rat]
  refine ⟨fun u hu ht => ?_, fun z => absurd ⟨t, rfl⟩ z⟩
  injection ht with h1 h2
  have := rat_eq h1 h2
  subst this
  exact ⟨fun _ => q, fun z => absurd rfl z⟩
def BadRow (z : Str) : Prop := z.length ≤ 1000 ∧ ((Txt.split z (one 32)).length ≠ 2 ∨ ∃ n v, Txt.split z (one 32) = [numS n, v] ∧ 0 ≤ n ∧ n < 10 ^ 30 ∧ BadRat v)
section
variable {P : Program} {w : World} {K : PySem.W.Frag} {mg : Str → Option Value} {base : Heap} {f : Addr} {fd : FuncData} {CT CNT CNX CS CD : Addr}
def sp_readRoadX (CNX : Addr) : Sp := fun vs H Q E => ∃ z, vs = [.str z] ∧ ((∃ r : Nat × Rat, z = roadS r ∧ Few r.2 ∧ r.1 < 10 ^ 30 ∧ ∀ x H', Same H H' → RoadV H' x r → Q x H') ∨ (BadRow z ∧ Err E CNX H))
theorem ok_readRoadX (F : FunD K "read_road" "read_road" s_read_road .none f fd) (n_len : mg "len" = none) (m_NoText : mg "NoText" = some (.ref CNX)) (ec_NoText : ErrC K CNX) (F_read_whole : Fn P w K mg base (CX1 P w) 2 "read_whole" ["text"] (sp_readWX CNX)) (F_read_ratio : Fn P w K mg base (CX1 P w) 4 "read_ratio" ["text"] (sp_readRX CNX)) : FnOk P w K mg base (CX1 P w) 5 f fd ["row"] (sp_readRoadX CNX) := by
 refine okX F sc_read_road (fun vs H Q E h => ?_) (fun cdv A outer s H vs Q E hr h => ?_)
 ·obtain ⟨q, rfl, _⟩ := h; rfl
 obtain ⟨z, rfl, h⟩ := h
 refine ⟨_, (b_cons (s_set 1 sc_read_road.nd (q_split (q_v 0) (a_c q_str a_nil)))
   (b_cons (s_if (t_ne (q_len rfl n_len (a_c (q_v 1) a_nil)) q_int) (b_one (s_raise goes_of m_NoText ec_NoText rfl (a_c q_str a_nil))) b_nil)
   (b_one (s_ret (q_tup (a_c (q_fnX goes_of F_read_whole hr (by decide) rfl (a_c (q_ixL (q_v 1) q_int) a_nil)) (a_c (q_fnX goes_of F_read_ratio hr (by decide) rfl (a_c (q_ixL (q_v 1) q_int) a_nil)) a_nil))))))), ?_⟩
 rw [show start ["row", "words"] [.str z] = [some (.str z), none] from rfl]
 walk_at "rd"
 rcases h with ⟨r, rfl, hf, hr1, q⟩ | ⟨⟨hl, hb⟩, q⟩
 ·have hl := roadS_len hf hr1
  refine ⟨32, c_blank, by omega, fun l H1 hl1 s1 e1 => ?_⟩
  rw [road_split] at e1
  refine ⟨_, .inl e1, ?_⟩
  rw [if_neg (by simp)]
  refine ⟨_, e1, _, rfl, _, rfl, .inl ⟨(r.1 : Int), rfl, by omega, by omega, fun H2 s2 => ⟨_, s2 _ _ e1, _, rfl, goodrat_sp hf fun y H3 s3 hy p H4 hp s4 e4 => ?_⟩⟩⟩
  exact q _ _ (s1.trans (s2.trans (s3.trans s4))) ⟨p, y, rfl, e4, hy.same s4⟩
 ·refine ⟨32, c_blank, by omega, fun l H1 hl1 s1 e1 => ⟨_, .inl e1, ?_⟩⟩
  rw [List.length_map]
  by_cases c : (Txt.split z (one 32)).length = 2
  ·rw [if_neg (by omega)]
   rcases hb with hb | ⟨n, v, hu, h0, h1, hw⟩
   ·exact absurd c hb
   rw [hu] at e1
   exact ⟨_, e1, _, rfl, _, rfl, .inl ⟨n, rfl, h0, h1, fun H2 s2 => ⟨_, s2 _ _ e1, _, rfl, badrat_sp hw (q.same (s1.trans s2))⟩⟩⟩
  ·rw [if_pos (by omega)]
   exact q _ s1
end
def FewT (rs : List (Nat × Rat)) : Prop := ∀ r ∈ rs, Few r.2 ∧ r.1 < 10 ^ 30
def TextG (z : Str) (rs : List (Nat × Rat)) : Prop := z = treeS rs ∧ TreeOk rs ∧ FewT rs ∧ (∀ r ∈ rs, 0 ≤ r.2.num) ∧ rs.length ≤ 40
def TextB (z : Str) : Prop := z ≠ Str.ofString "" ∧ z.length ≤ 100000 ∧ (Txt.split z (one 10)).length < 1000 ∧ (∀ y ∈ Txt.split z (one 10), BadRow y ∨ ∃ r, y = roadS r ∧ Few r.2 ∧ r.1 < 10 ^ 30) ∧ ∃ y ∈ Txt.split z (one 10), BadRow y
def NBad (_ : Hp) (_ : V) (y : Str) : Prop := ¬ BadRow y
section
variable {P : Program} {w : World} {K : PySem.W.Frag} {mg : Str → Option Value} {base : Heap} {f : Addr} {fd : FuncData} {CT CNT CNX CS CD : Addr}
def sp_readTreeX (CT CNX : Addr) : Sp := fun vs H Q E => ∃ x, vs = [x] ∧ ((∃ z rs, x = .str z ∧ TextG z rs ∧ ∀ x H', Same H H' → TreeV CT H' x rs → Q x H') ∨ (∃ z, x = .str z ∧ TextB z ∧ Err E CNX H) ∨ (Th0 H x ∧ (∀ z, x ≠ .str z) ∧ Err E CNX H))
theorem ok_readTreeX (F : FunD K "read_tree" "read_tree" s_read_tree .none f fd) (F_look_text : Fn P w K mg base (CX1 P w) 1 "look_text" ["thing"] (sp_lookTX CNX)) (F_read_road : Fn P w K mg base (CX1 P w) 5 "read_road" ["row"] (sp_readRoadX CNX)) (K_Tree : Mkr P w K mg base CX0 6 CT "Tree" ["self", "roads"] (sp_init CT)) : FnOk P w K mg base (CX1 P w) 8 f fd ["text"] (sp_readTreeX CT CNX) := by
 refine okX F sc_read_tree (fun vs H Q E h => ?_) (fun cdv A outer s H vs Q E hr h => ?_)
 ·obtain ⟨q, rfl, _⟩ := h; rfl
 obtain ⟨x, rfl, h⟩ := h
 refine ⟨_, (b_cons (s_expr (q_fnX goes_of F_look_text hr (by decide) rfl (a_c (q_v 0) a_nil)))
   (b_cons (s_set 1 sc_read_tree.nd (q_ifE (t_ne (q_v 0) q_str) (q_split (q_v 0) (a_c q_str a_nil)) (q_lst a_nil)))
   (b_one (s_ret (q_make K_Tree hr (by decide) rfl (a_c (q_compX goes_of (blk0 ["row"]) (i_list (q_v 1)) (by exact fun s H fp => (g_name 0 (show List.Nodup (["row"] : List Str) from by decide +kernel))) (by exact fun s H fp => (q_fnP blk_pass F_read_road hr (by decide) rfl (a_c (q_v 0) a_nil)))) a_nil)))))), ?_⟩
 rw [show start ["text", "rows"] [x] = [some (x), none] from rfl]
 refine seq_go fun B hB => ?_
 walk_at "rd"
 rcases h with ⟨z, rs, rfl, ⟨rfl, hT, hf, hn, hl⟩, q⟩ | ⟨z, rfl, ⟨hz, hzl, hsl, hrow, y0, hy0, hb0⟩, q⟩ | ⟨ht, hn, q⟩
 rotate_left 2
 ·exact ⟨x, rfl, ht, fun ⟨z, e⟩ => absurd e (hn z), fun _ => q.now⟩
 ·refine ⟨_, rfl, ⟨"str", rfl⟩, fun _ => ?_, fun y => absurd rfl (y _)⟩
  subst hB
  try dsimp only
  refine seq_go fun B hB => ?_
  walk_at "rd"
  have htl := tree_len hf (by omega)
  have k1 : ∀ l H1, H l = none → Same H H1 → H1 l = some (.lst ((rs.map roadS).map V.str)) → B [some (V.str (treeS rs)), some (V.ref l)] H1 := by
   intro l H1 hl1 s1 e1
   subst hB
   try dsimp only
   simp only [tRet, tMake, tCons, tComp, iList, cxK]
   walk_at "rd"
   refine ⟨⟨_, .of e1⟩, ?_⟩
   rw [show capOf [some (V.str (treeS rs)), some (V.ref l)] [] = [] from rfl]
   refine blk_gen RoadV (fun H H' v a h k => h.keep k) (xs := (rs.map roadS).map V.str) (as := rs) e1 (by rw [List.length_map, List.length_map]) (by rw [List.length_map, List.length_map]; omega) (fun i y r hy hr1 H' k os s2 ol hk => ?_) (fun pl H2 ys hpl s2 e2 hL => ?_)
   ·obtain ⟨o, rfl⟩ : ∃ o, os = [o] := List.length_eq_one_iff.mp ol
    rw [List.getElem?_map, List.getElem?_map, hr1] at hy
    cases hy
    have hm := hf r (List.mem_of_getElem? hr1)
    walk_at "rd"
    exact ⟨[_], rfl, rfl, _, rfl, .inl ⟨r, rfl, hm.1, hm.2, fun x H4 s4 hx => hk _ _ s4 hx⟩⟩
   ·intro x dx hx hdx hne
    have old : ∀ b o, H2 b = some o → upd (upd H2 dx (.own x)) x (.ins CT dx []) b = some o := fun b o e => by rw [upd_ne (ne_of_none e hx), upd_ne (ne_of_none e hdx)]; exact e
    refine ⟨x, dx, pl, ys, rs, rfl, upd_same, old _ _ e2, RoadsV.keep (H := H2) hL (fun b ys e => old b _ e), hT, hl, hn, fun H5 k5 hT5 _ => ⟨rfl, ?_⟩⟩
    have s5 : Same H2 H5 := fun b o e => k5 b o (ne_of_none e hx) (old b o e)
    exact q _ _ (s1.trans (s2.trans s5)) hT5
  by_cases c : treeS rs = Str.ofString ""
  ·rw [if_neg (fun z => z c)]
   have hz := tree_empty.mp c
   intro p H2 hp s2 e2
   refine k1 p H2 hp s2 ?_
   rw [hz]
   exact e2
  ·rw [if_pos c]
   refine ⟨10, c_line, by omega, fun l H2 hl2 s2 e2 => ?_⟩
   rw [tree_split (fun z => c (tree_empty.mpr z))] at e2
   exact k1 l H2 hl2 s2 e2
 ·refine ⟨_, rfl, ⟨"str", rfl⟩, fun _ => ?_, fun y => absurd rfl (y _)⟩
  subst hB
  try dsimp only
  refine seq_go fun B hB => ?_
  walk_at "rd"
  rw [if_pos hz]
  refine ⟨10, c_line, by omega, fun l H1 hl1 s1 e1 => ?_⟩
  subst hB
  try dsimp only
  simp only [tRet, tMake, tCons, tComp, iList, cxK]
  walk_at "rd"
  refine ⟨⟨_, .of e1⟩, ?_⟩
  rw [show capOf [some (V.str z), some (V.ref l)] [] = [] from rfl]
  refine blk_gen NBad (fun H H' v a h k => h) (xs := (Txt.split z (one 10)).map V.str) (as := Txt.split z (one 10)) e1 (by rw [List.length_map]) (by rw [List.length_map]; omega) (fun i y r hy hr1 H' k os s2 ol hk => ?_) (fun pl H2 ys hpl s2 e2 hL => ?_)
  ·obtain ⟨o, rfl⟩ : ∃ o, os = [o] := List.length_eq_one_iff.mp ol
   rw [List.getElem?_map, hr1] at hy
   cases hy
   walk_at "rd"
   by_cases cb : BadRow r
   ·exact ⟨[_], rfl, rfl, _, rfl, .inr ⟨cb, fun H4 s4 => q _ (s1.trans (s2.trans s4))⟩⟩
   ·rcases hrow r (List.mem_of_getElem? hr1) with g | ⟨rr, e, g1, g2⟩
    ·exact absurd g cb
    ·exact ⟨[_], rfl, rfl, _, rfl, .inl ⟨rr, e, g1, g2, fun x H4 s4 hx => hk _ _ s4 cb⟩⟩
  ·obtain ⟨i, hi⟩ := List.getElem?_of_mem hy0
   have hil : i < ys.length := by rw [hL.1]; exact (List.getElem?_eq_some_iff.mp hi).1
   exact absurd hb0 (hL.2 i _ _ (List.getElem?_eq_getElem hil) hi)
theorem TreeV.keepA {C a : Addr} {H H' : Hp} {x : V} {rs : List (Nat × Rat)} (h : TreeV C H x rs) (ha : H a = none) (s : ∀ b o, b ≠ a → H b = some o → H' b = some o) : TreeV C H' x rs := h.same fun b o e => s b o (ne_of_none e ha) e
theorem TreeV.but {C D x dx : Addr} {H : Hp} {v : V} {rs : List (Nat × Rat)} (h : TreeV C H v rs) (hx : H x = some (.ins D dx [])) (o : HO) : TreeV C (upd H x o) v rs := by
 have n1 : ∀ {b xs}, H b = some (.lst xs) → upd H x o b = some (.lst xs) := fun e => by rw [upd_ne (ne_of e hx (by intro z; cases z))]; exact e
 obtain ⟨a, da, la, wa, ls, ws, e, h1, h2, h3, h4, h5, h6⟩ := h
 exact ⟨a, da, la, wa, ls, ws, e, by rw [upd_ne (ne_of h1 hx (by intro z; cases z))]; exact h1, n1 h2, h3.keep fun b ys e => by rw [upd_ne (ne_of e hx (by intro z; cases z))]; exact e, n1 h4, h5, fun k x hx => let ⟨p, w, e, g1, g2⟩ := h6 k x hx; ⟨p, w, e, n1 g1, g2⟩⟩
def sp_initS (CS : Addr) : Sp := fun vs H Q _ => ∃ (a dx : Addr) (tr : V), vs = [.ref a, tr] ∧ H a = some (.ins CS dx []) ∧ ∀ H' ds ps, (∀ b o, b ≠ a → H b = some o → H' b = some o) → H' a = some (.ins CS dx [("land", tr), ("places", ds), ("past", ps)]) → Q .non H'
theorem ok_initS (F : Fun K "__init__" "Shire.__init__" s_Shire___init__ f fd) (cls_Shire : Cls K CS) (nf_land : NoAttr K CS "land") (nf_places : NoAttr K CS "places") (nf_past : NoAttr K CS "past") : FnOk P w K mg base CX0 1 f fd ["self", "tree"] (sp_initS CS) := by
 refine okQ F sc_Shire___init__ (fun vs H Q E h => ?_) (fun cdv A outer s H vs Q E hr h => ?_)
 ·obtain ⟨a, dx, tr, rfl, _⟩ := h; rfl
 obtain ⟨a, dx, tr, rfl, ha, q⟩ := h
 refine ⟨_, (b_cons (s_fld (q_v 0) (q_v 1))
   (b_cons (s_fld (q_v 0) q_dnew)
   (b_one (s_fld (q_v 0) (q_lst a_nil))))), ?_⟩
 rw [show start ["self", "tree"] [.ref a, tr] = [some (.ref a), some (tr)] from rfl]
 walk_at "rd"
 refine ⟨CS, dx, [], ha, cls_Shire, nf_land, by decide, fun ds H1 hds s1 e1 => ⟨CS, dx, _, s1 _ _ upd_same, cls_Shire, nf_places, (by show (1 : Nat) < 1000; decide), fun ps H2 hps s2 e2 => ⟨CS, dx, _, s2 _ _ upd_same, cls_Shire, nf_past, (by show (2 : Nat) < 1000; decide), ?_⟩⟩⟩
 refine q _ (.ref ds) (.ref ps) (fun b o hb e => ?_) ?_
 ·rw [upd_ne hb]
  exact s2 _ _ (by rw [upd_ne hb]; exact s1 _ _ (by rw [upd_ne hb]; exact e))
 ·rw [upd_same]
  rfl
def DeskV (CD CS CT : Addr) (H : Hp) (x : Addr) (rs : List (Nat × Rat)) : Prop := ∃ dx a da tr ds ps, H x = some (.ins CD dx [("shire", .ref a)]) ∧ H a = some (.ins CS da [("land", tr), ("places", ds), ("past", ps)]) ∧ TreeV CT H tr rs
theorem DeskV.same {H H' : Hp} {x : Addr} {rs : List (Nat × Rat)} (h : DeskV CD CS CT H x rs) (s : Same H H') : DeskV CD CS CT H' x rs := by
 obtain ⟨dx, a, da, tr, ds, ps, h1, h2, h3⟩ := h
 exact ⟨dx, a, da, tr, ds, ps, s _ _ h1, s _ _ h2, h3.same s⟩
def sp_deskX (CD CS CT CNX : Addr) : Sp := fun vs H Q E => ∃ (x dx : Addr) (y : V), vs = [.ref x, y] ∧ H x = some (.ins CD dx []) ∧ ((∃ z rs, y = .str z ∧ TextG z rs ∧ ∀ H', (∀ b o, b ≠ x → H b = some o → H' b = some o) → DeskV CD CS CT H' x rs → Q .non H') ∨ (∃ z, y = .str z ∧ TextB z ∧ Err E CNX H) ∨ (Th0 H y ∧ (∀ z, y ≠ .str z) ∧ Err E CNX H))
theorem ok_deskX (F : FunD K "__init__" "Desk.__init__" s_Desk___init__ .none f fd) (cls_Desk : Cls K CD) (nf_shire : NoAttr K CD "shire") (F_read_tree : Fn P w K mg base (CX1 P w) 8 "read_tree" ["text"] (sp_readTreeX CT CNX)) (K_Shire : Mkr P w K mg base CX0 1 CS "Shire" ["self", "tree"] (sp_initS CS)) : FnOk P w K mg base (CX1 P w) 9 f fd ["self", "text"] (sp_deskX CD CS CT CNX) := by
 refine okX F sc_Desk___init__ (fun vs H Q E h => ?_) (fun cdv A outer s H vs Q E hr h => ?_)
 ·obtain ⟨x, dx, y, rfl, _⟩ := h; rfl
 obtain ⟨x, dx, y, rfl, hx, h⟩ := h
 refine ⟨_, (b_one (s_fld (q_v 0) (q_make K_Shire hr (by decide) rfl (a_c (q_fnX goes_of F_read_tree hr (by decide) rfl (a_c (q_v 1) a_nil)) a_nil)))), ?_⟩
 rw [show start ["self", "text"] [.ref x, y] = [some (.ref x), some (y)] from rfl]
 walk_at "rd"
 refine ⟨y, rfl, ?_⟩
 rcases h with ⟨z, rs, rfl, hg, q⟩ | ⟨z, rfl, hb, q⟩ | ⟨ht, hn, q⟩
 ·refine .inl ⟨z, rs, rfl, hg, fun tv H1 s1 hT a da ha hda hne => ?_⟩
  have old : ∀ b o, H1 b = some o → upd (upd H1 da (.own a)) a (.ins CS da []) b = some o := fun b o e => by rw [upd_ne (ne_of_none e ha), upd_ne (ne_of_none e hda)]; exact e
  refine ⟨a, da, tv, rfl, upd_same, fun H2 ds ps k2 e2 => ⟨rfl, CD, dx, [], k2 _ _ (ne_of_none (s1 _ _ hx) ha) (old _ _ (s1 _ _ hx)), cls_Desk, nf_shire, by decide, q _ (fun b o hb e => ?_) ?_⟩⟩
  ·rw [upd_ne hb]
   exact k2 _ _ (ne_of_none (s1 _ _ e) ha) (old _ _ (s1 _ _ e))
  ·have hx2 := k2 _ _ (ne_of_none (s1 _ _ hx) ha) (old _ _ (s1 _ _ hx))
   have hT2 : TreeV CT H2 tv rs := hT.keepA ha (fun b o hb e => k2 _ _ hb (old _ _ e))
   exact ⟨dx, a, da, tv, ds, ps, upd_same, by rw [upd_ne (ne_of e2 hx2 (by intro z; cases z))]; exact e2, hT2.but hx2 _⟩
 ·exact .inr (.inl ⟨z, rfl, hb, q⟩)
 ·exact .inr (.inr ⟨ht, hn, q⟩)
end
theorem val_ne {z z' : Str} {v : V} {r : List (Key × V)} (h : z ≠ z') : valV ((Sum.inr z, v) :: r) (Sum.inr z' : Key) = valV r (Sum.inr z') := valV_neg (p := (Sum.inr z, v)) fun e => h (Sum.inr.inj e)
theorem val_eq {z : Str} {v : V} {r : List (Key × V)} : valV ((Sum.inr z, v) :: r) (Sum.inr z : Key) = some v := valV_pos (p := (Sum.inr z, v)) rfl
def GTup (K : PySem.W.Frag) (a : Addr) (xs : List V) : Prop := ∃ (o : Obj) (its : Array Value) (n : Nat), K.lookup a = some o ∧ o.cls = .type "tuple" ∧ o.data = .seq its n ∧ its.size ≤ sizeLine ∧ Vals xs its.toList
theorem GTup.at {K : PySem.W.Frag} {a : Addr} {xs : List V} (h : GTup K a xs) (H : Hp) : SqT K H a xs := .inr h
structure DeskT (P : Program) (w : World) (K : PySem.W.Frag) (aD aA aL : Addr) : Prop where
 d : ∃ T0 T1 T2 T3 T4 T5 T6, GDict P w K aD [(Sum.inr "come", .ref T0), (Sum.inr "go", .ref T1), (Sum.inr "move", .ref T2), (Sum.inr "price", .ref T3), (Sum.inr "cut", .ref T4), (Sum.inr "build", .ref T5), (Sum.inr "back", .ref T6)] ∧
  GTup K T0 [.str "name", .str "number"] ∧ GTup K T1 [.str "name"] ∧ GTup K T2 [.str "name", .str "number"] ∧ GTup K T3 [.str "number", .str "fraction"] ∧ GTup K T4 [.str "number", .str "fraction"] ∧ GTup K T5 [.str "number", .str "fraction"] ∧ GTup K T6 []
 a : ∃ T0 T1 T2 T3 T4 T5, GDict P w K aA [(Sum.inr "tree", .ref T0), (Sum.inr "homes", .ref T1), (Sum.inr "even", .ref T2), (Sum.inr "evenest", .ref T3), (Sum.inr "third", .ref T4), (Sum.inr "stairs", .ref T5)] ∧ GTup K T0 [] ∧ GTup K T1 [] ∧ GTup K T2 [] ∧ GTup K T3 [] ∧ GTup K T4 [] ∧ GTup K T5 []
 l : GDict P w K aL [(Sum.inr "cost", .str "name"), (Sum.inr "judge", .str "share")]
def NumFr (z : Str) : Prop := z = Str.ofString "price" ∨ z = Str.ofString "cut" ∨ z = Str.ofString "build"
section
variable {P : Program} {w : World} {K : PySem.W.Frag} {mg : Str → Option Value} {base : Heap} {f : Addr} {fd : FuncData} {CT CNT CNX CS CD aD aA aL : Addr}
theorem numfr_d (h : DeskT P w K aD aA aL) {z : Str} (hz : NumFr z) : ∃ kvs T, GDict P w K aD kvs ∧ valV kvs (Sum.inr z) = some (.ref T) ∧ GTup K T [.str "number", .str "fraction"] := by
 obtain ⟨T0, T1, T2, T3, T4, T5, T6, h0, _, _, _, h4, h5, h6, _⟩ := h.d
 rcases hz with rfl | rfl | rfl
 ·exact ⟨_, T3, h0, (val_ne (by decide +kernel)).trans ((val_ne (by decide +kernel)).trans ((val_ne (by decide +kernel)).trans val_eq)), h4⟩
 ·exact ⟨_, T4, h0, (val_ne (by decide +kernel)).trans ((val_ne (by decide +kernel)).trans ((val_ne (by decide +kernel)).trans ((val_ne (by decide +kernel)).trans val_eq))), h5⟩
 ·exact ⟨_, T5, h0, (val_ne (by decide +kernel)).trans ((val_ne (by decide +kernel)).trans ((val_ne (by decide +kernel)).trans ((val_ne (by decide +kernel)).trans ((val_ne (by decide +kernel)).trans val_eq)))), h6⟩
theorem numfr_l {z : Str} (hz : NumFr z) : valV ([(Sum.inr "cost", .str "name"), (Sum.inr "judge", .str "share")] : List (Key × V)) (Sum.inr z) = none := by
 rcases hz with rfl | rfl | rfl <;> exact (val_ne (by decide +kernel)).trans ((val_ne (by decide +kernel)).trans valV_nil)
theorem tree_d (h : DeskT P w K aD aA aL) : ∃ kvs, GDict P w K aD kvs ∧ valV kvs (Sum.inr (Str.ofString "tree")) = none := by
 obtain ⟨T0, T1, T2, T3, T4, T5, T6, h0, _⟩ := h.d
 exact ⟨_, h0, (val_ne (by decide +kernel)).trans ((val_ne (by decide +kernel)).trans ((val_ne (by decide +kernel)).trans ((val_ne (by decide +kernel)).trans ((val_ne (by decide +kernel)).trans ((val_ne (by decide +kernel)).trans ((val_ne (by decide +kernel)).trans valV_nil))))))⟩
theorem tree_l : valV ([(Sum.inr "cost", .str "name"), (Sum.inr "judge", .str "share")] : List (Key × V)) (Sum.inr (Str.ofString "tree")) = none := (val_ne (by decide +kernel)).trans ((val_ne (by decide +kernel)).trans valV_nil)
def sp_kinds (CNX : Addr) : Sp := fun vs H Q E => ∃ z n, vs = [.str z, .int n] ∧ ((NumFr z ∧ n = 2 ∧ ∀ l H', Same H H' → H' l = some (.lst [.str "number", .str "fraction"]) → Q (.ref l) H') ∨ (NumFr z ∧ n ≠ 2 ∧ Err E CNX H) ∨ (z = Str.ofString "tree" ∧ n = 0 ∧ ∀ l H', Same H H' → H' l = some (.lst []) → Q (.ref l) H'))
theorem ok_kinds (F : FunD K "kinds_behind" "kinds_behind" s_kinds_behind .none f fd) (n_len : mg "len" = none) (n_list : mg "list" = none) (m_NoText : mg "NoText" = some (.ref CNX)) (ec_NoText : ErrC K CNX) (m_DEEDS : mg "DEEDS" = some (.ref aD)) (m_ASKED : mg "ASKED" = some (.ref aA)) (m_LONG_ASKED : mg "LONG_ASKED" = some (.ref aL)) (dt : DeskT P w K aD aA aL) : FnOk P w K mg base (CX1 P w) 1 f fd ["first", "many"] (sp_kinds CNX) := by
 refine okX F sc_kinds_behind (fun vs H Q E h => ?_) (fun cdv A outer s H vs Q E hr h => ?_)
 ·obtain ⟨z, n, rfl, _⟩ := h; rfl
 obtain ⟨z, n, rfl, h⟩ := h
 refine ⟨_, (b_cons (s_if (t_inG (q_v 0) (q_cls rfl m_LONG_ASKED)) (b_one (s_ret (q_nev))) b_nil)
   (b_cons (s_set 2 sc_kinds_behind.nd (q_gget2 (q_cls rfl m_DEEDS) (q_v 0) (q_gget1 (q_cls rfl m_ASKED) (q_v 0))))
   (b_cons (s_if (t_w (w_or (t_isN (q_v 2) q_non) (w_or1 (t_ne (q_lenS rfl n_len (a_c (q_v 2) a_nil)) (q_v 1))))) (b_one (s_raise goes_of m_NoText ec_NoText rfl (a_c q_str a_nil))) b_nil)
   (b_one (s_ret (q_list rfl n_list (a_c (q_v 2) a_nil))))))), ?_⟩
 rw [show start ["first", "many", "kinds"] [.str z, .int n] = [some (.str z), some (.int n), none] from rfl]
 have hL : valV ([(Sum.inr "cost", .str "name"), (Sum.inr "judge", .str "share")] : List (Key × V)) (Sum.inr z) = none := by
  rcases h with ⟨hz, _⟩ | ⟨hz, _⟩ | ⟨rfl, _⟩
  ·exact numfr_l hz
  ·exact numfr_l hz
  ·exact tree_l
 refine seq_go fun B hB => ?_
 walk_at "rd"
 refine ⟨_, dt.l, Sum.inr z, rfl, ?_⟩
 rw [hL, if_neg (by decide)]
 subst hB
 try dsimp only
 refine seq_go fun B hB => ?_
 walk_at "rd"
 obtain ⟨A0, A1, A2, A3, A4, A5, hA, hA0, _⟩ := dt.a
 rcases h with ⟨hz, rfl, q⟩ | ⟨hz, hn, q⟩ | ⟨rfl, rfl, q⟩
 ·obtain ⟨kvs, T, hD, hv, hT⟩ := numfr_d dt hz
  refine ⟨kvs, hD, _, hA, Sum.inr z, rfl, Sum.inr z, rfl, ?_⟩
  rw [hv]
  subst hB
  try dsimp only [Option.getD]
  walk_at "rd"
  refine ⟨_, .inr (hT.at _), ?_⟩
  rw [if_neg (fun z => z rfl)]
  simp only [rList]
  walk_at "rd"
  exact ⟨_, .inr (.inl (hT.at _)), fun l H1 hl s1 e1 => q l H1 s1 e1⟩
 ·obtain ⟨kvs, T, hD, hv, hT⟩ := numfr_d dt hz
  refine ⟨kvs, hD, _, hA, Sum.inr z, rfl, Sum.inr z, rfl, ?_⟩
  rw [hv]
  subst hB
  try dsimp only [Option.getD]
  walk_at "rd"
  refine ⟨_, .inr (hT.at _), ?_⟩
  rw [if_pos (fun z => hn (by rw [← z]; rfl))]
  exact q.now
 ·obtain ⟨kvs, hD, hv⟩ := tree_d dt
  refine ⟨kvs, hD, _, hA, Sum.inr _, rfl, Sum.inr _, rfl, ?_⟩
  rw [hv, val_eq]
  subst hB
  try dsimp only [Option.getD]
  walk_at "rd"
  refine ⟨_, .inr (hA0.at _), ?_⟩
  rw [if_neg (fun z => z rfl)]
  simp only [rList]
  walk_at "rd"
  exact ⟨_, .inr (.inl (hA0.at _)), fun l H1 hl s1 e1 => q l H1 s1 e1⟩
def sp_readWord (CNX : Addr) : Sp := fun vs H Q E => (∃ z, vs = [.str "number", .str z] ∧ sp_readWX CNX [.str z] H Q E) ∨ ∃ z, vs = [.str "fraction", .str z] ∧ sp_readRX CNX [.str z] H Q E
theorem ok_readWord (F : FunD K "read_word" "read_word" s_read_word .none f fd) (F_read_whole : Fn P w K mg base (CX1 P w) 2 "read_whole" ["text"] (sp_readWX CNX)) (F_read_ratio : Fn P w K mg base (CX1 P w) 4 "read_ratio" ["text"] (sp_readRX CNX)) : FnOk P w K mg base (CX1 P w) 5 f fd ["kind", "word"] (sp_readWord CNX) := by
 refine okX F sc_read_word (fun vs H Q E h => ?_) (fun cdv A outer s H vs Q E hr h => ?_)
 ·rcases h with ⟨z, rfl, _⟩ | ⟨z, rfl, _⟩ <;> rfl
 rcases h with ⟨z, rfl, q⟩ | ⟨z, rfl, q⟩
 ·refine ⟨_, (b_cons (s_if (t_eq (q_v 0) q_str) (b_one (s_ret (q_nev))) b_nil)
   (b_cons (s_if (t_eq (q_v 0) q_str) (b_one (s_ret (q_fnX goes_of F_read_whole hr (by decide) rfl (a_c (q_v 1) a_nil)))) b_nil)
   (b_cons (s_if (t_eq (q_v 0) q_str) (b_one (s_ret (q_fnX goes_of F_read_ratio hr (by decide) rfl (a_c (q_v 1) a_nil)))) b_nil)
   (b_one (s_ret (q_nev)))))), ?_⟩
  rw [show start ["kind", "word"] [.str "number", .str z] = [some (.str "number"), some (.str z)] from rfl]
  walk_at "rd"
  rw [if_neg (by decide +kernel)]
  exact q
 ·refine ⟨_, (b_cons (s_if (t_eq (q_v 0) q_str) (b_one (s_ret (q_nev))) b_nil)
   (b_cons (s_if (t_eq (q_v 0) q_str) (b_one (s_ret (q_fnX goes_of F_read_whole hr (by decide) rfl (a_c (q_v 1) a_nil)))) b_nil)
   (b_cons (s_if (t_eq (q_v 0) q_str) (b_one (s_ret (q_fnX goes_of F_read_ratio hr (by decide) rfl (a_c (q_v 1) a_nil)))) b_nil)
   (b_one (s_ret (q_nev)))))), ?_⟩
  rw [show start ["kind", "word"] [.str "fraction", .str z] = [some (.str "fraction"), some (.str z)] from rfl]
  walk_at "rd"
  rw [if_neg (by decide +kernel), if_neg (by decide +kernel)]
  exact q
def RowB (z : Str) : Prop := z.length ≤ 1000 ∧ ∃ first rest, Txt.split z (one 32) = first :: rest ∧ NumFr first ∧ (rest.length ≠ 2 ∨ ∃ n v, rest = [numS n, v] ∧ 0 ≤ n ∧ n < 10 ^ 30 ∧ BadRat v)
def sp_readRow (CNX : Addr) : Sp := fun vs H Q E => ∃ x, vs = [x] ∧ ((x = .str "tree" ∧ ∀ l H', Same H H' → H' l = some (.lst [.str "tree"]) → Q (.ref l) H') ∨ (∃ z, x = .str z ∧ RowB z ∧ Err E CNX H) ∨ (Th0 H x ∧ (∀ z, x ≠ .str z) ∧ Err E CNX H))
theorem tree_words : Txt.split (Str.ofString "tree") (one 32) = [Str.ofString "tree"] := by decide +kernel
theorem ok_readRow (F : FunD K "read_row" "read_row" s_read_row .none f fd) (n_len : mg "len" = none) (n_zip : mg "zip" = none) (F_look_text : Fn P w K mg base (CX1 P w) 1 "look_text" ["thing"] (sp_lookTX CNX)) (F_kinds_behind : Fn P w K mg base (CX1 P w) 1 "kinds_behind" ["first", "many"] (sp_kinds CNX)) (F_read_word : Fn P w K mg base (CX1 P w) 5 "read_word" ["kind", "word"] (sp_readWord CNX)) : FnOk P w K mg base (CX1 P w) 6 f fd ["row"] (sp_readRow CNX) := by
 refine okX F sc_read_row (fun vs H Q E h => ?_) (fun cdv A outer s H vs Q E hr h => ?_)
 ·obtain ⟨x, rfl, _⟩ := h; rfl
 obtain ⟨x, rfl, h⟩ := h
 refine ⟨_, (b_cons (s_expr (q_fnX goes_of F_look_text hr (by decide) rfl (a_c (q_v 0) a_nil)))
   (b_cons (s_set 1 sc_read_row.nd (q_split (q_v 0) (a_c q_str a_nil)))
   (b_cons (s_set 2 sc_read_row.nd (q_fnX goes_of F_kinds_behind hr (by decide) rfl (a_c (q_ixL (q_v 1) q_int) (a_c (q_sub (q_len rfl n_len (a_c (q_v 1) a_nil)) q_int) a_nil))))
   (b_one (s_ret (q_cat (q_lst (a_c (q_ixL (q_v 1) q_int) a_nil)) (q_compX goes_of (blk0 ["kind", "word"]) (i_zip rfl n_zip (a_c (q_v 2) (a_c (q_cutRL (q_v 1) q_int) a_nil))) (by exact fun s H fp => (g_tup (n := 2) (gs_cons (g_name 0 (show List.Nodup (["kind", "word"] : List Str) from by decide +kernel)) (gs_cons (g_name 1 (show List.Nodup (["kind", "word"] : List Str) from by decide +kernel)) gs_nil)))) (by exact fun s H fp => (q_fnP blk_pass F_read_word hr (by decide) rfl (a_c (q_v 0) (a_c (q_v 1) a_nil))))))))))), ?_⟩
 rw [show start ["row", "words", "kinds"] [x] = [some (x), none, none] from rfl]
 refine seq_go fun B hB => ?_
 walk_at "rd"
 rcases h with ⟨rfl, q⟩ | ⟨z, rfl, ⟨hl, fi, re, hsp, hnf, hb⟩, q⟩ | ⟨ht, hn, q⟩
 rotate_left 2
 ·exact ⟨x, rfl, ht, fun ⟨z, e⟩ => absurd e (hn z), fun _ => q.now⟩
 ·refine ⟨_, rfl, ⟨"str", rfl⟩, fun _ => ?_, fun y => absurd rfl (y _)⟩
  subst hB
  try dsimp only
  refine seq_go fun B hB => ?_
  walk_at "rd"
  refine ⟨32, c_blank, by decide +kernel, fun l H1 hl1 s1 e1 => ?_⟩
  rw [tree_words] at e1
  subst hB
  try dsimp only
  refine seq_go fun B hB => ?_
  walk_at "rd"
  refine ⟨_, e1, _, atI0 _ _, _, .inl e1, _, _, rfl, .inr (.inr ⟨rfl, rfl, fun lk H2 s2 e2 => ?_⟩)⟩
  have e12 := s2 _ _ e1
  subst hB
  try dsimp only
  walk_at "rd"
  refine ⟨_, e12, _, atI0 _ _, fun l3 H3 hl3 s3 e3 => ?_⟩
  simp only [tComp, iZip]
  walk_at "rd"
  have e13 := s3 _ _ e12
  refine ⟨l, _, rfl, .of e13, fun l4 hl4 => ?_⟩
  rw [show cutV (List.map V.str [Str.ofString "tree"]) (some 1) none = [] from rfl]
  try dsimp only
  have s4 : Same H3 (upd H3 l4 (.lst [])) := same_new hl4 _
  have e4 : upd H3 l4 (.lst []) l4 = some (.lst []) := upd_same
  generalize upd H3 l4 (.lst []) = H4 at s4 e4 ⊢
  refine ⟨l4, rfl, ⟨_, .of (s4 _ _ (s3 _ _ e2))⟩, ⟨_, .of e4⟩, ?_⟩
  unfold tBlk
  refine blk_zip (xs := []) (zs := []) rfl (fun acc i ys H' => Same H4 H' ∧ H' acc = some (.lst ys) ∧ ys = []) (fun acc H5 hn sm e => ⟨sm, e, rfl⟩) (fun acc i ys H5 hn ⟨sm, e, e5⟩ => ⟨e, by rw [e5]; decide, .of (sm _ _ (s4 _ _ (s3 _ _ e2))), .of (sm _ _ e4)⟩) (fun acc i x z ys H5 os p H' hn hx => by simp at hx) (fun acc ys H5 hn ⟨sm, e, e5⟩ => ?_)
  subst e5
  refine ⟨acc, rfl, _, sm _ _ (s4 _ _ e3), _, e, by decide, fun pl hpl => ?_⟩
  exact q pl _ (s1.trans (s2.trans (s3.trans (s4.trans (sm.trans (same_new hpl _)))))) upd_same
 ·refine ⟨_, rfl, ⟨"str", rfl⟩, fun _ => ?_, fun y => absurd rfl (y _)⟩
  subst hB
  try dsimp only
  refine seq_go fun B hB => ?_
  walk_at "rd"
  refine ⟨32, c_blank, by omega, fun l H1 hl1 s1 e1 => ?_⟩
  rw [hsp] at e1
  subst hB
  try dsimp only
  refine seq_go fun B hB => ?_
  walk_at "rd"
  refine ⟨_, e1, _, atI0 _ _, _, .inl e1, _, _, rfl, ?_⟩
  by_cases c : re.length = 2
  rotate_left
  ·refine .inr (.inl ⟨hnf, ?_, q.same s1⟩)
   simp
   omega
  rcases hb with hb | ⟨n, v, rfl, h0, h1, hv⟩
  ·exact absurd c hb
  refine .inl ⟨hnf, rfl, fun lk H2 s2 e2 => ?_⟩
  have e12 := s2 _ _ e1
  subst hB
  try dsimp only
  walk_at "rd"
  refine ⟨_, e12, _, atI0 _ _, fun l3 H3 hl3 s3 e3 => ?_⟩
  simp only [tComp, iZip]
  walk_at "rd"
  have e13 := s3 _ _ e12
  refine ⟨l, _, rfl, .of e13, fun l4 hl4 => ?_⟩
  rw [show cutV (List.map V.str (fi :: [numS n, v])) (some 1) none = [V.str (numS n), V.str v] from rfl]
  try dsimp only
  have s4 : Same H3 (upd H3 l4 (.lst [V.str (numS n), V.str v])) := same_new hl4 _
  have e4 : upd H3 l4 (.lst [V.str (numS n), V.str v]) l4 = some (.lst [V.str (numS n), V.str v]) := upd_same
  generalize upd H3 l4 (.lst [V.str (numS n), V.str v]) = H4 at s4 e4 ⊢
  have s04 := s1.trans (s2.trans (s3.trans s4))
  refine ⟨l4, rfl, ⟨_, .of (s4 _ _ (s3 _ _ e2))⟩, ⟨_, .of e4⟩, ?_⟩
  unfold tBlk
  refine blk_zip (xs := [.str "number", .str "fraction"]) (zs := [V.str (numS n), V.str v]) rfl (fun acc i ys H' => Same H4 H' ∧ H' acc = some (.lst ys) ∧ ys.length = i ∧ i ≤ 1) (fun acc H5 hn sm e => ⟨sm, e, rfl, by decide⟩) (fun acc i ys H5 hn ⟨sm, e, e5, e6⟩ => ⟨e, by omega, .of (sm _ _ (s4 _ _ (s3 _ _ e2))), .of (sm _ _ e4)⟩) (fun acc i x y ys H5 os p H' hn hx hy hP ol hp s6 e6 => ?_) (fun acc ys H5 hn ⟨sm, e, e5, e6⟩ => absurd e6 (by decide))
  obtain ⟨sm, e, e5, e7⟩ := hP
  obtain ⟨o1, o2, rfl⟩ : ∃ o1 o2, os = [o1, o2] := by match os, ol with | [o1, o2], _ => exact ⟨o1, o2, rfl⟩
  rw [show capOf [some (V.str z), some (V.ref l), some (V.ref lk)] [] = [] from rfl]
  match i, e7, hx, hy with
  | 0, _, hx, hy =>
   cases hx
   cases hy
   walk_at "rd"
   refine ⟨_, e6, rfl, _, _, rfl, _, _, rfl, rfl, [_, _], rfl, rfl, ?_⟩
   unfold tYes
   try dsimp only
   rw [if_pos rfl]
   refine .inl ⟨_, rfl, _, rfl, .inl ⟨n, rfl, h0, h1, fun H7 s7 => ⟨(s6.trans s7) _ _ e, same_upd hn (sm.trans (s6.trans s7)), upd_same, by simp [e5]⟩⟩⟩
  | 1, _, hx, hy =>
   cases hx
   cases hy
   walk_at "rd"
   refine ⟨_, e6, rfl, _, _, rfl, _, _, rfl, rfl, [_, _], rfl, rfl, ?_⟩
   unfold tYes
   try dsimp only
   rw [if_pos rfl]
   exact .inr ⟨_, rfl, badrat_sp hv (q.same (s04.trans (sm.trans s6)))⟩
def sp_treeS (CS CT : Addr) : Sp := fun vs H Q _ => ∃ (a da : Addr) (tr ds ps : V), vs = [.ref a] ∧ H a = some (.ins CS da [("land", tr), ("places", ds), ("past", ps)]) ∧ Q tr H
theorem ok_treeS (F : Fun K "tree" "Shire.tree" s_Shire_tree f fd) (cls_Shire : Cls K CS) (nf_land : NoAttr K CS "land") : FnOk P w K mg base CX0 1 f fd ["self"] (sp_treeS CS CT) := by
 refine okQ F sc_Shire_tree (fun vs H Q E h => ?_) (fun cdv A outer s H vs Q E hr h => ?_)
 ·obtain ⟨a, da, tr, ds, ps, rfl, _⟩ := h; rfl
 obtain ⟨a, da, tr, ds, ps, rfl, h1, q⟩ := h
 refine ⟨_, (b_one (s_ret (q_fld (q_v 0)))), ?_⟩
 rw [show start ["self"] [.ref a] = [some (.ref a)] from rfl]
 walk_at "rd"
 exact ⟨CS, da, _, h1, cls_Shire, nf_land, tr, rfl, q⟩
def sp_told (CS CT : Addr) : Sp := fun vs H Q _ => ∃ (a da : Addr) (tr ds ps : V) (x : V) (rs : List (Nat × Rat)), vs = [.ref a, .str "tree", x] ∧ H a = some (.ins CS da [("land", tr), ("places", ds), ("past", ps)]) ∧ TreeV CT H tr rs ∧ FewT rs ∧ rs.length ≤ 40 ∧ ∀ H', Same H H' → Q (.str (treeS rs)) H'
theorem ok_told (F : Fun K "told" "told" s_told f fd) (F_show_tree : Fn P w K mg base CX0 4 "show_tree" ["tree"] (sp_showTree CT)) (M_tree : Mth P w K mg base CX0 1 CS "tree" ["self"] (sp_treeS CS CT)) : FnOk P w K mg base CX0 5 f fd ["shire", "first", "words"] (sp_told CS CT) := by
 refine okQ F sc_told (fun vs H Q E h => ?_) (fun cdv A outer s H vs Q E hr h => ?_)
 ·obtain ⟨a, da, tr, ds, ps, x, rs, rfl, _⟩ := h; rfl
 obtain ⟨a, da, tr, ds, ps, x, rs, rfl, h1, hT, hf, hl, q⟩ := h
 refine ⟨_, (b_cons (s_if (t_eq (q_v 1) q_str) (b_one (s_ret (q_fn F_show_tree hr (by decide) rfl (a_c (q_meth0 M_tree hr (by decide) (q_v 0)) a_nil)))) b_nil)
   (b_cons (s_if (t_eq (q_v 1) q_str) (b_one (s_ret (q_nev))) b_nil)
   (b_cons (s_if (t_eq (q_v 1) q_str) (b_one (s_ret (q_nev))) b_nil)
   (b_cons (s_if (t_eq (q_v 1) q_str) (b_one (s_ret (q_nev))) b_nil)
   (b_cons (s_if (t_eq (q_v 1) q_str) (b_one (s_ret (q_nev))) b_nil)
   (b_one (s_ret (q_nev)))))))), ?_⟩
 rw [show start ["shire", "first", "words"] [.ref a, .str "tree", x] = [some (.ref a), some (.str "tree"), some (x)] from rfl]
 refine seq_go fun B hB => ?_
 walk_at "rd"
 exact ⟨da, _, h1, rfl, a, da, tr, ds, ps, rfl, h1, tr, rs, rfl, hT, hf, hl, q⟩
def sp_say (CD CS CT CNX : Addr) : Sp := fun vs H Q E => ∃ (x : Addr) (y : V) (rs : List (Nat × Rat)), vs = [.ref x, y] ∧ DeskV CD CS CT H x rs ∧ FewT rs ∧ rs.length ≤ 40 ∧ ((y = .str "tree" ∧ ∀ H', Same H H' → Q (.str (treeS rs)) H') ∨ (∃ z, y = .str z ∧ RowB z ∧ Err E CNX H) ∨ (Th0 H y ∧ (∀ z, y ≠ .str z) ∧ Err E CNX H))
theorem ok_say (F : FunD K "say" "Desk.say" s_Desk_say .none f fd) (m_DEEDS : mg "DEEDS" = some (.ref aD)) (dt : DeskT P w K aD aA aL) (cls_Desk : Cls K CD) (nf_shire : NoAttr K CD "shire") (F_read_row : Fn P w K mg base (CX1 P w) 6 "read_row" ["row"] (sp_readRow CNX)) (F_told : Fn P w K mg base CX0 5 "told" ["shire", "first", "words"] (sp_told CS CT)) : FnOk P w K mg base (CX1 P w) 7 f fd ["self", "row"] (sp_say CD CS CT CNX) := by
 refine okX F sc_Desk_say (fun vs H Q E h => ?_) (fun cdv A outer s H vs Q E hr h => ?_)
 ·obtain ⟨x, y, rs, rfl, _⟩ := h; rfl
 obtain ⟨x, y, rs, rfl, hd, hf, hl, h⟩ := h
 refine ⟨_, (b_cons (s_set 2 sc_Desk_say.nd (q_fnX goes_of F_read_row hr (by decide) rfl (a_c (q_v 1) a_nil)))
   (b_cons (s_set 3 sc_Desk_say.nd (q_ixL (q_v 2) q_int))
   (b_cons (s_if (t_ninG (q_v 3) (q_cls rfl m_DEEDS)) (b_one (s_ret (q_fn F_told hr (by decide) rfl (a_c (q_fld (q_v 0)) (a_c (q_v 3) (a_c (q_cutRL (q_v 2) q_int) a_nil)))))) b_nil)
   (b_cons (s_set 4 sc_Desk_say.nd (q_nev))
   (b_one (s_ret (q_ifE (t_isN (q_v 4) q_non) q_str (q_fs1 (q_v 4))))))))), ?_⟩
 rw [show start ["self", "row", "words", "first", "fresh"] [.ref x, y] = [some (.ref x), some (y), none, none, none] from rfl]
 refine seq_go fun B hB => ?_
 walk_at "rd"
 refine ⟨y, rfl, ?_⟩
 rcases h with ⟨rfl, q⟩ | ⟨z, rfl, hb, q⟩ | ⟨ht, hn, q⟩
 rotate_left
 ·exact .inr (.inl ⟨z, rfl, hb, q⟩)
 ·exact .inr (.inr ⟨ht, hn, q⟩)
 refine .inl ⟨rfl, fun l H1 s1 e1 => ?_⟩
 obtain ⟨dx, a, da, tr, ds, ps, h1, h2, h3⟩ := hd.same s1
 subst hB
 try dsimp only
 refine seq_go fun B hB => ?_
 walk_at "rd"
 refine ⟨_, e1, _, atI0 _ _, ?_⟩
 subst hB
 try dsimp only
 obtain ⟨kvs, hD, hv⟩ := tree_d dt
 refine seq_go fun B hB => ?_
 walk_at "rd"
 refine ⟨_, hD, Sum.inr _, rfl, ?_⟩
 rw [hv, if_pos (by decide)]
 refine ⟨CD, dx, _, h1, cls_Desk, nf_shire, .ref a, rfl, l, _, rfl, .of e1, fun l2 hl2 => ?_⟩
 have s2 := same_new hl2 (.lst (cutV [V.str (Str.ofString "tree")] (some 1) none))
 exact ⟨a, da, tr, ds, ps, _, rs, rfl, s2 _ _ h2, h3.same s2, hf, hl, fun H2 s3 => q H2 (s1.trans (s2.trans s3))⟩
end
theorem split_is {c : Nat} {z : Str} {xs : List Str} (h : xs ≠ []) (hf : ∀ p ∈ xs, c ∉ p.cps.toList) (hz : z.cps.toList = jl c (xs.map fun p => p.cps.toList)) : Txt.split z (one c) = xs := by
 have e : z = Txt.join (one c) xs := ext_toList (by
  have e2 : Txt.join (one c) xs = Str.join (one c) xs := StrLaws.glued_eq_join _ _
  rw [e2, join_cl, hz])
 rw [e]
 exact split_join h hf
structure Odd (z : Str) : Prop where
 b : BadRat z
 t : TextB (Str.ofString "0 1\n0 " ++ z)
 u : TextB (Str.ofString "0 " ++ z)
 p : RowB (Str.ofString "price 1 " ++ z)
 c : RowB (Str.ofString "cut 1 " ++ z)
 d : RowB (Str.ofString "build 0 " ++ z)
def q1 : Rat := ⟨1, 1, by decide, by decide⟩
theorem road01 : Str.ofString "0 1" = roadS (0, q1) := by decide +kernel
theorem few1 : Few q1 := ⟨by decide, by decide⟩
theorem badrow0 {z : Str} (hl : z.length ≤ 500) (h32 : 32 ∉ z.cps.toList) (hb : BadRat z) : BadRow (Str.ofString "0 " ++ z) := by
  refine ⟨by rw [strLen_append]; have : (Str.ofString "0 ").length = 2 := by decide +kernel
             omega, .inr ⟨0, z, ?_, by decide, by decide, hb⟩⟩
  refine split_is (by simp) (fun p hp => ?_) ?_
  · simp at hp
    rcases hp with rfl | rfl
    · decide +kernel
    · exact h32
  · rw [cl_app]
    show _ = (numS 0).cps.toList ++ 32 :: z.cps.toList
    rw [show (Str.ofString "0 ").cps.toList = [48, 32] by decide +kernel, show (numS 0).cps.toList = [48] by decide +kernel]
    rfl
theorem textb_one {y : Str} (hne : y.cps.toList ≠ []) (hl : y.length ≤ 900) (h10 : 10 ∉ y.cps.toList) (hb : BadRow y) : TextB y ∧ TextB (Str.ofString "0 1\n" ++ y) := by
 have s1 : Txt.split y (one 10) = [y] := split_is (by simp) (fun p hp => by rw [List.mem_singleton.mp hp]; exact h10) rfl
 have s2 : Txt.split (Str.ofString "0 1\n" ++ y) (one 10) = [Str.ofString "0 1", y] := by
  refine split_is (by simp) (fun p hp => ?_) ?_
  ·simp at hp
   rcases hp with rfl | rfl
   ·decide +kernel
   ·exact h10
  ·rw [cl_app]
   show _ = (Str.ofString "0 1").cps.toList ++ 10 :: y.cps.toList
   rw [show (Str.ofString "0 1\n").cps.toList = [48, 32, 49, 10] by decide +kernel, show (Str.ofString "0 1").cps.toList = [48, 32, 49] by decide +kernel]
   rfl
 refine ⟨⟨fun z => hne (by rw [z]; decide +kernel), by omega, by rw [s1]; simp, ?_, ?_⟩, ⟨fun z => ?_, ?_, by rw [s2]; simp, ?_, ?_⟩⟩
 ·rw [s1]
  exact fun u hu => .inl (by rw [List.mem_singleton.mp hu]; exact hb)
 ·rw [s1]
  exact ⟨y, by simp, hb⟩
 ·have := congrArg (fun s : Str => s.cps.toList) z
  rw [cl_app] at this
  have h0 := (List.append_eq_nil_iff.mp (this.trans (show _ = [] by decide +kernel))).2
  exact hne h0
 ·rw [strLen_append]
  have : (Str.ofString "0 1\n").length = 4 := by decide +kernel
  omega
 ·rw [s2]
  intro u hu
  simp at hu
  rcases hu with rfl | rfl
  ·exact .inr ⟨(0, q1), road01, few1, by decide⟩
  ·exact .inl hb
 ·rw [s2]
  exact ⟨y, by simp, hb⟩
theorem rowb_of {pre w1 : Str} {n : Int} {z : Str} (hpre : pre.cps.toList = w1.cps.toList ++ 32 :: (numS n).cps.toList ++ [32]) (hw : NumFr w1) (h1 : 32 ∉ w1.cps.toList) (h2 : 32 ∉ (numS n).cps.toList) (h0 : 0 ≤ n) (hn : n < 10 ^ 30) (hp : pre.length ≤ 100) (hl : z.length ≤ 500) (h32 : 32 ∉ z.cps.toList) (hb : BadRat z) : RowB (pre ++ z) := by
 refine ⟨by rw [strLen_append]; omega, w1, [numS n, z], ?_, hw, .inr ⟨n, z, rfl, h0, hn, hb⟩⟩
 refine split_is (by simp) (fun p hp => ?_) ?_
 ·simp at hp
  rcases hp with rfl | rfl | rfl
  ·exact h1
  ·exact h2
  ·exact h32
 ·rw [cl_app, hpre]
  show _ = w1.cps.toList ++ 32 :: ((numS n).cps.toList ++ 32 :: z.cps.toList)
  simp
theorem odd_of {z : Str} (hl : z.length ≤ 200) (h10 : 10 ∉ z.cps.toList) (h32 : 32 ∉ z.cps.toList) (hb : BadRat z) : Odd z := by
 have hb0 := badrow0 (by omega) h32 hb
 have hl0 : (Str.ofString "0 " ++ z).length ≤ 900 := by
  rw [strLen_append]
  have : (Str.ofString "0 ").length = 2 := by decide +kernel
  omega
 have e0 : (Str.ofString "0 " ++ z).cps.toList = 48 :: 32 :: z.cps.toList := by rw [cl_app, show (Str.ofString "0 ").cps.toList = [48, 32] by decide +kernel]; rfl
 have h100 : 10 ∉ (Str.ofString "0 " ++ z).cps.toList := by
  rw [e0]
  intro y
  rcases List.mem_cons.mp y with y | y
  ·exact absurd y (by decide)
  ·rcases List.mem_cons.mp y with y | y
   ·exact absurd y (by decide)
   ·exact h10 y
 have ht := textb_one (y := Str.ofString "0 " ++ z) (by rw [e0]; simp) hl0 h100 hb0
 refine ⟨hb, ?_, ht.1, rowb_of (w1 := Str.ofString "price") (n := 1) (by decide +kernel) (.inl rfl) (by decide +kernel) (by decide +kernel) (by decide) (by decide) (by decide +kernel) (by omega) h32 hb, rowb_of (w1 := Str.ofString "cut") (n := 1) (by decide +kernel) (.inr (.inl rfl)) (by decide +kernel) (by decide +kernel) (by decide) (by decide) (by decide +kernel) (by omega) h32 hb, rowb_of (w1 := Str.ofString "build") (n := 0) (by decide +kernel) (.inr (.inr rfl)) (by decide +kernel) (by decide +kernel) (by decide) (by decide) (by decide +kernel) (by omega) h32 hb⟩
 have e : Str.ofString "0 1\n0 " ++ z = Str.ofString "0 1\n" ++ (Str.ofString "0 " ++ z) := ext_toList (by
  rw [cl_app, cl_app, cl_app, show (Str.ofString "0 1\n0 ").cps.toList = (Str.ofString "0 1\n").cps.toList ++ (Str.ofString "0 ").cps.toList by decide +kernel, List.append_assoc])
 rw [e]
 exact ht.2
def valS (s : Str) : Option Int := if (numS 0) = s then some 0 else if numS 1 = s then some 1 else if numS 2 = s then some 2 else if numS 3 = s then some 3 else if numS 4 = s then some 4 else if numS 5 = s then some 5 else if numS 6 = s then some 6 else none
def badWB (z : Str) : Bool := decide (z.length ≤ 100) && z.cps.toList.all (fun d => decide (d < 128)) && (decide (z.length = 0) || decide (30 < z.length) || !((z.cps.toList.map fun d => decide (d ∈ (Str.ofString "0123456789").cps.toList)).all id) || ((z.cps.toList.head? == some 48) && decide (z ≠ one 48)))
def ratS2 (a b : Int) : Str := if b = 1 then numS a else numS a ++ one 47 ++ numS b
def chkB (z : Str) : Bool :=
 let ps := Txt.split (bodyZ z) (one 47)
 let ns := ps.filterMap valS
 let o := oneOf z ns
 decide (z.length ≤ 200) && decide (ps.length ≤ 100) && decide ((bodyZ z).length ≤ 1000) && ps.all (fun s => (valS s).isSome || badWB s) && (ps.any (fun s => (valS s).isNone) || !(decide (1 ≤ o.2) && decide (Int.gcd o.1 o.2 = 1) && decide (ratS2 o.1 o.2 = z)))
theorem val_is {s : Str} {n : Int} (h : valS s = some n) : s = numS n ∧ 0 ≤ n ∧ n < 10 ^ 30 := by
 unfold valS at h
 repeat' split at h
 all_goals first | (injection h with h; subst h; exact ⟨by symm; assumption, by decide, by decide⟩) | cases h
theorem badW_is {z : Str} (h : badWB z = true) : BadW z := by
 unfold badWB at h
 simp only [Bool.and_eq_true, Bool.or_eq_true, decide_eq_true_eq, List.all_eq_true, Bool.not_eq_true'] at h
 obtain ⟨⟨h1, h2⟩, h3⟩ := h
 refine ⟨h1, h2, ?_⟩
 rcases h3 with ((h3 | h3) | h3) | h3
 ·exact .inl h3
 ·exact .inr (.inl h3)
 ·exact .inr (.inr (.inl h3))
 ·exact .inr (.inr (.inr h3))
theorem rat2 (t : Rat) : ratS t = ratS2 t.num (t.den : Int) := rfl
theorem chk_bad {z : Str} (h : chkB z = true) : BadRat z := by
 unfold chkB at h
 simp only [Bool.and_eq_true, Bool.or_eq_true, decide_eq_true_eq, List.all_eq_true, List.any_eq_true] at h
 obtain ⟨⟨⟨⟨h1, h2⟩, h3⟩, h4⟩, h5⟩ := h
 refine ⟨by omega, (Txt.split (bodyZ z) (one 47)).map fun s => (s, valS s), ⟨by rw [List.map_map]; exact (List.map_id _).symm, by rw [List.length_map]; exact h2, fun y => split_ne _ _ (by simpa using y), h3, fun p hp => ?_⟩, ?_⟩
 ·obtain ⟨s, hs, rfl⟩ := List.mem_map.mp hp
  refine ⟨fun n hn => val_is hn, fun hn => ?_⟩
  rcases h4 s hs with g | g
  ·rw [show valS s = none from hn] at g
   cases g
  ·exact badW_is g
 ·rcases h5 with ⟨s, hs, hn⟩ | h5
  ·exact .inl ⟨(s, valS s), List.mem_map.mpr ⟨s, hs, rfl⟩, by simpa using hn⟩
  ·by_cases c : ∃ s ∈ Txt.split (bodyZ z) (one 47), valS s = none
   ·obtain ⟨s, hs, hn⟩ := c
    exact .inl ⟨(s, valS s), List.mem_map.mpr ⟨s, hs, rfl⟩, hn⟩
   ·refine .inr ⟨(Txt.split (bodyZ z) (one 47)).filterMap valS, ?_, fun t hf ht e => ?_⟩
    ·rw [List.map_map]
     generalize Txt.split (bodyZ z) (one 47) = ps at c
     induction ps with
     | nil => rfl
     | cons s ps ih =>
      cases hv : valS s with
      | none => exact absurd ⟨s, by simp, hv⟩ c
      | some n =>
       rw [List.filterMap_cons, hv, List.map_cons, List.map_cons]
       exact List.cons_eq_cons.mpr ⟨hv, ih fun ⟨u, hu, hn⟩ => c ⟨u, List.mem_cons_of_mem _ hu, hn⟩⟩
    ·rw [← ht] at h5
     have hd := t.den_pos
     rw [← rat2, e, decide_eq_true (show 1 ≤ (t.den : Int) by omega), decide_eq_true (show Int.gcd t.num (t.den : Int) = 1 by
      show Nat.gcd t.num.natAbs (Int.natAbs (t.den : Int)) = 1
      rw [Int.natAbs_natCast]
      exact t.reduced), decide_eq_true rfl] at h5
     cases h5
def oddL : List Str := ["", "+1", "-0", "01", "1/1", "2/4", "1/0", "0/5", "1/-2", "1//2", "1/", "/2", "a", "1.5", "(1)", "--1", "0/1", "-0/3", "1/02", "-", "-1/", "1 ", " 1", "-6/3", "1/2/3", "00", "1/+2", "1000000000000000000000000000001", "1/1000000000000000000000000000001", "-1000000000000000000000000000001"].map Str.ofString
theorem odd_chk : ∀ z ∈ oddL, chkB z = true ∧ z.length ≤ 200 ∧ 10 ∉ z.cps.toList := by decide +kernel
theorem odd_blank : ∀ z ∈ oddL, 32 ∈ z.cps.toList → z = Str.ofString "1 " ∨ z = Str.ofString " 1" := by decide +kernel
theorem odd_two {z : Str} (hb : BadRat z) (h10 : 10 ∉ (Str.ofString "0 " ++ z).cps.toList) (hl : (Str.ofString "0 " ++ z).length ≤ 900) (hne : (Str.ofString "0 " ++ z).cps.toList ≠ []) (h1 : (Txt.split (Str.ofString "0 " ++ z) (one 32)).length ≠ 2) (e : Str.ofString "0 1\n0 " ++ z = Str.ofString "0 1\n" ++ (Str.ofString "0 " ++ z))
  (hp : ∃ re, Txt.split (Str.ofString "price 1 " ++ z) (one 32) = Str.ofString "price" :: re ∧ re.length = 3) (hc : ∃ re, Txt.split (Str.ofString "cut 1 " ++ z) (one 32) = Str.ofString "cut" :: re ∧ re.length = 3) (hd : ∃ re, Txt.split (Str.ofString "build 0 " ++ z) (one 32) = Str.ofString "build" :: re ∧ re.length = 3)
  (g : (Str.ofString "price 1 " ++ z).length ≤ 1000 ∧ (Str.ofString "cut 1 " ++ z).length ≤ 1000 ∧ (Str.ofString "build 0 " ++ z).length ≤ 1000) : Odd z := by
 have ht := textb_one hne hl h10 ⟨by omega, .inl h1⟩
 obtain ⟨r1, p1, p2⟩ := hp
 obtain ⟨r2, c1, c2⟩ := hc
 obtain ⟨r3, d1, d2⟩ := hd
 exact ⟨hb, by rw [e]; exact ht.2, ht.1, ⟨g.1, _, r1, p1, .inl rfl, .inl (by omega)⟩, ⟨g.2.1, _, r2, c1, .inr (.inl rfl), .inl (by omega)⟩, ⟨g.2.2, _, r3, d1, .inr (.inr rfl), .inl (by omega)⟩⟩
theorem odd_all {z : Str} (hz : z ∈ oddL) : Odd z := by
 obtain ⟨h1, h2, h3⟩ := odd_chk z hz
 have hb := chk_bad h1
 by_cases c : 32 ∈ z.cps.toList
 ·rcases odd_blank z hz c with rfl | rfl
  ·exact odd_two hb (by decide +kernel) (by decide +kernel) (by decide +kernel) (by decide +kernel) (by decide +kernel) ⟨[Str.ofString "1", Str.ofString "1", Str.ofString ""], by decide +kernel, rfl⟩ ⟨[Str.ofString "1", Str.ofString "1", Str.ofString ""], by decide +kernel, rfl⟩ ⟨[Str.ofString "0", Str.ofString "1", Str.ofString ""], by decide +kernel, rfl⟩ (by decide +kernel)
  ·exact odd_two hb (by decide +kernel) (by decide +kernel) (by decide +kernel) (by decide +kernel) (by decide +kernel) ⟨[Str.ofString "1", Str.ofString "", Str.ofString "1"], by decide +kernel, rfl⟩ ⟨[Str.ofString "1", Str.ofString "", Str.ofString "1"], by decide +kernel, rfl⟩ ⟨[Str.ofString "0", Str.ofString "", Str.ofString "1"], by decide +kernel, rfl⟩ (by decide +kernel)
 ·exact odd_of h2 h3 c hb
def badSign (c : Nat) : Prop := c ∈ (Str.ofString "+._xA(),:").cps.toList
theorem sign_is : ∀ c ∈ (Str.ofString "+._xA(),:").cps.toList, c < 128 ∧ c ≠ 10 ∧ c ≠ 32 ∧ c ≠ 45 ∧ c ≠ 47 ∧ c ∉ (Str.ofString "0123456789").cps.toList := by decide +kernel
theorem badw_sign {z : Str} {c : Nat} (hc : badSign c) (hm : c ∈ z.cps.toList) (hl : z.length ≤ 100) (ha : ∀ d ∈ z.cps.toList, d < 128) : BadW z := by
 refine ⟨hl, ha, .inr (.inr (.inl ?_))⟩
 rw [List.all_eq_false]
 exact ⟨false, List.mem_map.mpr ⟨c, hm, decide_eq_false (sign_is c hc).2.2.2.2.2⟩, by decide⟩
theorem bad_parts {z : Str} {ps : List Str} {c : Nat} (hc : badSign c) (hz : z.length ≤ 200) (hb : (bodyZ z).length ≤ 1000) (hs : Txt.split (bodyZ z) (one 47) = ps) (hpl : ps.length ≤ 100) (hp : ∀ p ∈ ps, (∃ n : Int, p = numS n ∧ 0 ≤ n ∧ n < 10 ^ 30 ∧ c ∉ p.cps.toList) ∨ (c ∈ p.cps.toList ∧ p.length ≤ 100 ∧ ∀ d ∈ p.cps.toList, d < 128)) (hx : ∃ p ∈ ps, c ∈ p.cps.toList) : BadRat z := by
 classical
 have key : ∀ ps : List Str, (∀ p ∈ ps, (∃ n : Int, p = numS n ∧ 0 ≤ n ∧ n < 10 ^ 30 ∧ c ∉ p.cps.toList) ∨ (c ∈ p.cps.toList ∧ p.length ≤ 100 ∧ ∀ d ∈ p.cps.toList, d < 128)) → ∃ qs : List (Str × Option Int), qs.map (·.1) = ps ∧ (∀ q ∈ qs, PartOk q) ∧ ∀ q ∈ qs, c ∈ q.1.cps.toList → q.2 = none := by
  intro ps
  induction ps with
  | nil => exact fun _ => ⟨[], rfl, (fun q hq => by cases hq), (fun q hq => by cases hq)⟩
  | cons p ps ih =>
   intro h
   obtain ⟨qs, g1, g2, g3⟩ := ih fun q hq => h q (List.mem_cons_of_mem _ hq)
   rcases h p (by simp) with ⟨n, e, h0, h1, hn⟩ | ⟨hm, hl, ha⟩
   ·refine ⟨(p, some n) :: qs, by rw [List.map_cons, g1], fun q hq => ?_, fun q hq hm => ?_⟩
    ·rcases List.mem_cons.mp hq with rfl | hq
     ·exact ⟨fun m hm => by cases hm; exact ⟨e, h0, h1⟩, fun y => nomatch y⟩
     ·exact g2 q hq
    ·rcases List.mem_cons.mp hq with rfl | hq
     ·exact absurd hm hn
     ·exact g3 q hq hm
   ·refine ⟨(p, none) :: qs, by rw [List.map_cons, g1], fun q hq => ?_, fun q hq hm => ?_⟩
    ·rcases List.mem_cons.mp hq with rfl | hq
     ·exact ⟨(fun m hm => nomatch hm), fun _ => badw_sign hc hm hl ha⟩
     ·exact g2 q hq
    ·rcases List.mem_cons.mp hq with rfl | hq
     ·rfl
     ·exact g3 q hq hm
 obtain ⟨qs, g1, g2, g3⟩ := key ps hp
 obtain ⟨p, hp1, hp2⟩ := hx
 refine ⟨by omega, qs, ⟨by rw [hs, g1], by rw [← List.length_map (f := fun q : Str × Option Int => q.1), g1]; exact hpl, fun y => ?_, hb, g2⟩, .inl ?_⟩
 ·subst y
  rw [← g1] at hp1
  cases hp1
 ·rw [← g1] at hp1
  obtain ⟨q, hq, rfl⟩ := List.mem_map.mp hp1
  exact ⟨q, hq, g3 q hq hp2⟩
def mkS (l : List Nat) : Str := ⟨l.toArray⟩
theorem mkS_cl (l : List Nat) : (mkS l).cps.toList = l := by simp [mkS]
theorem mkS_len (l : List Nat) : (mkS l).length = l.length := by rw [← len_cl, mkS_cl]
theorem odd_sign {q : Rat} {c : Nat} {u v : List Nat} {z : Str} (hf : Few q) (hc : badSign c) (huv : (ratS q).cps.toList = u ++ v) (hz : z.cps.toList = u ++ c :: v) : Odd z := by
 obtain ⟨c1, c10, c32, c45, c47, cd⟩ := sign_is c hc
 have cdig : c < 48 ∨ 57 < c := by
  have key : ∀ c ∈ (Str.ofString "+._xA(),:").cps.toList, c < 48 ∨ 57 < c := by decide +kernel
  exact key c hc
 have hlz : z.length ≤ 64 := by
  have h := ratS_len hf
  rw [← len_cl, huv] at h
  rw [← len_cl, hz]
  simp at h ⊢
  omega
 have mem : ∀ d ∈ z.cps.toList, d = c ∨ d ∈ (ratS q).cps.toList := fun d hd => by
  rw [hz] at hd
  rw [huv]
  rcases List.mem_append.mp hd with h | h
  ·exact .inr (List.mem_append_left _ h)
  ·rcases List.mem_cons.mp h with h | h
   ·exact .inl h
   ·exact .inr (List.mem_append_right _ h)
 have asc : ∀ d ∈ z.cps.toList, d < 128 := fun d hd => by
  rcases mem d hd with rfl | h
  ·exact c1
  ·by_cases y : d < 45 ∨ 57 < d
   ·exact absurd h (ratS_no y)
   ·omega
 have no : ∀ k, k < 45 → k ≠ c → k ∉ z.cps.toList := fun k hk hkc hm => by
  rcases mem k hm with h | h
  ·exact hkc h
  ·exact ratS_no (.inl hk) h
 refine odd_of (by omega) (no 10 (by decide) (Ne.symm c10)) (no 32 (by decide) (Ne.symm c32)) ?_
 have hbody : ∃ (w1 w2 pre : List Nat), (bodyZ z).cps.toList = w1 ++ c :: w2 ∧ pre ++ (bodyS q).cps.toList = w1 ++ w2 ∧ (pre = [] ∨ (pre = [45] ∧ w1 = [])) := by
  by_cases cn : q.num < 0
  ·have hr : (ratS q).cps.toList = 45 :: (bodyS q).cps.toList := by rw [ratS_neg cn, cl_app, one_cl]; rfl
   rw [hr] at huv
   cases u with
   | nil =>
    refine ⟨[], v, [45], ?_, huv, .inr ⟨rfl, rfl⟩⟩
    unfold bodyZ isNeg
    rw [starts_one, hz, if_neg (by simp; exact c45)]
    exact hz
   | cons a u =>
    injection huv with h1 h2
    subst h1
    refine ⟨u, v, [], ?_, h2, .inl rfl⟩
    have ez : z = one 45 ++ mkS (u ++ c :: v) := ext_toList (by rw [hz, cl_app, one_cl, mkS_cl]; rfl)
    unfold bodyZ isNeg
    rw [starts_one, hz, if_pos (by rfl), ez, cut_one, mkS_cl]
  ·rw [ratS_pos (by omega)] at huv
   refine ⟨u, v, [], ?_, huv, .inl rfl⟩
   unfold bodyZ isNeg
   rw [starts_one, hz, if_neg ?_]
   ·exact hz
   ·cases u with
    | nil => simp; exact c45
    | cons a u =>
     have h := body_head q
     rw [huv] at h
     simpa using h
 obtain ⟨w1, w2, pre, hw, hpb, hpre⟩ := hbody
 have hbl : (bodyZ z).length ≤ 64 := by
  unfold bodyZ
  split
  ·rename_i h
   have hx : z.cps.toList.head? = some 45 := by
    unfold isNeg at h
    rw [starts_one] at h
    exact beq_iff_eq.mp h
   cases hzl : z.cps.toList with
   | nil => rw [hzl] at hx; cases hx
   | cons a l =>
    rw [hzl] at hx
    cases hx
    have ez : z = one 45 ++ mkS l := ext_toList (by rw [hzl, cl_app, one_cl, mkS_cl]; rfl)
    have : z.length = 1 + l.length := by rw [← len_cl, hzl]; simp; omega
    rw [ez, cut_one, mkS_len]
    omega
  ·exact hlz
 have basc : ∀ d ∈ (bodyZ z).cps.toList, d < 128 := fun d hd => by
  rw [hw] at hd
  have hd' : d = c ∨ d ∈ w1 ++ w2 := by
   rcases List.mem_append.mp hd with h | h
   ·exact .inr (List.mem_append_left _ h)
   ·rcases List.mem_cons.mp h with h | h
    ·exact .inl h
    ·exact .inr (List.mem_append_right _ h)
  rcases hd' with rfl | h
  ·exact c1
  ·rw [← hpb] at h
   rcases List.mem_append.mp h with h | h
   ·rcases hpre with rfl | ⟨rfl, _⟩
    ·cases h
    ·rw [List.mem_singleton.mp h]; decide
   ·by_cases y : d < 47 ∨ 57 < d
    ·exact absurd h (body_no y)
    ·omega
 have hlw : w1.length + 1 + w2.length ≤ 64 := by
  rw [← len_cl, hw] at hbl
  simp at hbl
  omega
 have numP : ∀ n : Int, n ∈ partI q → ∃ m : Int, numS n = numS m ∧ 0 ≤ m ∧ m < 10 ^ 30 ∧ c ∉ (numS n).cps.toList := fun n hn => by
  have h := part_few hf n hn
  obtain ⟨k, rfl⟩ := Int.eq_ofNat_of_zero_le h.1
  exact ⟨_, rfl, h.1, h.2, digits_no cdig⟩
 have sub : ∀ l : List Nat, (∀ d ∈ l, d ∈ (bodyZ z).cps.toList) → ∀ d ∈ (mkS l).cps.toList, d < 128 := fun l h d hd => by
  rw [mkS_cl] at hd
  exact basc d (h d hd)
 have nob : ∀ n : Int, n ∈ partI q → 47 ∉ (numS n).cps.toList := fun n hn => by
  have h := part_few hf n hn
  obtain ⟨k, rfl⟩ := Int.eq_ofNat_of_zero_le h.1
  exact digits_no (by omega)
 have fin : ∀ ps : List Str, ps ≠ [] → (bodyZ z).cps.toList = jl 47 (ps.map fun p => p.cps.toList) → (∀ p ∈ ps, (∃ n ∈ partI q, p = numS n) ∨ (c ∈ p.cps.toList ∧ 47 ∉ p.cps.toList ∧ p.length ≤ 100 ∧ ∀ d ∈ p.cps.toList, d < 128)) → ps.length ≤ 2 → (∃ p ∈ ps, c ∈ p.cps.toList) → BadRat z := by
  intro ps hne hj hp hpl hx
  refine bad_parts hc (by omega) (by omega) (split_is hne (fun p hp' => ?_) hj) (by omega) (fun p hp' => ?_) hx
  ·rcases hp p hp' with ⟨n, hn, rfl⟩ | ⟨_, h, _⟩
   ·exact nob n hn
   ·exact h
  ·rcases hp p hp' with ⟨n, hn, rfl⟩ | ⟨h1, _, h2, h3⟩
   ·exact .inl (numP n hn)
   ·exact .inr ⟨h1, h2, h3⟩
 by_cases cd1 : (q.den : Int) = 1
 ·have eb : (bodyS q).cps.toList = (numS (q.num.natAbs : Int)).cps.toList := by unfold bodyS; rw [if_pos cd1]
  have n47 : 47 ∉ (bodyZ z).cps.toList := by
   rw [hw]
   intro h
   have h' : 47 = c ∨ 47 ∈ w1 ++ w2 := by
    rcases List.mem_append.mp h with h | h
    ·exact .inr (List.mem_append_left _ h)
    ·rcases List.mem_cons.mp h with h | h
     ·exact .inl h
     ·exact .inr (List.mem_append_right _ h)
   rcases h' with h | h
   ·exact c47 h.symm
   ·rw [← hpb, eb] at h
    rcases List.mem_append.mp h with h | h
    ·rcases hpre with rfl | ⟨rfl, _⟩
     ·cases h
     ·exact absurd (List.mem_singleton.mp h) (by decide)
    ·exact digits_no (by omega) h
  refine fin [bodyZ z] (by simp) rfl (fun p hp => .inr ?_) (by simp) ⟨_, List.mem_singleton.mpr rfl, by rw [hw]; simp⟩
  rw [List.mem_singleton.mp hp]
  exact ⟨by rw [hw]; simp, n47, by omega, basc⟩
 ·have eb : (bodyS q).cps.toList = (numS (q.num.natAbs : Int)).cps.toList ++ 47 :: (numS (q.den : Int)).cps.toList := by
   unfold bodyS
   rw [if_neg cd1, cl_app, cl_app, one_cl]
   simp
  have m1 : (q.num.natAbs : Int) ∈ partI q := by unfold partI; rw [if_neg cd1]; simp
  have m2 : (q.den : Int) ∈ partI q := by unfold partI; rw [if_neg cd1]; simp
  have n1 := nob _ m1
  have n2 := nob _ m2
  rw [eb] at hpb
  generalize hN : (numS (q.num.natAbs : Int)).cps.toList = N at hpb n1
  generalize hM : (numS (q.den : Int)).cps.toList = M at hpb n2
  have two : ∀ l : List Nat, c ∈ l → 47 ∉ l → (∀ d ∈ l, d ∈ (bodyZ z).cps.toList) → l.length ≤ 64 → (c ∈ (mkS l).cps.toList ∧ 47 ∉ (mkS l).cps.toList ∧ (mkS l).length ≤ 100 ∧ ∀ d ∈ (mkS l).cps.toList, d < 128) := fun l h1 h2 h3 h4 => ⟨by rw [mkS_cl]; exact h1, by rw [mkS_cl]; exact h2, by rw [mkS_len]; omega, sub l h3⟩
  have first : ∀ l : List Nat, (bodyZ z).cps.toList = l ++ 47 :: M → c ∈ l → 47 ∉ l → BadRat z := fun l hl h1 h2 => by
   have hll : l.length ≤ 64 := by
    rw [← len_cl, hl] at hbl
    simp at hbl
    omega
   refine fin [mkS l, numS (q.den : Int)] (by simp) (by rw [hl]; show _ = (mkS l).cps.toList ++ 47 :: (numS (q.den : Int)).cps.toList; rw [mkS_cl, hM]) (fun p hp => ?_) (by simp) ⟨mkS l, by simp, by rw [mkS_cl]; exact h1⟩
   simp only [List.mem_cons, List.not_mem_nil, or_false] at hp
   rcases hp with rfl | rfl
   ·exact .inr (two l h1 h2 (fun d hd => by rw [hl]; exact List.mem_append_left _ hd) hll)
   ·exact .inl ⟨_, m2, rfl⟩
  have second : ∀ l : List Nat, (bodyZ z).cps.toList = N ++ 47 :: l → c ∈ l → 47 ∉ l → BadRat z := fun l hl h1 h2 => by
   have hll : l.length ≤ 64 := by
    rw [← len_cl, hl] at hbl
    simp at hbl
    omega
   refine fin [numS (q.num.natAbs : Int), mkS l] (by simp) (by rw [hl]; show _ = (numS (q.num.natAbs : Int)).cps.toList ++ 47 :: (mkS l).cps.toList; rw [mkS_cl, hN]) (fun p hp => ?_) (by simp) ⟨mkS l, by simp, by rw [mkS_cl]; exact h1⟩
   simp only [List.mem_cons, List.not_mem_nil, or_false] at hp
   rcases hp with rfl | rfl
   ·exact .inl ⟨_, m1, rfl⟩
   ·exact .inr (two l h1 h2 (fun d hd => by rw [hl]; exact List.mem_append_right _ (List.mem_cons_of_mem _ hd)) hll)
  rcases hpre with rfl | ⟨rfl, rfl⟩
  ·rw [List.nil_append] at hpb
   rcases List.append_eq_append_iff.mp hpb.symm with ⟨a', e1, e2⟩ | ⟨c', e1, e2⟩
   ·subst e1
    subst e2
    refine first (w1 ++ c :: a') (by rw [hw]; simp) (by simp) (fun h => n1 ?_)
    rcases List.mem_append.mp h with h | h
    ·exact List.mem_append_left _ h
    ·rcases List.mem_cons.mp h with h | h
     ·exact absurd h.symm c47
     ·exact List.mem_append_right _ h
   ·cases c' with
    | nil =>
     rw [List.append_nil] at e1
     subst e1
     rw [List.nil_append] at e2
     subst e2
     refine first (w1 ++ [c]) (by rw [hw]; simp) (by simp) (fun h => ?_)
     rcases List.mem_append.mp h with h | h
     ·exact n1 h
     ·exact c47 (List.mem_singleton.mp h).symm
    | cons a c' =>
     rw [List.cons_append] at e2
     injection e2 with e3 e4
     subst e3
     subst e4
     subst e1
     refine second (c' ++ c :: w2) (by rw [hw]; simp) (by simp) (fun h => n2 ?_)
     rcases List.mem_append.mp h with h | h
     ·exact List.mem_append_left _ h
     ·rcases List.mem_cons.mp h with h | h
      ·exact absurd h.symm c47
      ·exact List.mem_append_right _ h
  ·rw [List.nil_append] at hpb hw
   refine first (c :: 45 :: N) (by rw [hw, ← hpb]; simp) (by simp) (fun h => ?_)
   rcases List.mem_cons.mp h with h | h
   ·exact c47 h.symm
   ·rcases List.mem_cons.mp h with h | h
    ·exact absurd h (by decide)
    ·exact n1 h
theorem next_go {D : Ends} {σ : St} {H : Hp} (h : D.nx σ H) : tNext D σ H := h
theorem Few.of {t b : Int} (hb : b ≠ 0) (ht : t.natAbs < 10 ^ 30) (hb2 : b.natAbs < 10 ^ 30) : Few (Rat.divInt t b) :=
 ⟨Nat.lt_of_le_of_lt (divInt_num_le hb) ht, Nat.lt_of_le_of_lt (divInt_den_le hb) hb2⟩
theorem atI_map {α : Type} {xs : List α} {g : α → V} {i : Int} (h0 : 0 ≤ i) (h1 : i < (xs.length : Int)) : ∃ a, a ∈ xs ∧ atI (xs.map g) i = some (g a) := by
 have hk : i.toNat < xs.length := by omega
 refine ⟨xs[i.toNat], List.getElem_mem hk, ?_⟩
 have e : i = ((i.toNat : Nat) : Int) := by omega
 conv => lhs; rw [e]
 exact atI_nat (by rw [List.getElem?_map, List.getElem?_eq_getElem hk]; rfl)
theorem cut_to (x : Str) (j : Nat) (h : j ≤ x.length) : (Txt.slice x none (some (j : Int))).cps.toList = x.cps.toList.take j := by
 have e : Txt.slice x none (some (j : Int)) = ⟨((x.cps.toList.drop (0 : Int).toNat).take ((j : Int) - 0).toNat).toArray⟩ := beq_iff_eq.mp (slice_closes_toL (by omega) (by omega))
 rw [e]
 show (x.cps.toList.drop (0 : Int).toNat).take ((j : Int) - 0).toNat = _
 rw [show (0 : Int).toNat = 0 from rfl, List.drop_zero, show ((j : Int) - 0).toNat = j by omega]
theorem cut_from (x : Str) (j : Nat) (h : j ≤ x.length) : (Txt.slice x (some (j : Int)) none).cps.toList = x.cps.toList.drop j := by
 rw [slice_from_eq (x := x) (i := (j : Int)) (b := (x.length : Int)) (by omega) (by omega) rfl]
 show (x.cps.toList.drop (j : Int).toNat).take ((x.length : Int) - (j : Int)).toNat = _
 rw [Int.toNat_natCast]
 refine List.take_of_length_le ?_
 rw [List.length_drop, len_cl]
 omega
theorem cat1 : Str.ofString "1/" ++ Str.ofString "1000000000000000000000000000001" = Str.ofString "1/1000000000000000000000000000001" := by decide +kernel
theorem cat2 : Str.ofString "-" ++ Str.ofString "1000000000000000000000000000001" = Str.ofString "-1000000000000000000000000000001" := by decide +kernel
section
variable {P : Program} {w : World} {K : PySem.W.Frag} {mg : Str → Option Value} {base : Heap} {f : Addr} {fd : FuncData} {CT CNT CNX CS CD aD aA aL : Addr}
def sp_oddBy : Sp := fun vs H Q _ => ∃ c : Int, vs = [.int c] ∧ 0 ≤ c ∧ ∀ z H', Same H H' → Odd z → Q (.str z) H'
theorem ok_oddBy (F : Fun K "_law_odd_by" "_law_odd_by" s_law_odd_by f fd) (n_str : mg "str" = none) (n_len : mg "len" = none) (F_law_low : Fn P w K mg base CX0 2 "_law_low" ["_law_top", "_law_bottom"] sp_lowQ) : FnOk P w K mg base CX0 3 f fd ["_law_cell"] sp_oddBy := by
 refine okQ F sc_law_odd_by (fun vs H Q E h => ?_) (fun cdv A outer s H vs Q E hr h => ?_)
 ·obtain ⟨c, rfl, _⟩ := h; rfl
 obtain ⟨c, rfl, hc, q⟩ := h
 refine ⟨_, (b_cons (s_set 1 sc_law_odd_by.nd q_str)
   (b_cons (s_set 2 sc_law_odd_by.nd (q_lst (a_c q_str (a_c q_str (a_c q_str (a_c q_str (a_c q_str (a_c q_str (a_c q_str (a_c q_str (a_c q_str (a_c q_str (a_c q_str (a_c q_str (a_c q_str (a_c q_str (a_c q_str (a_c q_str a_nil))))))))))))))))))
   (b_cons (s_set 2 sc_law_odd_by.nd (q_cat (q_v 2) (q_lst (a_c q_str (a_c q_str (a_c q_str (a_c q_str (a_c q_str (a_c q_str (a_c q_str (a_c q_str (a_c q_str (a_c q_str (a_c q_str (a_c (q_v 1) (a_c (q_addS q_str (q_v 1)) a_nil))))))))))))))))
   (b_cons (s_expr (q_app (q_v 2) (a_c (q_addS q_str (q_v 1)) a_nil)))
   (b_cons (s_if (t_gt (q_mod (q_v 0) q_int) q_int) (b_one (s_ret (q_ixL (q_v 2) (q_mod (q_fdiv (q_v 0) q_int) q_int)))) b_nil)
   (b_cons (s_set 3 sc_law_odd_by.nd (q_fn F_law_low hr (by decide) rfl (a_c (q_sub (q_mod (q_fdiv (q_v 0) q_int) (q_sub (q_mul q_int (q_pow q_int q_int)) q_int)) (q_sub (q_pow q_int q_int) q_int)) (a_c (q_add q_int (q_mod (q_fdiv (q_v 0) q_int) q_int)) a_nil))))
   (b_cons (s_set 4 sc_law_odd_by.nd (q_strI rfl n_str (a_c (q_ixT (q_v 3) q_int) a_nil)))
   (b_cons (s_if (t_gt (q_ixT (q_v 3) q_int) q_int) (b_one (s_set 4 sc_law_odd_by.nd (q_addS (q_addS (q_v 4) q_str) (q_strI rfl n_str (a_c (q_ixT (q_v 3) q_int) a_nil))))) b_nil)
   (b_cons (s_set 5 sc_law_odd_by.nd (q_mod (q_fdiv (q_v 0) q_int) (q_add (q_lenX rfl n_len (a_c (q_v 4) a_nil)) q_int)))
   (b_one (s_ret (q_addS (q_addS (q_cutX (q_v 4) (q_v 5)) (q_ixX q_str (q_mod (q_fdiv (q_v 0) q_int) q_int))) (q_cutRX (q_v 4) (q_v 5)))))))))))))), ?_⟩
 rw [show start ["_law_cell", "_law_many", "_law_some", "_law_one", "_law_text", "_law_at"] [.int c] = [some (.int c), none, none, none, none, none] from rfl]
 refine seq_go fun B hB => ?_
 walk_at "rd"
 subst hB
 try dsimp only
 refine seq_go fun B hB => ?_
 walk_at "rd"
 intro l1 H1 hl1 s1 e1
 subst hB
 try dsimp only
 refine seq_go fun B hB => ?_
 walk_at "rd"
 refine ⟨by decide +kernel, fun l2 H2 hl2 s2 e2 => ⟨_, s2 _ _ e1, _, e2, by decide, fun l3 hl3 => ?_⟩⟩
 rw [cat1]
 have s3 := same_new hl3 (.lst ([V.str (Str.ofString ""), V.str (Str.ofString "+1"), V.str (Str.ofString "-0"), V.str (Str.ofString "01"), V.str (Str.ofString "1/1"), V.str (Str.ofString "2/4"), V.str (Str.ofString "1/0"), V.str (Str.ofString "0/5"), V.str (Str.ofString "1/-2"), V.str (Str.ofString "1//2"), V.str (Str.ofString "1/"), V.str (Str.ofString "/2"), V.str (Str.ofString "a"), V.str (Str.ofString "1.5"), V.str (Str.ofString "(1)"), V.str (Str.ofString "--1")] ++ [V.str (Str.ofString "0/1"), V.str (Str.ofString "-0/3"), V.str (Str.ofString "1/02"), V.str (Str.ofString "-"), V.str (Str.ofString "-1/"), V.str (Str.ofString "1 "), V.str (Str.ofString " 1"), V.str (Str.ofString "-6/3"), V.str (Str.ofString "1/2/3"), V.str (Str.ofString "00"), V.str (Str.ofString "1/+2"), V.str (Str.ofString "1000000000000000000000000000001"), V.str (Str.ofString "1/1000000000000000000000000000001")]))
 obtain ⟨L, eL, hL⟩ : ∃ L : List V, L = [V.str (Str.ofString ""), V.str (Str.ofString "+1"), V.str (Str.ofString "-0"), V.str (Str.ofString "01"), V.str (Str.ofString "1/1"), V.str (Str.ofString "2/4"), V.str (Str.ofString "1/0"), V.str (Str.ofString "0/5"), V.str (Str.ofString "1/-2"), V.str (Str.ofString "1//2"), V.str (Str.ofString "1/"), V.str (Str.ofString "/2"), V.str (Str.ofString "a"), V.str (Str.ofString "1.5"), V.str (Str.ofString "(1)"), V.str (Str.ofString "--1")] ++ [V.str (Str.ofString "0/1"), V.str (Str.ofString "-0/3"), V.str (Str.ofString "1/02"), V.str (Str.ofString "-"), V.str (Str.ofString "-1/"), V.str (Str.ofString "1 "), V.str (Str.ofString " 1"), V.str (Str.ofString "-6/3"), V.str (Str.ofString "1/2/3"), V.str (Str.ofString "00"), V.str (Str.ofString "1/+2"), V.str (Str.ofString "1000000000000000000000000000001"), V.str (Str.ofString "1/1000000000000000000000000000001")] ∧ L ++ [V.str (Str.ofString "-1000000000000000000000000000001")] = oddL.map V.str := ⟨_, rfl, rfl⟩
 rw [← eL] at s3 ⊢
 have e3 : upd H2 l3 (.lst L) l3 = some (.lst L) := upd_same
 have hLl : L.length = 29 := by rw [eL]; rfl
 clear eL
 generalize upd H2 l3 (.lst L) = H3 at s3 e3 ⊢
 have s13 := s1.trans (s2.trans s3)
 have hf3 : H l3 = none := (s1.trans s2).free hl3
 subst hB
 try dsimp only
 refine seq_go fun B hB => ?_
 walk_at "rd"
 refine ⟨⟨_, e3⟩, by decide +kernel, _, e3, by rw [hLl]; decide, ?_⟩
 rw [cat2, hL]
 have s4 : Same H (upd H3 l3 (.lst (oddL.map V.str))) := same_upd hf3 s13
 have e4 : upd H3 l3 (.lst (oddL.map V.str)) l3 = some (.lst (oddL.map V.str)) := upd_same
 generalize upd H3 l3 (.lst (oddL.map V.str)) = H4 at s4 e4 ⊢
 subst hB
 try dsimp only
 refine seq_go fun B hB => ?_
 refine if_go fun A1 hA1 C1 hC1 => ?_
 walk_at "rd"
 refine ite2 (fun c1 => ?_) (fun c1 => ?_)
 ·subst hA1
  try dsimp only
  walk_at "rd"
  obtain ⟨a, ha, e⟩ := atI_map (g := V.str) (xs := oddL) (i := c / 3 % 30) (by omega) (by show _ < (30 : Int); omega)
  exact ⟨_, e4, _, e, q a H4 s4 (odd_all ha)⟩
 subst hC1
 refine next_go ?_
 subst hB
 try dsimp only
 refine seq_go fun B hB => ?_
 walk_at "rd"
 have h1 := Int.emod_nonneg (c / 9) (b := 1999999999999999999999999999999) (by decide)
 have h2 := Int.emod_lt_of_pos (c / 9) (b := 1999999999999999999999999999999) (by decide)
 generalize c / 9 % 1999999999999999999999999999999 = x at h1 h2
 refine ⟨_, _, rfl, Big.of (n := 10) (by omega) (by decide), by omega, fun r H5 s5 hrv => ?_⟩
 have hf : Few (Rat.divInt (x - 999999999999999999999999999999) (1 + c / 11 % 7)) := Few.of (by omega) (by omega) (by omega)
 generalize Rat.divInt (x - 999999999999999999999999999999) (1 + c / 11 % 7) = t at hf hrv
 obtain ⟨rp, rfl, hrp⟩ := hrv
 have s05 := s4.trans s5
 have f1 : FmtV (.int t.num) (numS t.num) := .inl ⟨_, rfl, log_few hf.1, rfl⟩
 have f2 : FmtV (.int (t.den : Int)) (numS (t.den : Int)) := .inl ⟨_, rfl, log_few (by have := hf.2; omega), rfl⟩
 subst hB
 try dsimp only
 refine seq_go fun B hB => ?_
 walk_at "rd"
 refine ⟨_, hrp, _, atI0 _ _, _, rfl, log_few hf.1, ?_⟩
 subst hB
 try dsimp only
 refine seq_go fun B hB => ?_
 have l1 := numS_len2 hf.1
 have l2 := numS_len2 (i := (t.den : Int)) (by have := hf.2; omega)
 have l3' := ratS_len hf
 have rest : B [some (V.int c), some (V.str (Str.ofString "1000000000000000000000000000001")), some (V.ref l3), some (V.ref rp), some (V.str (ratS t)), none] H5 := by
  subst hB
  try dsimp only
  refine seq_go fun B hB => ?_
  walk_at "rd"
  have hat0 := Int.emod_nonneg (c / 5) (b := ((ratS t).length : Int) + 1) (by omega)
  have hat1 := Int.emod_lt_of_pos (c / 5) (b := ((ratS t).length : Int) + 1) (by omega)
  refine ⟨big_le (by omega), by omega, ?_⟩
  obtain ⟨j, ej, hj⟩ : ∃ j : Nat, c / 5 % (((ratS t).length : Int) + 1) = (j : Int) ∧ j ≤ (ratS t).length := ⟨(c / 5 % (((ratS t).length : Int) + 1)).toNat, by omega, by omega⟩
  rw [ej]
  subst hB
  try dsimp only
  walk_at "rd"
  obtain ⟨x0, hx0, hxm⟩ := atI_mem (xs := (Str.ofString "+._xA(),:").cps.toList) (i := c / 7 % 9) (by omega) (by rw [show (Str.ofString "+._xA(),:").cps.toList.length = 9 by decide +kernel]; omega)
  have a1 := Txt.slice_le (ratS t) none (some (j : Int))
  have a2 := Txt.slice_le (ratS t) (some (j : Int)) none
  have a3 : ({ cps := #[x0] } : Str).length = 1 := rfl
  refine ⟨by omega, by decide +kernel, x0, hx0, big_le (by omega), by omega, big_le (by rw [strLen_append]; omega), q _ H5 s05 ?_⟩
  refine odd_sign hf hxm (List.take_append_drop j _).symm ?_
  rw [cl_app, cl_app, cut_to _ _ hj, cut_from _ _ hj]
  show _ ++ [x0] ++ _ = _
  rw [List.append_assoc]
  rfl
 walk_at "rd"
 refine ⟨_, hrp, _, atI1 _ _ _, _, rfl, ite2 (fun c2 => ?_) (fun c2 => ?_)⟩
 ·have e : ratS t = numS t.num ++ one 47 ++ numS (t.den : Int) := by unfold ratS; rw [if_neg (by omega)]
  rw [e] at rest
  rw [c_slash, strLen_append, show (one 47).length = 1 from rfl]
  refine ⟨big_le (by omega), _, hrp, _, atI1 _ _ _, _, rfl, log_few (by have := hf.2; omega), big_le (by omega), rest⟩
 ·have hd := t.den_pos
  have e : ratS t = numS t.num := by unfold ratS; rw [if_pos (by omega)]
  rw [e] at rest
  exact rest
def NoTx (H : Hp) (x : V) : Prop := Th0 H x ∧ ∀ z, x ≠ .str z
theorem NoTx.same {H H' : Hp} {x : V} (h : NoTx H x) (s : Same H H') : NoTx H' x := ⟨th0_same s h.1, h.2⟩
def DoorOk (H : Hp) (i : Int) (x : V) (z : Str) : Prop := (i = 0 ∧ ((∃ y, x = .str y ∧ BadRat y) ∨ NoTx H x)) ∨ (1 ≤ i ∧ i ≤ 3 ∧ NoTx H x) ∨ (4 ≤ i ∧ i ≤ 8 ∧ Odd z)
def sp_door (CD CS CT CNX : Addr) : Sp := fun vs H Q E => ∃ (d : Addr) (i : Int) (x : V) (z : Str) (rs : List (Nat × Rat)), vs = [.ref d, .int i, x, .str z] ∧ DeskV CD CS CT H d rs ∧ FewT rs ∧ rs.length ≤ 40 ∧ DoorOk H i x z ∧ Err E CNX H
theorem ok_door (F : FunD K "_law_door" "_law_door" s_law_door .none f fd) (F_read_ratio : Fn P w K mg base (CX1 P w) 4 "read_ratio" ["text"] (sp_readRX CNX)) (F_read_tree : Fn P w K mg base (CX1 P w) 8 "read_tree" ["text"] (sp_readTreeX CT CNX)) (K_Desk : Mkr P w K mg base (CX1 P w) 9 CD "Desk" ["self", "text"] (sp_deskX CD CS CT CNX)) (M_say : Mth P w K mg base (CX1 P w) 7 CD "say" ["self", "row"] (sp_say CD CS CT CNX)) : FnOk P w K mg base (CX1 P w) 11 f fd ["_law_desk", "_law_door_here", "_law_thing", "_law_word"] (sp_door CD CS CT CNX) := by
 refine okX F sc_law_door (fun vs H Q E h => ?_) (fun cdv A outer s H vs Q E hr h => ?_)
 ·obtain ⟨d, i, x, z, rs, rfl, _⟩ := h; rfl
 obtain ⟨d, i, x, z, rs, rfl, hD, hf, hl, hok, q⟩ := h
 obtain ⟨dx, a, da, tr, ds, ps, h1, _⟩ := id hD
 refine ⟨_, (b_cons (s_if (t_eq (q_v 1) q_int) (b_one (s_ret (q_fnX goes_of F_read_ratio hr (by decide) rfl (a_c (q_v 2) a_nil)))) b_nil)
   (b_cons (s_if (t_eq (q_v 1) q_int) (b_one (s_ret (q_fnX goes_of F_read_tree hr (by decide) rfl (a_c (q_v 2) a_nil)))) b_nil)
   (b_cons (s_if (t_eq (q_v 1) q_int) (b_one (s_ret (q_makeX goes_of K_Desk hr (by decide) rfl (a_c (q_v 2) a_nil)))) b_nil)
   (b_cons (s_if (t_eq (q_v 1) q_int) (b_one (s_ret (q_methX goes_of M_say hr (by decide) (q_v 0) (a_c (q_v 2) a_nil)))) b_nil)
   (b_cons (s_if (t_eq (q_v 1) q_int) (b_one (s_ret (q_fnX goes_of F_read_tree hr (by decide) rfl (a_c (q_addS q_str (q_v 3)) a_nil)))) b_nil)
   (b_cons (s_if (t_eq (q_v 1) q_int) (b_one (s_ret (q_makeX goes_of K_Desk hr (by decide) rfl (a_c (q_addS q_str (q_v 3)) a_nil)))) b_nil)
   (b_one (s_ret (q_methX goes_of M_say hr (by decide) (q_v 0) (a_c (q_addS (q_ixL (q_lst (a_c q_str (a_c q_str (a_c q_str a_nil)))) (q_sub (q_v 1) q_int)) (q_v 3)) a_nil)))))))))), ?_⟩
 rw [show start ["_law_desk", "_law_door_here", "_law_thing", "_law_word"] [.ref d, .int i, x, .str z] = [some (.ref d), some (.int i), some (x), some (.str z)] from rfl]
 refine seq_go fun B hB => ?_
 refine if_go fun A1 hA1 C1 hC1 => ?_
 walk_at "rd"
 refine ite2 (fun c0 => ?_) (fun c0 => ?_)
 ·subst hA1
  try dsimp only
  walk_at "rd"
  rcases hok with ⟨_, ⟨y, rfl, hb⟩ | hn⟩ | ⟨h, _⟩ | ⟨h, _⟩
  ·exact badrat_sp hb q
  ·exact nottext_sp hn.1 hn.2 q
  ·omega
  ·omega
 subst hC1
 refine next_go ?_
 subst hB
 try dsimp only
 refine seq_go fun B hB => ?_
 refine if_go fun A1 hA1 C1 hC1 => ?_
 walk_at "rd"
 refine ite2 (fun c1 => ?_) (fun c1 => ?_)
 ·subst hA1
  try dsimp only
  walk_at "rd"
  rcases hok with ⟨h, _⟩ | ⟨_, _, hn⟩ | ⟨h, _⟩
  ·omega
  ·exact ⟨x, rfl, .inr (.inr ⟨hn.1, hn.2, q⟩)⟩
  ·omega
 subst hC1
 refine next_go ?_
 subst hB
 try dsimp only
 refine seq_go fun B hB => ?_
 refine if_go fun A1 hA1 C1 hC1 => ?_
 walk_at "rd"
 refine ite2 (fun c2 => ?_) (fun c2 => ?_)
 ·subst hA1
  try dsimp only
  walk_at "rd"
  rcases hok with ⟨h, _⟩ | ⟨_, _, hn⟩ | ⟨h, _⟩
  ·omega
  ·intro y dy hy hdy hne
   have s1 : Same H (upd (upd H dy (.own y)) y (.ins CD dy [])) := fun b o e => by rw [upd_ne (ne_of_none e hy), upd_ne (ne_of_none e hdy)]; exact e
   exact ⟨y, dy, x, rfl, upd_same, .inr (.inr ⟨th0_same s1 hn.1, hn.2, q.same s1⟩)⟩
  ·omega
 subst hC1
 refine next_go ?_
 subst hB
 try dsimp only
 refine seq_go fun B hB => ?_
 refine if_go fun A1 hA1 C1 hC1 => ?_
 walk_at "rd"
 refine ite2 (fun c3 => ?_) (fun c3 => ?_)
 ·subst hA1
  try dsimp only
  walk_at "rd"
  rcases hok with ⟨h, _⟩ | ⟨_, _, hn⟩ | ⟨h, _⟩
  ·omega
  ·exact ⟨dx, _, h1, rfl, d, x, rs, rfl, hD, hf, hl, .inr (.inr ⟨hn.1, hn.2, q⟩)⟩
  ·omega
 subst hC1
 refine next_go ?_
 subst hB
 try dsimp only
 refine seq_go fun B hB => ?_
 refine if_go fun A1 hA1 C1 hC1 => ?_
 walk_at "rd"
 refine ite2 (fun c4 => ?_) (fun c4 => ?_)
 ·subst hA1
  try dsimp only
  walk_at "rd"
  rcases hok with ⟨h, _⟩ | ⟨_, h, _⟩ | ⟨_, _, ho⟩
  ·omega
  ·omega
  ·exact ⟨big_le (by have := ho.b.1; rw [show (Str.ofString "0 1\n0 ").length = 6 by decide +kernel]; omega), _, rfl, .inr (.inl ⟨_, rfl, ho.t, q⟩)⟩
 subst hC1
 refine next_go ?_
 subst hB
 try dsimp only
 refine seq_go fun B hB => ?_
 refine if_go fun A1 hA1 C1 hC1 => ?_
 walk_at "rd"
 refine ite2 (fun c5 => ?_) (fun c5 => ?_)
 ·subst hA1
  try dsimp only
  walk_at "rd"
  rcases hok with ⟨h, _⟩ | ⟨_, h, _⟩ | ⟨_, _, ho⟩
  ·omega
  ·omega
  ·refine ⟨big_le (by have := ho.b.1; rw [show (Str.ofString "0 ").length = 2 by decide +kernel]; omega), fun y dy hy hdy hne => ?_⟩
   have s1 : Same H (upd (upd H dy (.own y)) y (.ins CD dy [])) := fun b o e => by rw [upd_ne (ne_of_none e hy), upd_ne (ne_of_none e hdy)]; exact e
   exact ⟨y, dy, _, rfl, upd_same, .inr (.inl ⟨_, rfl, ho.u, q.same s1⟩)⟩
 subst hC1
 refine next_go ?_
 subst hB
 try dsimp only
 walk_at "rd"
 rcases hok with ⟨h, _⟩ | ⟨_, h, _⟩ | ⟨_, h8, ho⟩
 ·omega
 ·omega
 have hz := ho.b.1
 refine ⟨dx, _, h1, rfl, fun l H1 hl1 s1 e1 => ⟨_, e1, ?_⟩⟩
 have go : ∀ pre : Str, pre.length ≤ 20 → RowB (pre ++ z) → pre.length + z.length ≤ sizeLine ∧ sp_say CD CS CT CNX [V.ref d, V.str (pre ++ z)] H1 Q E := fun pre hp hb => ⟨big_le (by omega), d, _, rs, rfl, hD.same s1, hf, hl, .inr (.inl ⟨_, rfl, hb, q.same s1⟩)⟩
 have hi : i = 6 ∨ i = 7 ∨ i = 8 := by omega
 rcases hi with rfl | rfl | rfl
 ·exact ⟨_, atI0 _ _, _, rfl, go _ (by decide +kernel) ho.p⟩
 ·exact ⟨_, atI1 _ _ _, _, rfl, go _ (by decide +kernel) ho.c⟩
 ·exact ⟨_, atI2 _ _ _ _, _, rfl, go _ (by decide +kernel) ho.d⟩
def sp_refused (CD CS CT : Addr) : Sp := fun vs H Q _ => ∃ (d : Addr) (i : Int) (x : V) (z : Str) (rs : List (Nat × Rat)), vs = [.ref d, .int i, x, .str z] ∧ DeskV CD CS CT H d rs ∧ FewT rs ∧ rs.length ≤ 40 ∧ DoorOk H i x z ∧ ∀ H', Same H H' → Q (.bl true) H'
theorem ok_refused {CSE CNF CNR : Addr} (F : Fun K "_law_refused" "_law_refused" s_law_refused f fd) (n_isinstance : mg "isinstance" = none) (n_ValueError : mg "ValueError" = none) (m_ShareError : mg "ShareError" = some (.ref CSE)) (m_NoFraction : mg "NoFraction" = some (.ref CNF)) (m_NoPrice : mg "NoPrice" = some (.ref CNR)) (m_NoTree : mg "NoTree" = some (.ref CNT)) (m_NoText : mg "NoText" = some (.ref CNX))
  (xk : ExcK K CNX) (e1 : PySem.W.exmOne K (.ref CNX) (.ref CSE) = some true) (e2 : PySem.W.kitAny K (.ref CNX) [.ref CNF, .ref CNR, .ref CNT] = some false) (e3 : PySem.W.kitOne K (.ref CNX) (.type "ValueError") = some true) (e4 : PySem.W.kitOne K (.ref CNX) (.ref CNX) = some true)
  (F_law_door : Fn P w K mg base (CX1 P w) 11 "_law_door" ["_law_desk", "_law_door_here", "_law_thing", "_law_word"] (sp_door CD CS CT CNX)) : FnOk P w K mg base CX0 12 f fd ["_law_desk", "_law_door_here", "_law_thing", "_law_word"] (sp_refused CD CS CT) := by
 refine okQ F sc_law_refused (fun vs H Q E h => ?_) (fun cdv A outer s H vs Q E hr h => ?_)
 ·obtain ⟨d, i, x, z, rs, rfl, _⟩ := h; rfl
 obtain ⟨d, i, x, z, rs, rfl, hD, hf, hl, hok, q⟩ := h
 refine ⟨_, (b_cons (s_try 4 body_nox sc_law_refused.nd m_ShareError (sx_expr (x_fn body_nox F_law_door hr (by decide) rfl (a_c (q_v 0) (a_c (q_v 1) (a_c (q_v 2) (a_c (q_v 3) a_nil)))))) (by exact fun ea => (b_cons (s_if (t_w (w_or (t_val (q_instT rfl n_isinstance (a_c (q_v 4) (a_c (q_tup (a_c (q_cls rfl m_NoFraction) (a_c (q_cls rfl m_NoPrice) (a_c (q_cls rfl m_NoTree) a_nil)))) a_nil)))) (w_or1 (t_not (t_val (q_instE rfl n_isinstance (a_c (q_v 4) (a_c (q_ty rfl n_ValueError rfl) a_nil)))))))) (b_one (s_ret q_bl)) b_nil)
   (b_one (s_ret (q_instE rfl n_isinstance (a_c (q_v 4) (a_c (q_cls rfl m_NoText) a_nil))))))))
   (b_one (s_ret q_bl))), ?_⟩
 rw [show start ["_law_desk", "_law_door_here", "_law_thing", "_law_word", "e"] [.ref d, .int i, x, .str z] = [some (.ref d), some (.int i), some (x), some (.str z), none] from rfl]
 walk_at "rd"
 refine ⟨d, i, x, z, rs, rfl, hD, hf, hl, hok, fun H' s' => ⟨CNX, rfl, e1, fun ea hn => ?_⟩⟩
 walk_at "rd"
 intro p H2 hp hs e
 have g2 := hs ea _ upd_same
 refine ⟨ea, CNX, p, _, _, false, rfl, g2, xk, e, rfl, e2, ?_⟩
 walk_at "rd"
 refine ⟨ea, CNX, _, _, true, rfl, g2, xk, rfl, e3, ?_⟩
 walk_at "rd"
 refine ⟨ea, CNX, _, _, true, rfl, g2, xk, rfl, e4, ?_⟩
 exact q _ (s'.trans ((same_new hn _).trans hs))
end
theorem keysD : ([Sum.inr (Str.ofString "come"), Sum.inr (Str.ofString "go"), Sum.inr (Str.ofString "move"), Sum.inr (Str.ofString "price"), Sum.inr (Str.ofString "cut"), Sum.inr (Str.ofString "build"), Sum.inr (Str.ofString "back")] : List Key).Nodup := by decide +kernel
theorem keysA : ([Sum.inr (Str.ofString "tree"), Sum.inr (Str.ofString "homes"), Sum.inr (Str.ofString "even"), Sum.inr (Str.ofString "evenest"), Sum.inr (Str.ofString "third"), Sum.inr (Str.ofString "stairs")] : List Key).Nodup := by decide +kernel
theorem keysL : ([Sum.inr (Str.ofString "cost"), Sum.inr (Str.ofString "judge")] : List Key).Nodup := by decide +kernel
theorem desk_mk {P : Program} {w : World} {K : PySem.W.Frag} {aD aA aL : Addr} {D0 D1 D2 D3 D4 D5 D6 A0 A1 A2 A3 A4 A5 : Addr} {dh0 dh1 dh2 dh3 dh4 dh5 dh6 ah0 ah1 ah2 ah3 ah4 ah5 lh0 lh1 : Int} {dt0 dt1 dt2 dt3 dt4 dt5 dt6 at0 at1 at2 at3 at4 at5 lt0 lt1 lv0 lv1 : Tok} {dep aep lep : Nat}
    (gd : K.lookup aD = some ⟨.type "dict", none, .dict #[⟨dh0, .str "come" dt0, .ref D0⟩, ⟨dh1, .str "go" dt1, .ref D1⟩, ⟨dh2, .str "move" dt2, .ref D2⟩, ⟨dh3, .str "price" dt3, .ref D3⟩, ⟨dh4, .str "cut" dt4, .ref D4⟩, ⟨dh5, .str "build" dt5, .ref D5⟩, ⟨dh6, .str "back" dt6, .ref D6⟩] dep, #[]⟩) (sd : (aD == sysModules) = false)
    (ga : K.lookup aA = some ⟨.type "dict", none, .dict #[⟨ah0, .str "tree" at0, .ref A0⟩, ⟨ah1, .str "homes" at1, .ref A1⟩, ⟨ah2, .str "even" at2, .ref A2⟩, ⟨ah3, .str "evenest" at3, .ref A3⟩, ⟨ah4, .str "third" at4, .ref A4⟩, ⟨ah5, .str "stairs" at5, .ref A5⟩] aep, #[]⟩) (sa : (aA == sysModules) = false)
    (gl : K.lookup aL = some ⟨.type "dict", none, .dict #[⟨lh0, .str "cost" lt0, .str "name" lv0⟩, ⟨lh1, .str "judge" lt1, .str "share" lv1⟩] lep, #[]⟩) (sl : (aL == sysModules) = false)
    (hh_dh0 : dh0 = keyH w (Sum.inr "come")) (hh_dh1 : dh1 = keyH w (Sum.inr "go")) (hh_dh2 : dh2 = keyH w (Sum.inr "move")) (hh_dh3 : dh3 = keyH w (Sum.inr "price")) (hh_dh4 : dh4 = keyH w (Sum.inr "cut")) (hh_dh5 : dh5 = keyH w (Sum.inr "build")) (hh_dh6 : dh6 = keyH w (Sum.inr "back")) (hh_ah0 : ah0 = keyH w (Sum.inr "tree")) (hh_ah1 : ah1 = keyH w (Sum.inr "homes")) (hh_ah2 : ah2 = keyH w (Sum.inr "even")) (hh_ah3 : ah3 = keyH w (Sum.inr "evenest")) (hh_ah4 : ah4 = keyH w (Sum.inr "third")) (hh_ah5 : ah5 = keyH w (Sum.inr "stairs")) (hh_lh0 : lh0 = keyH w (Sum.inr "cost")) (hh_lh1 : lh1 = keyH w (Sum.inr "judge"))
    (gD0 : GTup K D0 [.str "name", .str "number"]) (gD1 : GTup K D1 [.str "name"]) (gD2 : GTup K D2 [.str "name", .str "number"]) (gD3 : GTup K D3 [.str "number", .str "fraction"]) (gD4 : GTup K D4 [.str "number", .str "fraction"]) (gD5 : GTup K D5 [.str "number", .str "fraction"]) (gD6 : GTup K D6 []) (gA0 : GTup K A0 []) (gA1 : GTup K A1 []) (gA2 : GTup K A2 []) (gA3 : GTup K A3 []) (gA4 : GTup K A4 []) (gA5 : GTup K A5 []) : DeskT P w K aD aA aL :=
  ⟨⟨D0, D1, D2, D3, D4, D5, D6, gdict_of gd sd (.cons (keyIs_str _ _) hh_dh0 rfl (.cons (keyIs_str _ _) hh_dh1 rfl (.cons (keyIs_str _ _) hh_dh2 rfl (.cons (keyIs_str _ _) hh_dh3 rfl (.cons (keyIs_str _ _) hh_dh4 rfl (.cons (keyIs_str _ _) hh_dh5 rfl (.cons (keyIs_str _ _) hh_dh6 rfl .nil))))))) keysD, gD0, gD1, gD2, gD3, gD4, gD5, gD6⟩,
   ⟨A0, A1, A2, A3, A4, A5, gdict_of ga sa (.cons (keyIs_str _ _) hh_ah0 rfl (.cons (keyIs_str _ _) hh_ah1 rfl (.cons (keyIs_str _ _) hh_ah2 rfl (.cons (keyIs_str _ _) hh_ah3 rfl (.cons (keyIs_str _ _) hh_ah4 rfl (.cons (keyIs_str _ _) hh_ah5 rfl .nil)))))) keysA, gA0, gA1, gA2, gA3, gA4, gA5⟩, gdict_of gl sl (.cons (keyIs_str _ _) hh_lh0 ⟨_, rfl⟩ (.cons (keyIs_str _ _) hh_lh1 ⟨_, rfl⟩ .nil)) keysL⟩
theorem gt2 {K : PySem.W.Frag} {a : Addr} {x y : Str} {td : Option Addr} {ts : Array (Option Value)} {n : Nat} {t1 t2 : Tok} (h : K.lookup a = some ⟨.type "tuple", td, .seq #[.str x t1, .str y t2] n, ts⟩) : GTup K a [.str x, .str y] := ⟨_, _, _, h, rfl, rfl, big_le (show (2 : Nat) ≤ 1000000 by decide), .cons ⟨_, rfl⟩ (.cons ⟨_, rfl⟩ .nil)⟩
theorem gt1 {K : PySem.W.Frag} {a : Addr} {x : Str} {td : Option Addr} {ts : Array (Option Value)} {n : Nat} {t1 : Tok} (h : K.lookup a = some ⟨.type "tuple", td, .seq #[.str x t1] n, ts⟩) : GTup K a [.str x] := ⟨_, _, _, h, rfl, rfl, big_le (show (1 : Nat) ≤ 1000000 by decide), .cons ⟨_, rfl⟩ .nil⟩
theorem gt0 {K : PySem.W.Frag} {a : Addr} {td : Option Addr} {ts : Array (Option Value)} {n : Nat} (h : K.lookup a = some ⟨.type "tuple", td, .seq #[] n, ts⟩) : GTup K a [] := ⟨_, _, _, h, rfl, rfl, by decide, .nil⟩
def q52 : Rat := ⟨5, 2, by decide, by decide⟩
def q73 : Rat := ⟨-7, 3, by decide, by decide⟩
def rs52 : List (Nat × Rat) := [(0, q52)]
theorem text52 : TextG (Str.ofString "0 5/2") rs52 := by
 refine ⟨by decide +kernel, ⟨fun v => if v = 0 then 0 else 1, rfl, fun v => ?_, fun k r e => ?_⟩, fun r hr => ?_, fun r hr => ?_, by decide⟩
 ·dsimp only
  split <;> decide
 ·have hk : k = 0 := by
   have := (List.getElem?_eq_some_iff.mp e).1
   simp [rs52] at this
   exact this
  subst hk
  cases e
  exact ⟨by decide, by decide⟩
 ·rw [List.mem_singleton.mp hr]
  exact ⟨⟨by decide, by decide⟩, by decide⟩
 ·rw [List.mem_singleton.mp hr]
  decide
theorem few52 : FewT rs52 := fun r hr => by
 rw [List.mem_singleton.mp hr]
 exact ⟨⟨by decide, by decide⟩, by decide⟩
theorem tree52 : Str.ofString "0 5/2" = treeS rs52 := text52.1
theorem rat73 : Str.ofString "-7/3" = ratS q73 := by decide +kernel
section
variable {P : Program} {w : World} {K : PySem.W.Frag} {mg : Str → Option Value} {base : Heap} {f : Addr} {fd : FuncData} {CT CNT CNX CS CD : Addr}
def sp_law (K : PySem.W.Frag) : Sp := fun vs H Q _ => ∃ (a : Addr) (ns : List Int), vs = [.ref a] ∧ SqL K H a (ns.map V.int) ∧ ∀ H', Q (.bl true) H'
def Plw (CD CS CT s0 d : Addr) (c : Int) (z : Str) (x : V) (H0 : Hp) (i : Nat) (σ : St) (H : Hp) : Prop := ∃ o5, σ = [some (.ref s0), some (.int c), some (.str z), some x, some (.ref d), o5] ∧ Same H0 H
theorem ok_law (F : Fun K "law" "law" s_law f fd) (n_abs : mg "abs" = none) (n_range : mg "range" = none) (F_law_cell_at : Fn P w K mg base CX0 1 "_law_cell_at" ["_law_script", "_law_k"] (sp_cell K)) (F_law_odd_by : Fn P w K mg base CX0 3 "_law_odd_by" ["_law_cell"] sp_oddBy) (F_law_refused : Fn P w K mg base CX0 12 "_law_refused" ["_law_desk", "_law_door_here", "_law_thing", "_law_word"] (sp_refused CD CS CT))
  (K_Desk : Mkr P w K mg base CX0 9 CD "Desk" ["self", "text"] (fun vs H Q _ => sp_deskX CD CS CT CNX vs H Q E0)) (M_say : Mth P w K mg base CX0 7 CD "say" ["self", "row"] (fun vs H Q _ => sp_say CD CS CT CNX vs H Q E0)) (F_read_ratio : Fn P w K mg base CX0 4 "read_ratio" ["text"] (fun vs H Q _ => sp_readRX CNX vs H Q E0)) (F_read_tree : Fn P w K mg base CX0 8 "read_tree" ["text"] (fun vs H Q _ => sp_readTreeX CT CNX vs H Q E0)) (M_roads : Mth P w K mg base CX0 1 CT "roads" ["self"] (sp_roadsM CT)) : FnOk P w K mg base CX0 14 f fd ["_law_script"] (sp_law K) := by
 refine okQ F sc_law (fun vs H Q E h => ?_) (fun cdv A outer s H vs Q E hr h => ?_)
 ·obtain ⟨a, ns, rfl, _⟩ := h; rfl
 obtain ⟨s0, ns, rfl, hS, q⟩ := h
 refine ⟨_, (b_cons (s_set 1 sc_law.nd (q_abs rfl n_abs (a_c (q_fn F_law_cell_at hr (by decide) rfl (a_c (q_v 0) (a_c q_int a_nil))) a_nil)))
   (b_cons (s_set 2 sc_law.nd (q_fn F_law_odd_by hr (by decide) rfl (a_c (q_v 1) a_nil)))
   (b_cons (s_set 3 sc_law.nd (q_ixL (q_lst (a_c q_non (a_c q_int (a_c q_bl (a_c (q_tup (a_c q_int (a_c q_int a_nil))) (a_c (q_lst (a_c q_str a_nil)) (a_c (q_tup (a_c (q_tup (a_c q_str a_nil)) a_nil)) (a_c (q_lst a_nil) (a_c (q_neg q_int) a_nil))))))))) (q_mod (q_fn F_law_cell_at hr (by decide) rfl (a_c (q_v 0) (a_c q_int a_nil))) q_int)))
   (b_cons (s_set 4 sc_law.nd (q_make K_Desk hr (by decide) rfl (a_c q_str a_nil)))
   (b_cons (s_if (t_not (t_val (q_fn F_law_refused hr (by decide) rfl (a_c (q_v 4) (a_c q_int (a_c (q_v 2) (a_c (q_v 2) a_nil))))))) (b_one (s_ret q_bl)) b_nil)
   (b_cons (s_for PassesOwn.never (i_rng1 rfl n_range (a_c q_int a_nil)) (g_name 5 sc_law.nd) (b_one (s_if (t_not (t_val (q_fn F_law_refused hr (by decide) rfl (a_c (q_v 4) (a_c (q_v 5) (a_c (q_v 3) (a_c (q_v 2) a_nil))))))) (b_one (s_ret q_bl)) b_nil)))
   (b_cons (s_for PassesOwn.never (i_rng2 rfl n_range (a_c q_int (a_c q_int a_nil))) (g_name 5 sc_law.nd) (b_one (s_if (t_not (t_val (q_fn F_law_refused hr (by decide) rfl (a_c (q_v 4) (a_c (q_v 5) (a_c (q_v 3) (a_c (q_v 2) a_nil))))))) (b_one (s_ret q_bl)) b_nil)))
   (b_cons (s_if (t_w (w_or (t_ne (q_meth M_say hr (by decide) (q_v 4) (a_c q_str a_nil)) q_str) (w_or1 (t_not (t_eqD hr (q_fn F_read_ratio hr (by decide) rfl (a_c q_str a_nil)) (q_tup (a_c (q_neg q_int) (a_c q_int a_nil)))))))) (b_one (s_ret q_bl)) b_nil)
   (b_one (s_ret (q_eqD hr (q_meth0 M_roads hr (by decide) (q_fn F_read_tree hr (by decide) rfl (a_c q_str a_nil))) (q_lst (a_c (q_tup (a_c q_int (a_c (q_tup (a_c q_int (a_c q_int a_nil))) a_nil))) a_nil))))))))))))), ?_⟩
 rw [show start ["_law_script", "_law_cell", "_law_odd", "_law_thing", "_law_desk", "_law_door_here"] [.ref s0] = [some (.ref s0), none, none, none, none, none] from rfl]
 refine seq_go fun B hB => ?_
 walk_at "rd"
 refine ⟨s0, ns, 0, rfl, hS, _, rfl, ?_⟩
 have hc0 : 0 ≤ (if cellOf ns 0 < 0 then -cellOf ns 0 else cellOf ns 0) := by split <;> omega
 generalize (if cellOf ns 0 < 0 then -cellOf ns 0 else cellOf ns 0) = c at hc0 ⊢
 subst hB
 try dsimp only
 refine seq_go fun B hB => ?_
 walk_at "rd"
 refine ⟨c, rfl, hc0, fun z H1 s1 ho => ?_⟩
 subst hB
 try dsimp only
 refine seq_go fun B hB => ?_
 walk_at "rd"
 intro p1 H2 hp1 s2 e2 p2 H3 hp2 s3 e3 p3 H4 hp3 s4 e4 p4 H5 hp4 s5 e5 p5 H6 hp5 s6 e6 p6 H7 hp6 s7 e7
 have k6 := s7
 have k5 := s6.trans k6
 have k4 := s5.trans k5
 have k3 := s4.trans k4
 have k2 := s3.trans k3
 have s17 := s1.trans (s2.trans k2)
 refine ⟨s0, ns, 1, rfl, s17.seq hS, _, rfl, _, e7, ?_⟩
 obtain ⟨x, ex, hxm⟩ := atI_mem (xs := [V.non, V.int 3, V.bl true, V.ref p1, V.ref p2, V.ref p4, V.ref p5, V.int (-1)]) (i := cellOf ns 1 % 8) (by omega) (by show _ < (8 : Int); omega)
 refine ⟨x, ex, ?_⟩
 have hx : NoTx H7 x := by
  simp only [List.mem_cons, List.not_mem_nil, or_false] at hxm
  rcases hxm with rfl | rfl | rfl | rfl | rfl | rfl | rfl | rfl
  ·exact ⟨⟨_, rfl⟩, fun _ y => nomatch y⟩
  ·exact ⟨⟨_, rfl⟩, fun _ y => nomatch y⟩
  ·exact ⟨⟨_, rfl⟩, fun _ y => nomatch y⟩
  ·exact ⟨⟨_, kind_tup (k2 _ _ e2)⟩, fun _ y => nomatch y⟩
  ·exact ⟨⟨_, kind_lst (k3 _ _ e3)⟩, fun _ y => nomatch y⟩
  ·exact ⟨⟨_, kind_tup (k5 _ _ e5)⟩, fun _ y => nomatch y⟩
  ·exact ⟨⟨_, kind_lst (k6 _ _ e6)⟩, fun _ y => nomatch y⟩
  ·exact ⟨⟨_, rfl⟩, fun _ y => nomatch y⟩
 clear hxm ex e2 e3 e4 e5 e6 e7 k6 k5 k4 k3 k2
 subst hB
 try dsimp only
 refine seq_go fun B hB => ?_
 walk_at "rd"
 intro d dd hd hdd hne
 have old : Same H7 (upd (upd H7 dd (.own d)) d (.ins CD dd [])) := fun b o e => by rw [upd_ne (ne_of_none e hd), upd_ne (ne_of_none e hdd)]; exact e
 refine ⟨d, dd, _, rfl, upd_same, .inl ⟨_, rs52, rfl, text52, fun H8 k8 hD => ⟨rfl, ?_⟩⟩⟩
 have s8 : Same H7 H8 := fun b o e => k8 b o (ne_of_none e hd) (old b o e)
 clear old k8
 have hx8 := hx.same s8
 subst hB
 try dsimp only
 refine seq_go fun B hB => ?_
 refine if_go fun A1 hA1 C1 hC1 => ?_
 walk_at "rd"
 refine ⟨d, 0, _, z, rs52, rfl, hD, few52, by decide, .inl ⟨rfl, .inl ⟨z, rfl, ho.b⟩⟩, fun H9 s9 => ⟨true, rfl, ?_⟩⟩
 rw [if_neg (by decide)]
 subst hC1
 refine next_go ?_
 subst hB
 try dsimp only
 refine seq_go fun B hB => ?_
 rw [tFor_rng1]
 walk_at "rd"
 refine rngK_of (Plw CD CS CT s0 d c z x H8) ⟨_, rfl, s9⟩ (fun i σ H10 hi hP => ?_) (fun σ H10 hP => ?_)
 ·obtain ⟨o5, rfl, s10⟩ := hP
  refine if_go fun A1 hA1 C1 hC1 => ?_
  walk_at "rd"
  have hi4 : i < 4 := by simpa using hi
  have hx10 := hx8.same s10
  refine ⟨d, (i : Int), x, z, rs52, rfl, hD.same s10, few52, by decide, ?_, fun H12 s12 => ⟨true, rfl, ?_⟩⟩
  ·by_cases c0 : i = 0
   ·exact .inl ⟨by omega, .inr hx10⟩
   ·exact .inr (.inl ⟨by omega, by omega, hx10⟩)
  rw [if_neg (by decide)]
  subst hC1
  refine next_go ?_
  exact ⟨_, rfl, s10.trans s12⟩
 obtain ⟨o5, rfl, s10⟩ := hP
 subst hB
 try dsimp only
 refine seq_go fun B hB => ?_
 rw [tFor_rng2]
 walk_at "rd"
 refine rngK_of (Plw CD CS CT s0 d c z x H8) ⟨_, rfl, s10⟩ (fun i σ H11 hi hP => ?_) (fun σ H11 hP => ?_)
 ·obtain ⟨o5, rfl, s11⟩ := hP
  refine if_go fun A1 hA1 C1 hC1 => ?_
  walk_at "rd"
  have hi5 : i < 5 := by simpa using hi
  refine ⟨d, 4 + (i : Int), x, z, rs52, rfl, hD.same s11, few52, by decide, .inr (.inr ⟨by omega, by omega, ho⟩), fun H12 s12 => ⟨true, rfl, ?_⟩⟩
  rw [if_neg (by decide)]
  subst hC1
  refine next_go ?_
  exact ⟨_, rfl, s11.trans s12⟩
 obtain ⟨o5, rfl, s11⟩ := hP
 subst hB
 try dsimp only
 refine seq_go fun B hB => ?_
 refine if_go fun A1 hA1 C1 hC1 => ?_
 walk_at "rd"
 have hD11 := hD.same s11
 obtain ⟨dx, _, _, _, _, _, f1, _⟩ := id hD11
 refine ⟨dx, _, f1, rfl, d, _, rs52, rfl, hD11, few52, by decide, .inl ⟨rfl, fun H12 s12 => ⟨rfl, ?_⟩⟩⟩
 rw [if_neg (fun y => y (by rw [tree52]))]
 rw [rat73]
 refine goodrat_sp ⟨by decide, by decide⟩ fun r H13 s13 hr13 p14 H14 hp14 s14 e14 => ?_
 obtain ⟨r1, r2, er1, er2, hEq⟩ := eqd_rat (q := q73) (hr13.same s14) ⟨p14, rfl, e14⟩
 refine ⟨true, 1, r1, r2, er1, er2, hEq, by decide, true, rfl, ?_⟩
 rw [if_neg (by decide)]
 subst hC1
 refine next_go ?_
 subst hB
 try dsimp only
 walk_at "rd"
 refine ⟨_, rfl, .inl ⟨_, rs52, rfl, text52, fun y H15 s15 hT => ?_⟩⟩
 obtain ⟨tb, dt, la, wa, ls, ws, rfl, t1, _⟩ := id hT
 refine ⟨tb, rfl, dt, _, t1, rfl, .ref tb, rs52, rfl, hT, fun pr H16 ls1 hpr s16 e16 hR16 => ?_⟩
 intro w1 H17 hw1 s17 e17 w2 H18 hw2 s18 e18 w3 H19 hw3 s19 e19
 have sx := s17.trans (s18.trans s19)
 have h2 : RoadsV H19 [.ref w2] rs52 := ⟨rfl, fun i u r g1 g2 => by
  match i, g1, g2 with
  | 0, g1, g2 =>
   cases g1
   cases g2
   exact ⟨w2, .ref w1, rfl, s19 _ _ e18, w1, rfl, (s18.trans s19) _ _ e17⟩
  | i + 1, g1, _ => simp at g1⟩
 exact ⟨true, 3, pr, w3, rfl, rfl, eqd_roads (sx _ _ e16) e19 (hR16.same sx) h2, by decide, q _⟩
end
theorem len1 {Pr : List Value → Prop} (us : List Value) (h : us.length = 1) (k : ∀ a, Pr [a]) : Pr us := by
 match us, h with
 | [a], _ => exact k a
theorem len2 {Pr : List Value → Prop} (us : List Value) (h : us.length = 2) (k : ∀ a b, Pr [a, b]) : Pr us := by
 match us, h with
 | [a, b], _ => exact k a b
theorem len3 {Pr : List Value → Prop} (us : List Value) (h : us.length = 3) (k : ∀ a b c, Pr [a, b, c]) : Pr us := by
 match us, h with
 | [a, b, c], _ => exact k a b c
theorem len4 {Pr : List Value → Prop} (us : List Value) (h : us.length = 4) (k : ∀ a b c d, Pr [a, b, c, d]) : Pr us := by
 match us, h with
 | [a, b, c, d], _ => exact k a b c d
theorem fn_mk {P : Program} {w : World} {K : PySem.W.Frag} {mg : Str → Option Value} {base h : Heap} {k : Nat} {x : Str} {ps : List Str} {sp : Sp} {f : Addr} {fd : FuncData} (X : K.In h) (G : h.Ns mainGlobals mg) (a : PySem.W.nsIn K mainGlobals x = some (some (.ref f)))
  (kp : PySem.W.keepIn K (.ref f) = true) (b : Binds K fd ps []) (o : FnOk P w K mg base CX0 k f fd ps sp) : Fn P w K mg base CX0 k x ps sp := ⟨f, fd, o, b, kp, PySem.W.mg_of X G a⟩
theorem all_mk {l : PySem.W.OpenLaw} {w : World} {K : PySem.W.Frag} {h : Heap} {mg : Str → Option Value} {fa : Addr} {f0 : Addr} {od0 an0 : Option Addr} {sl0 : Array (Option Value)} {oc0 kV0 dc0 pm0 cd0 ct0 : Value} {f1 : Addr} {od1 an1 : Option Addr} {sl1 : Array (Option Value)} {oc1 kV1 dc1 pm1 cd1 ct1 : Value} {f2 : Addr} {od2 an2 : Option Addr} {sl2 : Array (Option Value)} {oc2 kV2 dc2 pm2 cd2 ct2 : Value} {f3 : Addr} {od3 an3 : Option Addr} {sl3 : Array (Option Value)} {oc3 kV3 dc3 pm3 cd3 ct3 : Value} {f4 : Addr} {od4 an4 : Option Addr} {sl4 : Array (Option Value)} {oc4 kV4 dc4 pm4 cd4 ct4 : Value} {tk_MOST_ROADS : Tok} {cSE : Addr} {cNF : Addr} {cNR : Addr} {cNT : Addr} {cNX : Addr} {clsd : ClassData} {cDEEDS : Addr} {cASKED : Addr} {cLONG : Addr} {D0 D1 D2 D3 D4 D5 D6 A0 A1 A2 A3 A4 A5 : Addr} {dh0 dh1 dh2 dh3 dh4 dh5 dh6 ah0 ah1 ah2 ah3 ah4 ah5 lh0 lh1 : Int} {dt0 dt1 dt2 dt3 dt4 dt5 dt6 at0 at1 at2 at3 at4 at5 lt0 lt1 lv0 lv1 : Tok} {dep aep lep : Nat} {tdD0 : Option Addr} {tsD0 : Array (Option Value)} {tnD0 : Nat} {ttD00 ttD01 : Tok} {tdD1 : Option Addr} {tsD1 : Array (Option Value)} {tnD1 : Nat} {ttD10 : Tok} {tdD2 : Option Addr} {tsD2 : Array (Option Value)} {tnD2 : Nat} {ttD20 ttD21 : Tok} {tdD3 : Option Addr} {tsD3 : Array (Option Value)} {tnD3 : Nat} {ttD30 ttD31 : Tok} {tdD4 : Option Addr} {tsD4 : Array (Option Value)} {tnD4 : Nat} {ttD40 ttD41 : Tok} {tdD5 : Option Addr} {tsD5 : Array (Option Value)} {tnD5 : Nat} {ttD50 ttD51 : Tok} {tdD6 : Option Addr} {tsD6 : Array (Option Value)} {tnD6 : Nat}  {tdA0 : Option Addr} {tsA0 : Array (Option Value)} {tnA0 : Nat}  {tdA1 : Option Addr} {tsA1 : Array (Option Value)} {tnA1 : Nat}  {tdA2 : Option Addr} {tsA2 : Array (Option Value)} {tnA2 : Nat}  {tdA3 : Option Addr} {tsA3 : Array (Option Value)} {tnA3 : Nat}  {tdA4 : Option Addr} {tsA4 : Array (Option Value)} {tnA4 : Nat}  {tdA5 : Option Addr} {tsA5 : Array (Option Value)} {tnA5 : Nat}  {f81 : Addr} {od81 an81 : Option Addr} {sl81 : Array (Option Value)} {oc81 kV81 dc81 pm81 cd81 ct81 : Value} {f82 : Addr} {od82 an82 : Option Addr} {sl82 : Array (Option Value)} {oc82 kV82 dc82 pm82 cd82 ct82 : Value} {cTree : Addr} {f84 : Addr} {od84 an84 : Option Addr} {sl84 : Array (Option Value)} {oc84 kV84 dc84 pm84 cd84 ct84 : Value} {f92 : Addr} {od92 an92 : Option Addr} {sl92 : Array (Option Value)} {oc92 kV92 dc92 pm92 cd92 ct92 : Value} {tk_MOST_FIGURES : Tok} {tk_FIGURES : Tok} {f95 : Addr} {od95 an95 : Option Addr} {sl95 : Array (Option Value)} {oc95 kV95 dc95 pm95 cd95 ct95 : Value} {f96 : Addr} {od96 an96 : Option Addr} {sl96 : Array (Option Value)} {oc96 kV96 dc96 pm96 cd96 ct96 : Value} {f97 : Addr} {od97 an97 : Option Addr} {sl97 : Array (Option Value)} {oc97 kV97 dc97 pm97 cd97 ct97 : Value} {f98 : Addr} {od98 an98 : Option Addr} {sl98 : Array (Option Value)} {oc98 kV98 dc98 pm98 cd98 ct98 : Value} {f99 : Addr} {od99 an99 : Option Addr} {sl99 : Array (Option Value)} {oc99 kV99 dc99 pm99 cd99 ct99 : Value} {f100 : Addr} {od100 an100 : Option Addr} {sl100 : Array (Option Value)} {oc100 kV100 dc100 pm100 cd100 ct100 : Value} {f101 : Addr} {od101 an101 : Option Addr} {sl101 : Array (Option Value)} {oc101 kV101 dc101 pm101 cd101 ct101 : Value} {f102 : Addr} {od102 an102 : Option Addr} {sl102 : Array (Option Value)} {oc102 kV102 dc102 pm102 cd102 ct102 : Value} {cShire : Addr} {f104 : Addr} {od104 an104 : Option Addr} {sl104 : Array (Option Value)} {oc104 kV104 dc104 pm104 cd104 ct104 : Value} {f105 : Addr} {od105 an105 : Option Addr} {sl105 : Array (Option Value)} {oc105 kV105 dc105 pm105 cd105 ct105 : Value} {cDesk : Addr} {f107 : Addr} {od107 an107 : Option Addr} {sl107 : Array (Option Value)} {oc107 kV107 dc107 pm107 cd107 ct107 : Value} {f109 : Addr} {od109 an109 : Option Addr} {sl109 : Array (Option Value)} {oc109 kV109 dc109 pm109 cd109 ct109 : Value} {f110 : Addr} {od110 an110 : Option Addr} {sl110 : Array (Option Value)} {oc110 kV110 dc110 pm110 cd110 ct110 : Value} {f111 : Addr} {od111 an111 : Option Addr} {sl111 : Array (Option Value)} {oc111 kV111 dc111 pm111 cd111 ct111 : Value} {f112 : Addr} {od112 an112 : Option Addr} {sl112 : Array (Option Value)} {oc112 kV112 dc112 pm112 cd112 ct112 : Value} {f113 : Addr} {od113 an113 : Option Addr} {sl113 : Array (Option Value)} {oc113 kV113 dc113 pm113 cd113 ct113 : Value} {f114 : Addr} {od114 an114 : Option Addr} {sl114 : Array (Option Value)} {oc114 kV114 dc114 pm114 cd114 ct114 : Value} {f115 : Addr} {od115 an115 : Option Addr} {sl115 : Array (Option Value)} {oc115 kV115 dc115 pm115 cd115 ct115 : Value} {f116 : Addr} {od116 an116 : Option Addr} {sl116 : Array (Option Value)} {oc116 kV116 dc116 pm116 cd116 ct116 : Value} {f117 : Addr} {od117 an117 : Option Addr} {sl117 : Array (Option Value)} {oc117 kV117 dc117 pm117 cd117 ct117 : Value} {f118 : Addr} {od118 an118 : Option Addr} {sl118 : Array (Option Value)} {oc118 kV118 dc118 pm118 cd118 ct118 : Value} {f119 : Addr} {od119 an119 : Option Addr} {sl119 : Array (Option Value)} {oc119 kV119 dc119 pm119 cd119 ct119 : Value} {f120 : Addr} {od120 an120 : Option Addr} {sl120 : Array (Option Value)} {oc120 kV120 dc120 pm120 cd120 ct120 : Value}
  (X : K.In h) (G : h.Ns mainGlobals mg) (hfa : mg "law" = some (.ref fa))
  (a0 : PySem.W.nsIn K mainGlobals "is_whole" = some (some (.ref f0)))
  (l0 : K.lookup f0 = some ⟨oc0, od0, .func (PySem.W.fnOf "is_whole" "is_whole" (defArgs s_is_whole) (defBody s_is_whole) (defScope s_is_whole) .none kV0 dc0 pm0 an0 cd0 ct0), sl0⟩)
  (c0 : PySem.W.codeIn K cd0 "is_whole" = true)
  (k0 : PySem.W.keepIn K (.ref f0) = true)
  (a1 : PySem.W.nsIn K mainGlobals "greatest_divisor" = some (some (.ref f1)))
  (l1 : K.lookup f1 = some ⟨oc1, od1, .func (PySem.W.fnOf "greatest_divisor" "greatest_divisor" (defArgs s_greatest_divisor) (defBody s_greatest_divisor) (defScope s_greatest_divisor) .none kV1 dc1 pm1 an1 cd1 ct1), sl1⟩)
  (c1 : PySem.W.codeIn K cd1 "greatest_divisor" = true)
  (k1 : PySem.W.keepIn K (.ref f1) = true)
  (a2 : PySem.W.nsIn K mainGlobals "is_ratio" = some (some (.ref f2)))
  (l2 : K.lookup f2 = some ⟨oc2, od2, .func (PySem.W.fnOf "is_ratio" "is_ratio" (defArgs s_is_ratio) (defBody s_is_ratio) (defScope s_is_ratio) .none kV2 dc2 pm2 an2 cd2 ct2), sl2⟩)
  (c2 : PySem.W.codeIn K cd2 "is_ratio" = true)
  (k2 : PySem.W.keepIn K (.ref f2) = true)
  (a3 : PySem.W.nsIn K mainGlobals "is_price" = some (some (.ref f3)))
  (l3 : K.lookup f3 = some ⟨oc3, od3, .func (PySem.W.fnOf "is_price" "is_price" (defArgs s_is_price) (defBody s_is_price) (defScope s_is_price) .none kV3 dc3 pm3 an3 cd3 ct3), sl3⟩)
  (c3 : PySem.W.codeIn K cd3 "is_price" = true)
  (k3 : PySem.W.keepIn K (.ref f3) = true)
  (a4 : PySem.W.nsIn K mainGlobals "is_road" = some (some (.ref f4)))
  (l4 : K.lookup f4 = some ⟨oc4, od4, .func (PySem.W.fnOf "is_road" "is_road" (defArgs s_is_road) (defBody s_is_road) (defScope s_is_road) .none kV4 dc4 pm4 an4 cd4 ct4), sl4⟩)
  (c4 : PySem.W.codeIn K cd4 "is_road" = true)
  (k4 : PySem.W.keepIn K (.ref f4) = true)
  (a_MOST_ROADS : PySem.W.nsIn K mainGlobals "MOST_ROADS" = some (some (.int 40 tk_MOST_ROADS)))
  (a_ShareError : PySem.W.nsIn K mainGlobals "ShareError" = some (some (.ref cSE)))
  (a_NoFraction : PySem.W.nsIn K mainGlobals "NoFraction" = some (some (.ref cNF)))
  (a_NoPrice : PySem.W.nsIn K mainGlobals "NoPrice" = some (some (.ref cNR)))
  (a_NoTree : PySem.W.nsIn K mainGlobals "NoTree" = some (some (.ref cNT)))
  (a_NoText : PySem.W.nsIn K mainGlobals "NoText" = some (some (.ref cNX)))
  (ec0 : PySem.W.excIn K cNX [.type "ValueError", .type "Exception", .type "BaseException", .type "object"] "ValueError.__new__" = true)
  (x0 : PySem.W.clsIn K cNX = some clsd)
  (x1 : PySem.W.findIn K (.ref cNX) "__getattribute__" = some (some (.builtin "BaseException.__getattribute__")))
  (x2 : PySem.W.findIn K (.ref cNX) "__getattr__" = some none)
  (x3 : PySem.W.findIn K (.ref cNX) "__class__" = some (some (.builtin "object.__class__")))
  (x4 : PySem.W.specialIn K (.builtin "object.__class__") "__get__" = some (some (.builtin "getset_descriptor.__get__")))
  (x5 : PySem.W.takesIn K (.builtin "object.__class__") = some true)
  (x6 : PySem.W.mroIn K cNX (.type "object") = some true)
  (x7 : PySem.W.mroIn K cNX (.type "BaseException") = some true)
  (e1 : PySem.W.exmOne K (.ref cNX) (.ref cSE) = some true)
  (e2 : PySem.W.kitAny K (.ref cNX) [.ref cNF, .ref cNR, .ref cNT] = some false)
  (e3 : PySem.W.kitOne K (.ref cNX) (.type "ValueError") = some true)
  (e4 : PySem.W.kitOne K (.ref cNX) (.ref cNX) = some true)
  (et0 : PySem.W.excIn K cNT [.type "ValueError", .type "Exception", .type "BaseException", .type "object"] "ValueError.__new__" = true)
  (a_DEEDS : PySem.W.nsIn K mainGlobals "DEEDS" = some (some (.ref cDEEDS)))
  (a_ASKED : PySem.W.nsIn K mainGlobals "ASKED" = some (some (.ref cASKED)))
  (a_LONG_ASKED : PySem.W.nsIn K mainGlobals "LONG_ASKED" = some (some (.ref cLONG)))
  (gd : K.lookup cDEEDS = some ⟨.type "dict", none, .dict #[⟨dh0, .str "come" dt0, .ref D0⟩, ⟨dh1, .str "go" dt1, .ref D1⟩, ⟨dh2, .str "move" dt2, .ref D2⟩, ⟨dh3, .str "price" dt3, .ref D3⟩, ⟨dh4, .str "cut" dt4, .ref D4⟩, ⟨dh5, .str "build" dt5, .ref D5⟩, ⟨dh6, .str "back" dt6, .ref D6⟩] dep, #[]⟩)
  (sd : (cDEEDS == sysModules) = false)
  (ga : K.lookup cASKED = some ⟨.type "dict", none, .dict #[⟨ah0, .str "tree" at0, .ref A0⟩, ⟨ah1, .str "homes" at1, .ref A1⟩, ⟨ah2, .str "even" at2, .ref A2⟩, ⟨ah3, .str "evenest" at3, .ref A3⟩, ⟨ah4, .str "third" at4, .ref A4⟩, ⟨ah5, .str "stairs" at5, .ref A5⟩] aep, #[]⟩)
  (sa : (cASKED == sysModules) = false)
  (gl : K.lookup cLONG = some ⟨.type "dict", none, .dict #[⟨lh0, .str "cost" lt0, .str "name" lv0⟩, ⟨lh1, .str "judge" lt1, .str "share" lv1⟩] lep, #[]⟩)
  (sl : (cLONG == sysModules) = false)
  (hh_dh0 : dh0 = keyH w (Sum.inr "come"))
  (hh_dh1 : dh1 = keyH w (Sum.inr "go"))
  (hh_dh2 : dh2 = keyH w (Sum.inr "move"))
  (hh_dh3 : dh3 = keyH w (Sum.inr "price"))
  (hh_dh4 : dh4 = keyH w (Sum.inr "cut"))
  (hh_dh5 : dh5 = keyH w (Sum.inr "build"))
  (hh_dh6 : dh6 = keyH w (Sum.inr "back"))
  (hh_ah0 : ah0 = keyH w (Sum.inr "tree"))
  (hh_ah1 : ah1 = keyH w (Sum.inr "homes"))
  (hh_ah2 : ah2 = keyH w (Sum.inr "even"))
  (hh_ah3 : ah3 = keyH w (Sum.inr "evenest"))
  (hh_ah4 : ah4 = keyH w (Sum.inr "third"))
  (hh_ah5 : ah5 = keyH w (Sum.inr "stairs"))
  (hh_lh0 : lh0 = keyH w (Sum.inr "cost"))
  (hh_lh1 : lh1 = keyH w (Sum.inr "judge"))
  (tlD0 : K.lookup D0 = some ⟨.type "tuple", tdD0, .seq #[.str "name" ttD00, .str "number" ttD01] tnD0, tsD0⟩)
  (tlD1 : K.lookup D1 = some ⟨.type "tuple", tdD1, .seq #[.str "name" ttD10] tnD1, tsD1⟩)
  (tlD2 : K.lookup D2 = some ⟨.type "tuple", tdD2, .seq #[.str "name" ttD20, .str "number" ttD21] tnD2, tsD2⟩)
  (tlD3 : K.lookup D3 = some ⟨.type "tuple", tdD3, .seq #[.str "number" ttD30, .str "fraction" ttD31] tnD3, tsD3⟩)
  (tlD4 : K.lookup D4 = some ⟨.type "tuple", tdD4, .seq #[.str "number" ttD40, .str "fraction" ttD41] tnD4, tsD4⟩)
  (tlD5 : K.lookup D5 = some ⟨.type "tuple", tdD5, .seq #[.str "number" ttD50, .str "fraction" ttD51] tnD5, tsD5⟩)
  (tlD6 : K.lookup D6 = some ⟨.type "tuple", tdD6, .seq #[] tnD6, tsD6⟩)
  (tlA0 : K.lookup A0 = some ⟨.type "tuple", tdA0, .seq #[] tnA0, tsA0⟩)
  (tlA1 : K.lookup A1 = some ⟨.type "tuple", tdA1, .seq #[] tnA1, tsA1⟩)
  (tlA2 : K.lookup A2 = some ⟨.type "tuple", tdA2, .seq #[] tnA2, tsA2⟩)
  (tlA3 : K.lookup A3 = some ⟨.type "tuple", tdA3, .seq #[] tnA3, tsA3⟩)
  (tlA4 : K.lookup A4 = some ⟨.type "tuple", tdA4, .seq #[] tnA4, tsA4⟩)
  (tlA5 : K.lookup A5 = some ⟨.type "tuple", tdA5, .seq #[] tnA5, tsA5⟩)
  (a81 : PySem.W.nsIn K mainGlobals "look_roads" = some (some (.ref f81)))
  (l81 : K.lookup f81 = some ⟨oc81, od81, .func (PySem.W.fnOf "look_roads" "look_roads" (defArgs s_look_roads) (defBody s_look_roads) (defScope s_look_roads) .none kV81 dc81 pm81 an81 cd81 ct81), sl81⟩)
  (c81 : PySem.W.codeIn K cd81 "look_roads" = true)
  (k81 : PySem.W.keepIn K (.ref f81) = true)
  (a82 : PySem.W.nsIn K mainGlobals "way_from" = some (some (.ref f82)))
  (l82 : K.lookup f82 = some ⟨oc82, od82, .func (PySem.W.fnOf "way_from" "way_from" (defArgs s_way_from) (defBody s_way_from) (defScope s_way_from) .none kV82 dc82 pm82 an82 cd82 ct82), sl82⟩)
  (c82 : PySem.W.codeIn K cd82 "way_from" = true)
  (k82 : PySem.W.keepIn K (.ref f82) = true)
  (a_Tree : PySem.W.nsIn K mainGlobals "Tree" = some (some (.ref cTree)))
  (pg_Tree : PySem.W.plainGet K cTree Str.empty = true)
  (hd_Tree : PySem.W.hasDictIn K cTree = true)
  (po_Tree : PySem.W.plainOver K cTree = true)
  (sa_Tree : PySem.W.findIn K (.ref cTree) "__setattr__" = some (some (.builtin "object.__setattr__")))
  (nf_lanes : PySem.W.findIn K (.ref cTree) "lanes" = some none)
  (nf_ways : PySem.W.findIn K (.ref cTree) "ways" = some none)
  (a84 : PySem.W.findIn K (.ref cTree) "__init__" = some (some (.ref f84)))
  (l84 : K.lookup f84 = some ⟨oc84, od84, .func (PySem.W.fnOf "__init__" "Tree.__init__" (defArgs s_Tree___init__) (defBody s_Tree___init__) (defScope s_Tree___init__) .none kV84 dc84 pm84 an84 cd84 ct84), sl84⟩)
  (c84 : PySem.W.codeIn K cd84 "Tree.__init__" = true)
  (k84 : PySem.W.keepIn K (.ref f84) = true)
  (i84 : PySem.W.isFn K (.ref f84) = true)
  (mk84 : PySem.W.makesIn K cTree = true)
  (kc84 : PySem.W.keepIn K (.ref cTree) = true)
  (a92 : PySem.W.findIn K (.ref cTree) "roads" = some (some (.ref f92)))
  (l92 : K.lookup f92 = some ⟨oc92, od92, .func (PySem.W.fnOf "roads" "Tree.roads" (defArgs s_Tree_roads) (defBody s_Tree_roads) (defScope s_Tree_roads) .none kV92 dc92 pm92 an92 cd92 ct92), sl92⟩)
  (c92 : PySem.W.codeIn K cd92 "Tree.roads" = true)
  (k92 : PySem.W.keepIn K (.ref f92) = true)
  (i92 : PySem.W.isFn K (.ref f92) = true)
  (a_MOST_FIGURES : PySem.W.nsIn K mainGlobals "MOST_FIGURES" = some (some (.int 30 tk_MOST_FIGURES)))
  (a_FIGURES : PySem.W.nsIn K mainGlobals "FIGURES" = some (some (.str "0123456789" tk_FIGURES)))
  (a95 : PySem.W.nsIn K mainGlobals "show_ratio" = some (some (.ref f95)))
  (l95 : K.lookup f95 = some ⟨oc95, od95, .func (PySem.W.fnOf "show_ratio" "show_ratio" (defArgs s_show_ratio) (defBody s_show_ratio) (defScope s_show_ratio) .none kV95 dc95 pm95 an95 cd95 ct95), sl95⟩)
  (c95 : PySem.W.codeIn K cd95 "show_ratio" = true)
  (k95 : PySem.W.keepIn K (.ref f95) = true)
  (a96 : PySem.W.nsIn K mainGlobals "show_road" = some (some (.ref f96)))
  (l96 : K.lookup f96 = some ⟨oc96, od96, .func (PySem.W.fnOf "show_road" "show_road" (defArgs s_show_road) (defBody s_show_road) (defScope s_show_road) .none kV96 dc96 pm96 an96 cd96 ct96), sl96⟩)
  (c96 : PySem.W.codeIn K cd96 "show_road" = true)
  (k96 : PySem.W.keepIn K (.ref f96) = true)
  (a97 : PySem.W.nsIn K mainGlobals "show_tree" = some (some (.ref f97)))
  (l97 : K.lookup f97 = some ⟨oc97, od97, .func (PySem.W.fnOf "show_tree" "show_tree" (defArgs s_show_tree) (defBody s_show_tree) (defScope s_show_tree) .none kV97 dc97 pm97 an97 cd97 ct97), sl97⟩)
  (c97 : PySem.W.codeIn K cd97 "show_tree" = true)
  (k97 : PySem.W.keepIn K (.ref f97) = true)
  (a98 : PySem.W.nsIn K mainGlobals "look_text" = some (some (.ref f98)))
  (l98 : K.lookup f98 = some ⟨oc98, od98, .func (PySem.W.fnOf "look_text" "look_text" (defArgs s_look_text) (defBody s_look_text) (defScope s_look_text) .none kV98 dc98 pm98 an98 cd98 ct98), sl98⟩)
  (c98 : PySem.W.codeIn K cd98 "look_text" = true)
  (k98 : PySem.W.keepIn K (.ref f98) = true)
  (a99 : PySem.W.nsIn K mainGlobals "read_whole" = some (some (.ref f99)))
  (l99 : K.lookup f99 = some ⟨oc99, od99, .func (PySem.W.fnOf "read_whole" "read_whole" (defArgs s_read_whole) (defBody s_read_whole) (defScope s_read_whole) .none kV99 dc99 pm99 an99 cd99 ct99), sl99⟩)
  (c99 : PySem.W.codeIn K cd99 "read_whole" = true)
  (k99 : PySem.W.keepIn K (.ref f99) = true)
  (a100 : PySem.W.nsIn K mainGlobals "read_ratio" = some (some (.ref f100)))
  (l100 : K.lookup f100 = some ⟨oc100, od100, .func (PySem.W.fnOf "read_ratio" "read_ratio" (defArgs s_read_ratio) (defBody s_read_ratio) (defScope s_read_ratio) .none kV100 dc100 pm100 an100 cd100 ct100), sl100⟩)
  (c100 : PySem.W.codeIn K cd100 "read_ratio" = true)
  (k100 : PySem.W.keepIn K (.ref f100) = true)
  (a101 : PySem.W.nsIn K mainGlobals "read_road" = some (some (.ref f101)))
  (l101 : K.lookup f101 = some ⟨oc101, od101, .func (PySem.W.fnOf "read_road" "read_road" (defArgs s_read_road) (defBody s_read_road) (defScope s_read_road) .none kV101 dc101 pm101 an101 cd101 ct101), sl101⟩)
  (c101 : PySem.W.codeIn K cd101 "read_road" = true)
  (k101 : PySem.W.keepIn K (.ref f101) = true)
  (a102 : PySem.W.nsIn K mainGlobals "read_tree" = some (some (.ref f102)))
  (l102 : K.lookup f102 = some ⟨oc102, od102, .func (PySem.W.fnOf "read_tree" "read_tree" (defArgs s_read_tree) (defBody s_read_tree) (defScope s_read_tree) .none kV102 dc102 pm102 an102 cd102 ct102), sl102⟩)
  (c102 : PySem.W.codeIn K cd102 "read_tree" = true)
  (k102 : PySem.W.keepIn K (.ref f102) = true)
  (a_Shire : PySem.W.nsIn K mainGlobals "Shire" = some (some (.ref cShire)))
  (pg_Shire : PySem.W.plainGet K cShire Str.empty = true)
  (hd_Shire : PySem.W.hasDictIn K cShire = true)
  (po_Shire : PySem.W.plainOver K cShire = true)
  (sa_Shire : PySem.W.findIn K (.ref cShire) "__setattr__" = some (some (.builtin "object.__setattr__")))
  (nf_land : PySem.W.findIn K (.ref cShire) "land" = some none)
  (nf_places : PySem.W.findIn K (.ref cShire) "places" = some none)
  (nf_past : PySem.W.findIn K (.ref cShire) "past" = some none)
  (a104 : PySem.W.findIn K (.ref cShire) "__init__" = some (some (.ref f104)))
  (l104 : K.lookup f104 = some ⟨oc104, od104, .func (PySem.W.fnOf "__init__" "Shire.__init__" (defArgs s_Shire___init__) (defBody s_Shire___init__) (defScope s_Shire___init__) .none kV104 dc104 pm104 an104 cd104 ct104), sl104⟩)
  (c104 : PySem.W.codeIn K cd104 "Shire.__init__" = true)
  (k104 : PySem.W.keepIn K (.ref f104) = true)
  (i104 : PySem.W.isFn K (.ref f104) = true)
  (mk104 : PySem.W.makesIn K cShire = true)
  (kc104 : PySem.W.keepIn K (.ref cShire) = true)
  (a105 : PySem.W.findIn K (.ref cShire) "tree" = some (some (.ref f105)))
  (l105 : K.lookup f105 = some ⟨oc105, od105, .func (PySem.W.fnOf "tree" "Shire.tree" (defArgs s_Shire_tree) (defBody s_Shire_tree) (defScope s_Shire_tree) .none kV105 dc105 pm105 an105 cd105 ct105), sl105⟩)
  (c105 : PySem.W.codeIn K cd105 "Shire.tree" = true)
  (k105 : PySem.W.keepIn K (.ref f105) = true)
  (i105 : PySem.W.isFn K (.ref f105) = true)
  (a_Desk : PySem.W.nsIn K mainGlobals "Desk" = some (some (.ref cDesk)))
  (pg_Desk : PySem.W.plainGet K cDesk Str.empty = true)
  (hd_Desk : PySem.W.hasDictIn K cDesk = true)
  (po_Desk : PySem.W.plainOver K cDesk = true)
  (sa_Desk : PySem.W.findIn K (.ref cDesk) "__setattr__" = some (some (.builtin "object.__setattr__")))
  (nf_shire : PySem.W.findIn K (.ref cDesk) "shire" = some none)
  (a107 : PySem.W.findIn K (.ref cDesk) "__init__" = some (some (.ref f107)))
  (l107 : K.lookup f107 = some ⟨oc107, od107, .func (PySem.W.fnOf "__init__" "Desk.__init__" (defArgs s_Desk___init__) (defBody s_Desk___init__) (defScope s_Desk___init__) .none kV107 dc107 pm107 an107 cd107 ct107), sl107⟩)
  (c107 : PySem.W.codeIn K cd107 "Desk.__init__" = true)
  (k107 : PySem.W.keepIn K (.ref f107) = true)
  (i107 : PySem.W.isFn K (.ref f107) = true)
  (mk107 : PySem.W.makesIn K cDesk = true)
  (kc107 : PySem.W.keepIn K (.ref cDesk) = true)
  (a109 : PySem.W.nsIn K mainGlobals "kinds_behind" = some (some (.ref f109)))
  (l109 : K.lookup f109 = some ⟨oc109, od109, .func (PySem.W.fnOf "kinds_behind" "kinds_behind" (defArgs s_kinds_behind) (defBody s_kinds_behind) (defScope s_kinds_behind) .none kV109 dc109 pm109 an109 cd109 ct109), sl109⟩)
  (c109 : PySem.W.codeIn K cd109 "kinds_behind" = true)
  (k109 : PySem.W.keepIn K (.ref f109) = true)
  (a110 : PySem.W.nsIn K mainGlobals "read_word" = some (some (.ref f110)))
  (l110 : K.lookup f110 = some ⟨oc110, od110, .func (PySem.W.fnOf "read_word" "read_word" (defArgs s_read_word) (defBody s_read_word) (defScope s_read_word) .none kV110 dc110 pm110 an110 cd110 ct110), sl110⟩)
  (c110 : PySem.W.codeIn K cd110 "read_word" = true)
  (k110 : PySem.W.keepIn K (.ref f110) = true)
  (a111 : PySem.W.nsIn K mainGlobals "read_row" = some (some (.ref f111)))
  (l111 : K.lookup f111 = some ⟨oc111, od111, .func (PySem.W.fnOf "read_row" "read_row" (defArgs s_read_row) (defBody s_read_row) (defScope s_read_row) .none kV111 dc111 pm111 an111 cd111 ct111), sl111⟩)
  (c111 : PySem.W.codeIn K cd111 "read_row" = true)
  (k111 : PySem.W.keepIn K (.ref f111) = true)
  (a112 : PySem.W.nsIn K mainGlobals "told" = some (some (.ref f112)))
  (l112 : K.lookup f112 = some ⟨oc112, od112, .func (PySem.W.fnOf "told" "told" (defArgs s_told) (defBody s_told) (defScope s_told) .none kV112 dc112 pm112 an112 cd112 ct112), sl112⟩)
  (c112 : PySem.W.codeIn K cd112 "told" = true)
  (k112 : PySem.W.keepIn K (.ref f112) = true)
  (a113 : PySem.W.findIn K (.ref cDesk) "say" = some (some (.ref f113)))
  (l113 : K.lookup f113 = some ⟨oc113, od113, .func (PySem.W.fnOf "say" "Desk.say" (defArgs s_Desk_say) (defBody s_Desk_say) (defScope s_Desk_say) .none kV113 dc113 pm113 an113 cd113 ct113), sl113⟩)
  (c113 : PySem.W.codeIn K cd113 "Desk.say" = true)
  (k113 : PySem.W.keepIn K (.ref f113) = true)
  (i113 : PySem.W.isFn K (.ref f113) = true)
  (a114 : PySem.W.nsIn K mainGlobals "_law_cell_at" = some (some (.ref f114)))
  (l114 : K.lookup f114 = some ⟨oc114, od114, .func (PySem.W.fnOf "_law_cell_at" "_law_cell_at" (defArgs s_law_cell_at) (defBody s_law_cell_at) (defScope s_law_cell_at) .none kV114 dc114 pm114 an114 cd114 ct114), sl114⟩)
  (c114 : PySem.W.codeIn K cd114 "_law_cell_at" = true)
  (k114 : PySem.W.keepIn K (.ref f114) = true)
  (a115 : PySem.W.nsIn K mainGlobals "_law_divisor" = some (some (.ref f115)))
  (l115 : K.lookup f115 = some ⟨oc115, od115, .func (PySem.W.fnOf "_law_divisor" "_law_divisor" (defArgs s_law_divisor) (defBody s_law_divisor) (defScope s_law_divisor) .none kV115 dc115 pm115 an115 cd115 ct115), sl115⟩)
  (c115 : PySem.W.codeIn K cd115 "_law_divisor" = true)
  (k115 : PySem.W.keepIn K (.ref f115) = true)
  (a116 : PySem.W.nsIn K mainGlobals "_law_low" = some (some (.ref f116)))
  (l116 : K.lookup f116 = some ⟨oc116, od116, .func (PySem.W.fnOf "_law_low" "_law_low" (defArgs s_law_low) (defBody s_law_low) (defScope s_law_low) .none kV116 dc116 pm116 an116 cd116 ct116), sl116⟩)
  (c116 : PySem.W.codeIn K cd116 "_law_low" = true)
  (k116 : PySem.W.keepIn K (.ref f116) = true)
  (a117 : PySem.W.nsIn K mainGlobals "_law_odd_by" = some (some (.ref f117)))
  (l117 : K.lookup f117 = some ⟨oc117, od117, .func (PySem.W.fnOf "_law_odd_by" "_law_odd_by" (defArgs s_law_odd_by) (defBody s_law_odd_by) (defScope s_law_odd_by) .none kV117 dc117 pm117 an117 cd117 ct117), sl117⟩)
  (c117 : PySem.W.codeIn K cd117 "_law_odd_by" = true)
  (k117 : PySem.W.keepIn K (.ref f117) = true)
  (a118 : PySem.W.nsIn K mainGlobals "_law_door" = some (some (.ref f118)))
  (l118 : K.lookup f118 = some ⟨oc118, od118, .func (PySem.W.fnOf "_law_door" "_law_door" (defArgs s_law_door) (defBody s_law_door) (defScope s_law_door) .none kV118 dc118 pm118 an118 cd118 ct118), sl118⟩)
  (c118 : PySem.W.codeIn K cd118 "_law_door" = true)
  (k118 : PySem.W.keepIn K (.ref f118) = true)
  (a119 : PySem.W.nsIn K mainGlobals "_law_refused" = some (some (.ref f119)))
  (l119 : K.lookup f119 = some ⟨oc119, od119, .func (PySem.W.fnOf "_law_refused" "_law_refused" (defArgs s_law_refused) (defBody s_law_refused) (defScope s_law_refused) .none kV119 dc119 pm119 an119 cd119 ct119), sl119⟩)
  (c119 : PySem.W.codeIn K cd119 "_law_refused" = true)
  (k119 : PySem.W.keepIn K (.ref f119) = true)
  (a120 : PySem.W.nsIn K mainGlobals "law" = some (some (.ref f120)))
  (l120 : K.lookup f120 = some ⟨oc120, od120, .func (PySem.W.fnOf "law" "law" (defArgs s_law) (defBody s_law) (defScope s_law) .none kV120 dc120 pm120 an120 cd120 ct120), sl120⟩)
  (c120 : PySem.W.codeIn K cd120 "law" = true)
  (k120 : PySem.W.keepIn K (.ref f120) = true)
  (z_isinstance : PySem.W.nsIn K mainGlobals "isinstance" = some none)
  (z_int : PySem.W.nsIn K mainGlobals "int" = some none)
  (z_bool : PySem.W.nsIn K mainGlobals "bool" = some none)
  (z_abs : PySem.W.nsIn K mainGlobals "abs" = some none)
  (z_tuple : PySem.W.nsIn K mainGlobals "tuple" = some none)
  (z_len : PySem.W.nsIn K mainGlobals "len" = some none)
  (z_list : PySem.W.nsIn K mainGlobals "list" = some none)
  (z_range : PySem.W.nsIn K mainGlobals "range" = some none)
  (z_str : PySem.W.nsIn K mainGlobals "str" = some none)
  (z_all : PySem.W.nsIn K mainGlobals "all" = some none)
  (z_zip : PySem.W.nsIn K mainGlobals "zip" = some none)
  (z_ValueError : PySem.W.nsIn K mainGlobals "ValueError" = some none)
  : ∃ fd : FuncData, (∀ (s : Shared) (v : Value), BindsTo s fd ⟨[v], []⟩ [("_law_script", v)]) ∧ ∀ base : Heap, K.In base → base.Ns mainGlobals mg → FnOk l.prog w K mg base CX0 14 fa fd ["_law_script"] (sp_law K) := by
 have e := hfa.symm.trans (PySem.W.mg_of X G a120)
 cases e
 have n_ValueError := PySem.W.mg_none_of X G z_ValueError
 have n_zip := PySem.W.mg_none_of X G z_zip
 have n_all := PySem.W.mg_none_of X G z_all
 have n_str := PySem.W.mg_none_of X G z_str
 have n_range := PySem.W.mg_none_of X G z_range
 have n_list := PySem.W.mg_none_of X G z_list
 have n_len := PySem.W.mg_none_of X G z_len
 have n_tuple := PySem.W.mg_none_of X G z_tuple
 have n_abs := PySem.W.mg_none_of X G z_abs
 have n_bool := PySem.W.mg_none_of X G z_bool
 have n_int := PySem.W.mg_none_of X G z_int
 have n_isinstance := PySem.W.mg_none_of X G z_isinstance
 have U0 := fun_mk (st := s_is_whole) l0 c0 k0
 have b0 := U0.binds (ps := ["thing"]) fun _ _ _ _ _ _ us hl => len1 (Pr := fun us => bindArgs _ ⟨us, []⟩ = pure (List.zip _ us)) us hl fun _ => rfl
 have U1 := fun_mk (st := s_greatest_divisor) l1 c1 k1
 have b1 := U1.binds (ps := ["one", "other"]) fun _ _ _ _ _ _ us hl => len2 (Pr := fun us => bindArgs _ ⟨us, []⟩ = pure (List.zip _ us)) us hl fun _ _ => rfl
 have U2 := fun_mk (st := s_is_ratio) l2 c2 k2
 have b2 := U2.binds (ps := ["thing"]) fun _ _ _ _ _ _ us hl => len1 (Pr := fun us => bindArgs _ ⟨us, []⟩ = pure (List.zip _ us)) us hl fun _ => rfl
 have U3 := fun_mk (st := s_is_price) l3 c3 k3
 have b3 := U3.binds (ps := ["thing"]) fun _ _ _ _ _ _ us hl => len1 (Pr := fun us => bindArgs _ ⟨us, []⟩ = pure (List.zip _ us)) us hl fun _ => rfl
 have U4 := fun_mk (st := s_is_road) l4 c4 k4
 have b4 := U4.binds (ps := ["thing", "many"]) fun _ _ _ _ _ _ us hl => len2 (Pr := fun us => bindArgs _ ⟨us, []⟩ = pure (List.zip _ us)) us hl fun _ _ => rfl
 have g_MOST_ROADS := PySem.W.mg_of X G a_MOST_ROADS
 have m_ShareError := PySem.W.mg_of X G a_ShareError
 have m_NoFraction := PySem.W.mg_of X G a_NoFraction
 have m_NoPrice := PySem.W.mg_of X G a_NoPrice
 have m_NoTree := PySem.W.mg_of X G a_NoTree
 have m_NoText := PySem.W.mg_of X G a_NoText
 have xk : ExcK K cNX := ⟨by rw [x0]; rfl, x1, x2, x3, x4, x5, x6, x7⟩
 have ec : ErrC K cNX := ec0
 have et : ErrC K cNT := et0
 have m_DEEDS := PySem.W.mg_of X G a_DEEDS
 have m_ASKED := PySem.W.mg_of X G a_ASKED
 have m_LONG_ASKED := PySem.W.mg_of X G a_LONG_ASKED
 have dt : DeskT l.prog w K cDEEDS cASKED cLONG := desk_mk gd sd ga sa gl sl hh_dh0 hh_dh1 hh_dh2 hh_dh3 hh_dh4 hh_dh5 hh_dh6 hh_ah0 hh_ah1 hh_ah2 hh_ah3 hh_ah4 hh_ah5 hh_lh0 hh_lh1 (gt2 tlD0) (gt1 tlD1) (gt2 tlD2) (gt2 tlD3) (gt2 tlD4) (gt2 tlD5) (gt0 tlD6) (gt0 tlA0) (gt0 tlA1) (gt0 tlA2) (gt0 tlA3) (gt0 tlA4) (gt0 tlA5)
 have U81 := fund_mk (st := s_look_roads) l81 c81 k81
 have b81 : Binds K (PySem.W.fnOf "look_roads" "look_roads" (defArgs s_look_roads) (defBody s_look_roads) (defScope s_look_roads) .none kV81 dc81 pm81 an81 cd81 ct81) ["thing"] [] := Binds.all fun us hl => len1 (Pr := fun us => bindArgs _ ⟨us, []⟩ = pure (List.zip _ us)) us hl fun _ => rfl
 have U82 := fund_mk (st := s_way_from) l82 c82 k82
 have b82 : Binds K (PySem.W.fnOf "way_from" "way_from" (defArgs s_way_from) (defBody s_way_from) (defScope s_way_from) .none kV82 dc82 pm82 an82 cd82 ct82) ["roads", "k"] [] := Binds.all fun us hl => len2 (Pr := fun us => bindArgs _ ⟨us, []⟩ = pure (List.zip _ us)) us hl fun _ _ => rfl
 have m_Tree := PySem.W.mg_of X G a_Tree
 have cls_Tree : Cls K cTree := ⟨pg_Tree, hd_Tree, po_Tree, sa_Tree⟩
 have U84 := fund_mk (st := s_Tree___init__) l84 c84 k84
 have b84 : Binds K (PySem.W.fnOf "__init__" "Tree.__init__" (defArgs s_Tree___init__) (defBody s_Tree___init__) (defScope s_Tree___init__) .none kV84 dc84 pm84 an84 cd84 ct84) ["self", "roads"] [] := Binds.all fun us hl => len2 (Pr := fun us => bindArgs _ ⟨us, []⟩ = pure (List.zip _ us)) us hl fun _ _ => rfl
 have U92 := fun_mk (st := s_Tree_roads) l92 c92 k92
 have b92 : Binds K (PySem.W.fnOf "roads" "Tree.roads" (defArgs s_Tree_roads) (defBody s_Tree_roads) (defScope s_Tree_roads) .none kV92 dc92 pm92 an92 cd92 ct92) ["self"] [] := Binds.all fun us hl => len1 (Pr := fun us => bindArgs _ ⟨us, []⟩ = pure (List.zip _ us)) us hl fun _ => rfl
 have g_MOST_FIGURES := PySem.W.mg_of X G a_MOST_FIGURES
 have g_FIGURES := PySem.W.mg_of X G a_FIGURES
 have U95 := fun_mk (st := s_show_ratio) l95 c95 k95
 have b95 := U95.binds (ps := ["one"]) fun _ _ _ _ _ _ us hl => len1 (Pr := fun us => bindArgs _ ⟨us, []⟩ = pure (List.zip _ us)) us hl fun _ => rfl
 have U96 := fun_mk (st := s_show_road) l96 c96 k96
 have b96 := U96.binds (ps := ["road"]) fun _ _ _ _ _ _ us hl => len1 (Pr := fun us => bindArgs _ ⟨us, []⟩ = pure (List.zip _ us)) us hl fun _ => rfl
 have U97 := fun_mk (st := s_show_tree) l97 c97 k97
 have b97 := U97.binds (ps := ["tree"]) fun _ _ _ _ _ _ us hl => len1 (Pr := fun us => bindArgs _ ⟨us, []⟩ = pure (List.zip _ us)) us hl fun _ => rfl
 have U98 := fund_mk (st := s_look_text) l98 c98 k98
 have b98 : Binds K (PySem.W.fnOf "look_text" "look_text" (defArgs s_look_text) (defBody s_look_text) (defScope s_look_text) .none kV98 dc98 pm98 an98 cd98 ct98) ["thing"] [] := Binds.all fun us hl => len1 (Pr := fun us => bindArgs _ ⟨us, []⟩ = pure (List.zip _ us)) us hl fun _ => rfl
 have U99 := fund_mk (st := s_read_whole) l99 c99 k99
 have b99 : Binds K (PySem.W.fnOf "read_whole" "read_whole" (defArgs s_read_whole) (defBody s_read_whole) (defScope s_read_whole) .none kV99 dc99 pm99 an99 cd99 ct99) ["text"] [] := Binds.all fun us hl => len1 (Pr := fun us => bindArgs _ ⟨us, []⟩ = pure (List.zip _ us)) us hl fun _ => rfl
 have U100 := fund_mk (st := s_read_ratio) l100 c100 k100
 have b100 : Binds K (PySem.W.fnOf "read_ratio" "read_ratio" (defArgs s_read_ratio) (defBody s_read_ratio) (defScope s_read_ratio) .none kV100 dc100 pm100 an100 cd100 ct100) ["text"] [] := Binds.all fun us hl => len1 (Pr := fun us => bindArgs _ ⟨us, []⟩ = pure (List.zip _ us)) us hl fun _ => rfl
 have U101 := fund_mk (st := s_read_road) l101 c101 k101
 have b101 : Binds K (PySem.W.fnOf "read_road" "read_road" (defArgs s_read_road) (defBody s_read_road) (defScope s_read_road) .none kV101 dc101 pm101 an101 cd101 ct101) ["row"] [] := Binds.all fun us hl => len1 (Pr := fun us => bindArgs _ ⟨us, []⟩ = pure (List.zip _ us)) us hl fun _ => rfl
 have U102 := fund_mk (st := s_read_tree) l102 c102 k102
 have b102 : Binds K (PySem.W.fnOf "read_tree" "read_tree" (defArgs s_read_tree) (defBody s_read_tree) (defScope s_read_tree) .none kV102 dc102 pm102 an102 cd102 ct102) ["text"] [] := Binds.all fun us hl => len1 (Pr := fun us => bindArgs _ ⟨us, []⟩ = pure (List.zip _ us)) us hl fun _ => rfl
 have m_Shire := PySem.W.mg_of X G a_Shire
 have cls_Shire : Cls K cShire := ⟨pg_Shire, hd_Shire, po_Shire, sa_Shire⟩
 have U104 := fun_mk (st := s_Shire___init__) l104 c104 k104
 have b104 : Binds K (PySem.W.fnOf "__init__" "Shire.__init__" (defArgs s_Shire___init__) (defBody s_Shire___init__) (defScope s_Shire___init__) .none kV104 dc104 pm104 an104 cd104 ct104) ["self", "tree"] [] := Binds.all fun us hl => len2 (Pr := fun us => bindArgs _ ⟨us, []⟩ = pure (List.zip _ us)) us hl fun _ _ => rfl
 have U105 := fun_mk (st := s_Shire_tree) l105 c105 k105
 have b105 : Binds K (PySem.W.fnOf "tree" "Shire.tree" (defArgs s_Shire_tree) (defBody s_Shire_tree) (defScope s_Shire_tree) .none kV105 dc105 pm105 an105 cd105 ct105) ["self"] [] := Binds.all fun us hl => len1 (Pr := fun us => bindArgs _ ⟨us, []⟩ = pure (List.zip _ us)) us hl fun _ => rfl
 have m_Desk := PySem.W.mg_of X G a_Desk
 have cls_Desk : Cls K cDesk := ⟨pg_Desk, hd_Desk, po_Desk, sa_Desk⟩
 have U107 := fund_mk (st := s_Desk___init__) l107 c107 k107
 have b107 : Binds K (PySem.W.fnOf "__init__" "Desk.__init__" (defArgs s_Desk___init__) (defBody s_Desk___init__) (defScope s_Desk___init__) .none kV107 dc107 pm107 an107 cd107 ct107) ["self", "text"] [] := Binds.all fun us hl => len2 (Pr := fun us => bindArgs _ ⟨us, []⟩ = pure (List.zip _ us)) us hl fun _ _ => rfl
 have U109 := fund_mk (st := s_kinds_behind) l109 c109 k109
 have b109 : Binds K (PySem.W.fnOf "kinds_behind" "kinds_behind" (defArgs s_kinds_behind) (defBody s_kinds_behind) (defScope s_kinds_behind) .none kV109 dc109 pm109 an109 cd109 ct109) ["first", "many"] [] := Binds.all fun us hl => len2 (Pr := fun us => bindArgs _ ⟨us, []⟩ = pure (List.zip _ us)) us hl fun _ _ => rfl
 have U110 := fund_mk (st := s_read_word) l110 c110 k110
 have b110 : Binds K (PySem.W.fnOf "read_word" "read_word" (defArgs s_read_word) (defBody s_read_word) (defScope s_read_word) .none kV110 dc110 pm110 an110 cd110 ct110) ["kind", "word"] [] := Binds.all fun us hl => len2 (Pr := fun us => bindArgs _ ⟨us, []⟩ = pure (List.zip _ us)) us hl fun _ _ => rfl
 have U111 := fund_mk (st := s_read_row) l111 c111 k111
 have b111 : Binds K (PySem.W.fnOf "read_row" "read_row" (defArgs s_read_row) (defBody s_read_row) (defScope s_read_row) .none kV111 dc111 pm111 an111 cd111 ct111) ["row"] [] := Binds.all fun us hl => len1 (Pr := fun us => bindArgs _ ⟨us, []⟩ = pure (List.zip _ us)) us hl fun _ => rfl
 have U112 := fun_mk (st := s_told) l112 c112 k112
 have b112 := U112.binds (ps := ["shire", "first", "words"]) fun _ _ _ _ _ _ us hl => len3 (Pr := fun us => bindArgs _ ⟨us, []⟩ = pure (List.zip _ us)) us hl fun _ _ _ => rfl
 have U113 := fund_mk (st := s_Desk_say) l113 c113 k113
 have b113 : Binds K (PySem.W.fnOf "say" "Desk.say" (defArgs s_Desk_say) (defBody s_Desk_say) (defScope s_Desk_say) .none kV113 dc113 pm113 an113 cd113 ct113) ["self", "row"] [] := Binds.all fun us hl => len2 (Pr := fun us => bindArgs _ ⟨us, []⟩ = pure (List.zip _ us)) us hl fun _ _ => rfl
 have U114 := fun_mk (st := s_law_cell_at) l114 c114 k114
 have b114 := U114.binds (ps := ["_law_script", "_law_k"]) fun _ _ _ _ _ _ us hl => len2 (Pr := fun us => bindArgs _ ⟨us, []⟩ = pure (List.zip _ us)) us hl fun _ _ => rfl
 have U115 := fun_mk (st := s_law_divisor) l115 c115 k115
 have b115 := U115.binds (ps := ["_law_one", "_law_other"]) fun _ _ _ _ _ _ us hl => len2 (Pr := fun us => bindArgs _ ⟨us, []⟩ = pure (List.zip _ us)) us hl fun _ _ => rfl
 have U116 := fun_mk (st := s_law_low) l116 c116 k116
 have b116 := U116.binds (ps := ["_law_top", "_law_bottom"]) fun _ _ _ _ _ _ us hl => len2 (Pr := fun us => bindArgs _ ⟨us, []⟩ = pure (List.zip _ us)) us hl fun _ _ => rfl
 have U117 := fun_mk (st := s_law_odd_by) l117 c117 k117
 have b117 := U117.binds (ps := ["_law_cell"]) fun _ _ _ _ _ _ us hl => len1 (Pr := fun us => bindArgs _ ⟨us, []⟩ = pure (List.zip _ us)) us hl fun _ => rfl
 have U118 := fund_mk (st := s_law_door) l118 c118 k118
 have b118 : Binds K (PySem.W.fnOf "_law_door" "_law_door" (defArgs s_law_door) (defBody s_law_door) (defScope s_law_door) .none kV118 dc118 pm118 an118 cd118 ct118) ["_law_desk", "_law_door_here", "_law_thing", "_law_word"] [] := Binds.all fun us hl => len4 (Pr := fun us => bindArgs _ ⟨us, []⟩ = pure (List.zip _ us)) us hl fun _ _ _ _ => rfl
 have U119 := fun_mk (st := s_law_refused) l119 c119 k119
 have b119 := U119.binds (ps := ["_law_desk", "_law_door_here", "_law_thing", "_law_word"]) fun _ _ _ _ _ _ us hl => len4 (Pr := fun us => bindArgs _ ⟨us, []⟩ = pure (List.zip _ us)) us hl fun _ _ _ _ => rfl
 have U120 := fun_mk (st := s_law) l120 c120 k120
 refine ⟨PySem.W.fnOf "law" "law" (defArgs s_law) (defBody s_law) (defScope s_law) .none kV120 dc120 pm120 an120 cd120 ct120, fun s v => .of_eq rfl, fun base _ _ => ?_⟩
 have F_is_whole := fn_mk X G a0 k0 b0 (My.ok_is_whole (P := l.prog) (w := w) (base := base) U0 n_isinstance n_int n_bool)
 have F_greatest_divisor := fn_mk X G a1 k1 b1 (My.ok_gcd (P := l.prog) (w := w) (base := base) U1 n_abs)
 have F_is_ratio := fn_mk X G a2 k2 b2 (My.ok_is_ratio (P := l.prog) (w := w) (base := base) U2 n_isinstance n_tuple n_len F_is_whole F_greatest_divisor)
 have F_is_price := fn_mk X G a3 k3 b3 (My.ok_is_price (P := l.prog) (w := w) (base := base) U3 F_is_ratio)
 have F_is_road := fn_mk X G a4 k4 b4 (My.ok_is_road (P := l.prog) (w := w) (base := base) U4 n_isinstance n_tuple n_len F_is_whole F_is_price)
 have O_look_roads := My.ok_lookX (P := l.prog) (w := w) (base := base) U81 n_isinstance n_list n_len g_MOST_ROADS m_NoTree et F_is_road
 have F_look_roads : Fn l.prog w K mg base (CX1 l.prog w) _ "look_roads" ["thing"] _ := ⟨f81, _, O_look_roads, b81, k81, PySem.W.mg_of X G a81⟩
 have F_look_roads0 : Fn l.prog w K mg base CX0 _ "look_roads" ["thing"] _ := ⟨f81, _, noerr O_look_roads, b81, k81, PySem.W.mg_of X G a81⟩
 have O_way_from := My.ok_wayX (P := l.prog) (w := w) (base := base) U82 n_len m_NoTree et
 have F_way_from : Fn l.prog w K mg base (CX1 l.prog w) _ "way_from" ["roads", "k"] _ := ⟨f82, _, O_way_from, b82, k82, PySem.W.mg_of X G a82⟩
 have F_way_from0 : Fn l.prog w K mg base CX0 _ "way_from" ["roads", "k"] _ := ⟨f82, _, noerr O_way_from, b82, k82, PySem.W.mg_of X G a82⟩
 have O_Tree___init__ := My.ok_initX (P := l.prog) (w := w) (base := base) U84 n_list n_len n_range cls_Tree nf_lanes nf_ways F_look_roads F_way_from
 have K_Tree : Mkr l.prog w K mg base (CX1 l.prog w) _ cTree "Tree" ["self", "roads"] _ := ⟨f84, _, O_Tree___init__, b84, ⟨mk84, a84, i84, kc84⟩, m_Tree⟩
 have O_look0 := (noerr O_look_roads).imp (sp' := sp_look) fun vs H Q E h => look0 h
 have F_look0 : Fn l.prog w K mg base CX0 _ "look_roads" ["thing"] _ := ⟨_, _, O_look0, b81, k81, PySem.W.mg_of X G a81⟩
 have O_wayf0 := (noerr O_way_from).imp (sp' := sp_wayf) fun vs H Q E h => wayf0 h
 have F_wayf0 : Fn l.prog w K mg base CX0 _ "way_from" ["roads", "k"] _ := ⟨_, _, O_wayf0, b82, k82, PySem.W.mg_of X G a82⟩
 have Ug := fun_mk (st := s_Tree___init__) l84 c84 k84
 have O_init0 := My.ok_init (P := l.prog) (w := w) (base := base) Ug n_list n_len n_range cls_Tree nf_lanes nf_ways F_look0 F_wayf0
 have K_Tree0 : Mkr l.prog w K mg base CX0 _ cTree "Tree" ["self", "roads"] _ := ⟨f84, _, O_init0, b84, ⟨mk84, a84, i84, kc84⟩, m_Tree⟩
 have O_Tree_roads := My.ok_roadsM (P := l.prog) (w := w) (base := base) U92 n_list cls_Tree nf_lanes
 have M_roads : Mth l.prog w K mg base CX0 _ cTree "roads" ["self"] _ := ⟨f92, _, O_Tree_roads, b92, ⟨a92, i92, k92⟩, cls_Tree⟩
 have F_show_ratio := fn_mk X G a95 k95 b95 (My.ok_showR (P := l.prog) (w := w) (base := base) U95 )
 have F_show_road := fn_mk X G a96 k96 b96 (My.ok_showRoad (P := l.prog) (w := w) (base := base) U96 F_show_ratio)
 have F_show_tree := fn_mk X G a97 k97 b97 (My.ok_showTree (P := l.prog) (w := w) (base := base) U97 F_show_road M_roads)
 have O_look_text := My.ok_lookTX (P := l.prog) (w := w) (base := base) U98 n_isinstance n_str m_NoText ec
 have F_look_text : Fn l.prog w K mg base (CX1 l.prog w) _ "look_text" ["thing"] _ := ⟨f98, _, O_look_text, b98, k98, PySem.W.mg_of X G a98⟩
 have F_look_text0 : Fn l.prog w K mg base CX0 _ "look_text" ["thing"] _ := ⟨f98, _, noerr O_look_text, b98, k98, PySem.W.mg_of X G a98⟩
 have O_read_whole := My.ok_readWX (P := l.prog) (w := w) (base := base) U99 n_len n_all n_int g_MOST_FIGURES g_FIGURES m_NoText ec
 have F_read_whole : Fn l.prog w K mg base (CX1 l.prog w) _ "read_whole" ["text"] _ := ⟨f99, _, O_read_whole, b99, k99, PySem.W.mg_of X G a99⟩
 have F_read_whole0 : Fn l.prog w K mg base CX0 _ "read_whole" ["text"] _ := ⟨f99, _, noerr O_read_whole, b99, k99, PySem.W.mg_of X G a99⟩
 have O_read_ratio := My.ok_readRX (P := l.prog) (w := w) (base := base) U100 n_len m_NoText ec F_look_text F_read_whole F_is_ratio F_show_ratio
 have F_read_ratio : Fn l.prog w K mg base (CX1 l.prog w) _ "read_ratio" ["text"] _ := ⟨f100, _, O_read_ratio, b100, k100, PySem.W.mg_of X G a100⟩
 have F_read_ratio0 : Fn l.prog w K mg base CX0 _ "read_ratio" ["text"] _ := ⟨f100, _, noerr O_read_ratio, b100, k100, PySem.W.mg_of X G a100⟩
 have O_read_road := My.ok_readRoadX (P := l.prog) (w := w) (base := base) U101 n_len m_NoText ec F_read_whole F_read_ratio
 have F_read_road : Fn l.prog w K mg base (CX1 l.prog w) _ "read_road" ["row"] _ := ⟨f101, _, O_read_road, b101, k101, PySem.W.mg_of X G a101⟩
 have F_read_road0 : Fn l.prog w K mg base CX0 _ "read_road" ["row"] _ := ⟨f101, _, noerr O_read_road, b101, k101, PySem.W.mg_of X G a101⟩
 have O_read_tree := My.ok_readTreeX (P := l.prog) (w := w) (base := base) U102 F_look_text F_read_road K_Tree0
 have F_read_tree : Fn l.prog w K mg base (CX1 l.prog w) _ "read_tree" ["text"] _ := ⟨f102, _, O_read_tree, b102, k102, PySem.W.mg_of X G a102⟩
 have F_read_tree0 : Fn l.prog w K mg base CX0 _ "read_tree" ["text"] _ := ⟨f102, _, noerr O_read_tree, b102, k102, PySem.W.mg_of X G a102⟩
 have O_Shire___init__ := My.ok_initS (P := l.prog) (w := w) (base := base) U104 (mg := mg) cls_Shire nf_land nf_places nf_past
 have K_Shire : Mkr l.prog w K mg base CX0 _ cShire "Shire" ["self", "tree"] _ := ⟨f104, _, O_Shire___init__, b104, ⟨mk104, a104, i104, kc104⟩, m_Shire⟩
 have O_Shire_tree := My.ok_treeS (P := l.prog) (w := w) (base := base) U105 (mg := mg) (CT := cTree) cls_Shire nf_land
 have M_tree : Mth l.prog w K mg base CX0 _ cShire "tree" ["self"] _ := ⟨f105, _, O_Shire_tree, b105, ⟨a105, i105, k105⟩, cls_Shire⟩
 have O_Desk___init__ := My.ok_deskX (P := l.prog) (w := w) (base := base) U107 cls_Desk nf_shire F_read_tree K_Shire
 have K_Desk : Mkr l.prog w K mg base (CX1 l.prog w) _ cDesk "Desk" ["self", "text"] _ := ⟨f107, _, O_Desk___init__, b107, ⟨mk107, a107, i107, kc107⟩, m_Desk⟩
 have K_Desk0 : Mkr l.prog w K mg base CX0 _ cDesk "Desk" ["self", "text"] _ := ⟨f107, _, noerr O_Desk___init__, b107, ⟨mk107, a107, i107, kc107⟩, m_Desk⟩
 have O_kinds_behind := My.ok_kinds (P := l.prog) (w := w) (base := base) U109 n_len n_list m_NoText ec m_DEEDS m_ASKED m_LONG_ASKED dt
 have F_kinds_behind : Fn l.prog w K mg base (CX1 l.prog w) _ "kinds_behind" ["first", "many"] _ := ⟨f109, _, O_kinds_behind, b109, k109, PySem.W.mg_of X G a109⟩
 have F_kinds_behind0 : Fn l.prog w K mg base CX0 _ "kinds_behind" ["first", "many"] _ := ⟨f109, _, noerr O_kinds_behind, b109, k109, PySem.W.mg_of X G a109⟩
 have O_read_word := My.ok_readWord (P := l.prog) (w := w) (base := base) U110 F_read_whole F_read_ratio
 have F_read_word : Fn l.prog w K mg base (CX1 l.prog w) _ "read_word" ["kind", "word"] _ := ⟨f110, _, O_read_word, b110, k110, PySem.W.mg_of X G a110⟩
 have F_read_word0 : Fn l.prog w K mg base CX0 _ "read_word" ["kind", "word"] _ := ⟨f110, _, noerr O_read_word, b110, k110, PySem.W.mg_of X G a110⟩
 have O_read_row := My.ok_readRow (P := l.prog) (w := w) (base := base) U111 n_len n_zip F_look_text F_kinds_behind F_read_word
 have F_read_row : Fn l.prog w K mg base (CX1 l.prog w) _ "read_row" ["row"] _ := ⟨f111, _, O_read_row, b111, k111, PySem.W.mg_of X G a111⟩
 have F_read_row0 : Fn l.prog w K mg base CX0 _ "read_row" ["row"] _ := ⟨f111, _, noerr O_read_row, b111, k111, PySem.W.mg_of X G a111⟩
 have F_told := fn_mk X G a112 k112 b112 (My.ok_told (P := l.prog) (w := w) (base := base) U112 F_show_tree M_tree)
 have O_Desk_say := My.ok_say (P := l.prog) (w := w) (base := base) U113 m_DEEDS dt cls_Desk nf_shire F_read_row F_told
 have M_say0 : Mth l.prog w K mg base CX0 _ cDesk "say" ["self", "row"] _ := ⟨f113, _, noerr O_Desk_say, b113, ⟨a113, i113, k113⟩, cls_Desk⟩
 have M_say : Mth l.prog w K mg base (CX1 l.prog w) _ cDesk "say" ["self", "row"] _ := ⟨f113, _, O_Desk_say, b113, ⟨a113, i113, k113⟩, cls_Desk⟩
 have F_law_cell_at := fn_mk X G a114 k114 b114 (My.ok_cell (P := l.prog) (w := w) (base := base) U114 n_len)
 have F_law_divisor := fn_mk X G a115 k115 b115 (My.ok_divisor (P := l.prog) (w := w) (base := base) U115 n_abs)
 have F_law_low := fn_mk X G a116 k116 b116 (My.ok_lowQ (P := l.prog) (w := w) (base := base) U116 F_law_divisor)
 have F_law_odd_by := fn_mk X G a117 k117 b117 (My.ok_oddBy (P := l.prog) (w := w) (base := base) U117 n_str n_len F_law_low)
 have O_law_door := My.ok_door (P := l.prog) (w := w) (base := base) U118 F_read_ratio F_read_tree K_Desk M_say
 have F_law_door : Fn l.prog w K mg base (CX1 l.prog w) _ "_law_door" ["_law_desk", "_law_door_here", "_law_thing", "_law_word"] _ := ⟨f118, _, O_law_door, b118, k118, PySem.W.mg_of X G a118⟩
 have F_law_door0 : Fn l.prog w K mg base CX0 _ "_law_door" ["_law_desk", "_law_door_here", "_law_thing", "_law_word"] _ := ⟨f118, _, noerr O_law_door, b118, k118, PySem.W.mg_of X G a118⟩
 have F_law_refused := fn_mk X G a119 k119 b119 (My.ok_refused (P := l.prog) (w := w) (base := base) U119 n_isinstance n_ValueError m_ShareError m_NoFraction m_NoPrice m_NoTree m_NoText xk e1 e2 e3 e4 F_law_door)
 exact My.ok_law (P := l.prog) (w := w) (base := base) U120 n_abs n_range F_law_cell_at F_law_odd_by F_law_refused K_Desk0 M_say0 F_read_ratio0 F_read_tree0 M_roads
end My
namespace PySem.W.Fast
def tw3134598739799128004 := ()
def tw11115034382193580758 := ()
def tw10240672527740339112 := ()
def tw5386394469829142203 := ()
def tw6094101265504598027 := ()
def tw11568748923428097741 := ()
def tw18409367766347677649 := ()
def tw2685811928903130382 := ()
def tw2529983431903580458 := ()
def tw1344764802029721979 := ()
def tw8070168148382472310 := ()
def tw9726838531675656271 := ()
def tw16870210810214157 := ()
def tw14363711797077515424 := ()
def tw4719132736023765889 := ()
def tw16734498756182857935 := ()
def tw1804311022473177765 := ()
def tw7703658469045837577 := ()
def tw2977316417282743845 := ()
def tw7131297955021423132 := ()
def tw10879470687856739315 := ()
def tw5845557290188463799 := ()
def tw9362331759147867855 := ()
def tw14239660777355759287 := ()
def tw16405014956705625324 := ()
def tw7929710636900775126 := ()
def tw10420751504616217692 := ()
def tw12690893045589041259 := ()
def tw926395974753464546 := ()
def tw5071874262136641930 := ()
def tw8356620790317290018 := ()
def tw6569429464394317091 := ()
def tw10080071855567728438 := ()
def tw12385567295100150725 := ()
def tw441034676041737753 := ()
def tw16701483251895532581 := ()
def tw15167492108494166582 := ()
def tw1440272650520586796 := ()
def tw5841461338256044907 := ()
def tw1481871877190541311 := ()
def tw7593144635656284024 := ()
def tw222080850117035330 := ()
def tw1870019083208045392 := ()
def tw9907493716921527998 := ()
def tw137976206196963225 := ()
def tw13122251208678713441 := ()
def tw11877675855331258664 := ()
def tw3276342351777768639 := ()
def tw13023605182664688986 := ()
def tw17395066299940907265 := ()
def tw2042696791543518181 := ()
def tw13674592604818072325 := ()
def tw11139804774161180758 := ()
def tw4282118295545320274 := ()
def tw2723037632475129602 := ()
def tw5663548382239742389 := ()
def tw17643377409450335850 := ()
def tw8470558323719907985 := ()
def tw16089518786642355391 := ()
def tw11798800634684239142 := ()
def tw15496852248090427975 := ()
def tw13013835752173438518 := ()
def tw14979585446000174118 := ()
def tw4732432454614000403 := ()
def tw10016314530365173517 := ()
def tw2586045325435457854 := ()
def tw1390821621088531606 := ()
def tw17312282537684875478 := ()
def tw11688934917579064414 := ()
def tw784748339992956412 := ()
def tw618193340583434776 := ()
def tw3076446239755731187 := ()
def tw11749213003089982144 := ()
def tw13589383081707376601 := ()
def tw14857164282940586773 := ()
def tw16569018025848708614 := ()
def tw8254120888078194921 := ()
def tw3279826783152776020 := ()
def tw17201378449651851546 := ()
def tw1146277239325350492 := ()
def tw4699254583917540658 := ()
def tw9000295930454267181 := ()
def tw4313544490526752699 := ()
def tw2713108920919950127 := ()
def tw17653474947543282844 := ()
def tw17318770163992106391 := ()
def tw8028743276534499153 := ()
def tw224842666266172392 := ()
def tw2960773448693048580 := ()
def tw9782222594932175989 := ()
def tw3124502582984788338 := ()
def tw15131833239143970034 := ()
def tw6755139088996074356 := ()
def tw14356695725390443228 := ()
def tw1972134465097075600 := ()
def tw5371298982236030797 := ()
def tw15965754378413672550 := ()
def tw8385167114456581836 := ()
def tw13783389240831800059 := ()
def tw727915324899542817 := ()
def tw7666853248248113277 := ()
def tw13155086972144867438 := ()
def tw12857587291393506218 := ()
def tw10936209857019733542 := ()
def tw5796769577930407805 := ()
def tw3583452569340682682 := ()
def tw11264876340557773099 := ()
def tw12195819136669188854 := ()
def tw9848581279557337320 := ()
def tw14566464528315813951 := ()
def tw11293015472457026624 := ()
def tw11199749737195631149 := ()
def tw2674041062233564613 := ()
def tw16561973092843246340 := ()
def tw2668241537907793441 := ()
def tw7223282595081950496 := ()
def tw1449368266216811036 := ()
def tw3888758967784037594 := ()
def tw6204955388924454477 := ()
def tw2822234397665530722 := ()
def tw1990926283335604897 := ()
def tw15788817549280495812 := ()
def tw17191661719716674849 := ()
def tw10812193465548278642 := ()
def tw17731741797997244008 := ()
def tw905244203688765879 := ()
def tw11486733465838991049 := ()
def tw235370658789744065 := ()
def tw6869574326494477138 := ()
def tw2310996872735722417 := ()
def tw17352040952396529662 := ()
def tw2071891654690530850 := ()
def tw2339103825925578192 := ()
def tw5751938511195647341 := ()
def tw4940150643606477715 := ()
def tw4554630323754276603 := ()
def tw5642111399533240972 := ()
def tw17206159076518651588 := ()
def tw13614253761519185426 := ()
def tw16106382357622380514 := ()
def tw17737261041586926585 := ()
def tw13454343117623773281 := ()
def tw10034263088450437591 := ()
def tw7445085948387476843 := ()
def tw18343711325099567543 := ()
def tw4240350429771335492 := ()
def tw11360270338994612577 := ()
def tw444326891550882217 := ()
def tw3096468951250379556 := ()
def tw14000076998419410354 := ()
def tw15161401954800278149 := ()
def tw3810344860296302707 := ()
def tw14720322562525041623 := ()
def tw6556490190564757256 := ()
def tw14402106733357101536 := ()
def tw6386622930930635972 := ()
def tw11091428586435950424 := ()
def tw427246175901308098 := ()
def tw14876238153927536980 := ()
def tw4995917190560981477 := ()
def tw4221514754254106969 := ()
def tw17916060855783119360 := ()
def tw5840043446570333321 := ()
def tw5239392870615756662 := ()
def tw13004305208195700486 := ()
def tw8492890295521474419 := ()
def tw1923729826365510690 := ()
def tw4271112717425505915 := ()
def tw6042338468309627371 := ()
def tw16800276091526525416 := ()
def tw15347467266928119902 := ()
def tw16492362619789492758 := ()
def tw12370282957082991272 := ()
def tw18007689158853528010 := ()
def tw6326727172597008630 := ()
def tw4373899860990811684 := ()
def tw8695755130861758574 := ()
def tw4332475130561844144 := ()
def tw16995347034127250236 := ()
def tw1572873491708177481 := ()
def tw16112085831205980932 := ()
def tw9059473635954605346 := ()
def tw1669515466041773704 := ()
def tw4983403611019517953 := ()
def tw11090794495677965635 := ()
def tw6463250032722940241 := ()
def tw13755090880391627644 := ()
def tw7973313416193248768 := ()
def tw14157111645575778219 := ()
def tw14241352181071579585 := ()
def tw322947495940602696 := ()
def tw9524925306266458152 := ()
def tw4761604861670893271 := ()
def tw1568938249971373854 := ()
def tw5771324187485813783 := ()
def tw3118864204589930219 := ()
def tw5467464688577610831 := ()
def tw18067201139991330251 := ()
def tw5326556640194971961 := ()
def tw16671220402414019355 := ()
def tw12794415970708722537 := ()
def tw10964158542071557187 := ()
def tw11934050491333819469 := ()
def tw17140454004778778020 := ()
def tw16993940324176181915 := ()
def tw4451449292747526484 := ()
def tw14394847416870809141 := ()
def tw12123629722086522731 := ()
def tw10031631538200578207 := ()
def tw599349217631421138 := ()
def tw18014405343553226085 := ()
def tw2281734267260618425 := ()
def tw9697405636882357853 := ()
def tw5521397146438548474 := ()
def tw8999911679023852138 := ()
def tw2529418758252192632 := ()
def tw13905514969779672173 := ()
def tw1595972995197104736 := ()
def tw17705659994223042931 := ()
def tw9585759653765334201 := ()
def tw17503430533276745498 := ()
def tw15888868627190142144 := ()
def tw7685410118918488479 := ()
def tw11365728077356086127 := ()
def tw13414525010546756922 := ()
def tw6080454006798624306 := ()
def tw17679294677845000283 := ()
def tw1414813710386870913 := ()
def tw4581092459983567884 := ()
def tw2182312363006547552 := ()
def tw5413075524550774678 := ()
def tw2305501812986904 := ()
def tw2809448060423089979 := ()
def tw3703102680638548371 := ()
def tw8317206342020498653 := ()
end PySem.W.Fast
open PySem PySem.W PyProof.Rows
set_option maxRecDepth 100000 in
set_option maxHeartbeats 0 in
theorem PySem.Challenge.cw_roadshare_k82_no_fractions_holds : PySem.Challenge.rw_roadshare_k82_no_fractions.Holds := by
 w_on; o_law; k_head; (case hw => w_witness2)
 k_fill
 refine L2.walk_ofK (l := PySem.Challenge.rw_roadshare_k82_no_fractions) (n := 63) (k := 14) (x := "_law_script") (CX := L2.CX0) (sp := My.sp_law) rfl (by decide) rfl ⟨rfl, by decide, by decide⟩ (fun w h Y => PySem.W.km_in_of Y) ?F ?S ?C
 case S => exact fun K H a ns hl hO hS => ⟨a, ns, rfl, hS, fun _ => rfl⟩
 case C => exact fun _ _ _ _ z => z
 case F =>
  intro w mg fa h KX G hmg
  refine' My.all_mk KX G hmg ?a0 ?l0 ?c0 ?k0 ?a1 ?l1 ?c1 ?k1 ?a2 ?l2 ?c2 ?k2 ?a3 ?l3 ?c3 ?k3 ?a4 ?l4 ?c4 ?k4 ?a_MOST_ROADS ?a_ShareError ?a_NoFraction ?a_NoPrice ?a_NoTree ?a_NoText ?ec0 ?x0 ?x1 ?x2 ?x3 ?x4 ?x5 ?x6 ?x7 ?e1 ?e2 ?e3 ?e4 ?et0 ?a_DEEDS ?a_ASKED ?a_LONG_ASKED ?gd ?sd ?ga ?sa ?gl ?sl ?hh_dh0 ?hh_dh1 ?hh_dh2 ?hh_dh3 ?hh_dh4 ?hh_dh5 ?hh_dh6 ?hh_ah0 ?hh_ah1 ?hh_ah2 ?hh_ah3 ?hh_ah4 ?hh_ah5 ?hh_lh0 ?hh_lh1 ?tlD0 ?tlD1 ?tlD2 ?tlD3 ?tlD4 ?tlD5 ?tlD6 ?tlA0 ?tlA1 ?tlA2 ?tlA3 ?tlA4 ?tlA5 ?a81 ?l81 ?c81 ?k81 ?a82 ?l82 ?c82 ?k82 ?a_Tree ?pg_Tree ?hd_Tree ?po_Tree ?sa_Tree ?nf_lanes ?nf_ways ?a84 ?l84 ?c84 ?k84 ?i84 ?mk84 ?kc84 ?a92 ?l92 ?c92 ?k92 ?i92 ?a_MOST_FIGURES ?a_FIGURES ?a95 ?l95 ?c95 ?k95 ?a96 ?l96 ?c96 ?k96 ?a97 ?l97 ?c97 ?k97 ?a98 ?l98 ?c98 ?k98 ?a99 ?l99 ?c99 ?k99 ?a100 ?l100 ?c100 ?k100 ?a101 ?l101 ?c101 ?k101 ?a102 ?l102 ?c102 ?k102 ?a_Shire ?pg_Shire ?hd_Shire ?po_Shire ?sa_Shire ?nf_land ?nf_places ?nf_past ?a104 ?l104 ?c104 ?k104 ?i104 ?mk104 ?kc104 ?a105 ?l105 ?c105 ?k105 ?i105 ?a_Desk ?pg_Desk ?hd_Desk ?po_Desk ?sa_Desk ?nf_shire ?a107 ?l107 ?c107 ?k107 ?i107 ?mk107 ?kc107 ?a109 ?l109 ?c109 ?k109 ?a110 ?l110 ?c110 ?k110 ?a111 ?l111 ?c111 ?k111 ?a112 ?l112 ?c112 ?k112 ?a113 ?l113 ?c113 ?k113 ?i113 ?a114 ?l114 ?c114 ?k114 ?a115 ?l115 ?c115 ?k115 ?a116 ?l116 ?c116 ?k116 ?a117 ?l117 ?c117 ?k117 ?a118 ?l118 ?c118 ?k118 ?a119 ?l119 ?c119 ?k119 ?a120 ?l120 ?c120 ?k120 ?z_isinstance ?z_int ?z_bool ?z_abs ?z_tuple ?z_len ?z_list ?z_range ?z_str ?z_all ?z_zip ?z_ValueError
  (case a0 => k_is)
  (case l0 => k_is)
  (case c0 => k_is)
  (case k0 => k_is)
  (case a1 => k_is)
  (case l1 => k_is)
  (case c1 => k_is)
  (case k1 => k_is)
  (case a2 => k_is)
  (case l2 => k_is)
  (case c2 => k_is)
  (case k2 => k_is)
  (case a3 => k_is)
  (case l3 => k_is)
  (case c3 => k_is)
  (case k3 => k_is)
  (case a4 => k_is)
  (case l4 => k_is)
  (case c4 => k_is)
  (case k4 => k_is)
  (case a_MOST_ROADS => k_is)
  (case a_ShareError => k_is)
  (case a_NoFraction => k_is)
  (case a_NoPrice => k_is)
  (case a_NoTree => k_is)
  (case a_NoText => k_is)
  (case ec0 => k_exc)
  (case x0 => k_is)
  (case x1 => k_is)
  (case x2 => k_is)
  (case x3 => k_is)
  (case x4 => k_is)
  (case x5 => k_is)
  (case x6 => k_is)
  (case x7 => k_is)
  (case e1 => kts_exm)
  (case e2 => kit_is)
  (case e3 => kit_is)
  (case e4 => kit_is)
  (case et0 => k_exc)
  (case a_DEEDS => k_is)
  (case a_ASKED => k_is)
  (case a_LONG_ASKED => k_is)
  (case gd => k_is)
  (case sd => rfl)
  (case ga => k_is)
  (case sa => rfl)
  (case gl => k_is)
  (case sl => rfl)
  (case hh_dh0 => rfl)
  (case hh_dh1 => rfl)
  (case hh_dh2 => rfl)
  (case hh_dh3 => rfl)
  (case hh_dh4 => rfl)
  (case hh_dh5 => rfl)
  (case hh_dh6 => rfl)
  (case hh_ah0 => rfl)
  (case hh_ah1 => rfl)
  (case hh_ah2 => rfl)
  (case hh_ah3 => rfl)
  (case hh_ah4 => rfl)
  (case hh_ah5 => rfl)
  (case hh_lh0 => rfl)
  (case hh_lh1 => rfl)
  (case tlD0 => k_is)
  (case tlD1 => k_is)
  (case tlD2 => k_is)
  (case tlD3 => k_is)
  (case tlD4 => k_is)
  (case tlD5 => k_is)
  (case tlD6 => k_is)
  (case tlA0 => k_is)
  (case tlA1 => k_is)
  (case tlA2 => k_is)
  (case tlA3 => k_is)
  (case tlA4 => k_is)
  (case tlA5 => k_is)
  (case a81 => k_is)
  (case l81 => k_is)
  (case c81 => k_is)
  (case k81 => k_is)
  (case a82 => k_is)
  (case l82 => k_is)
  (case c82 => k_is)
  (case k82 => k_is)
  (case a_Tree => k_is)
  (case pg_Tree => k_is)
  (case hd_Tree => k_is)
  (case po_Tree => k_is)
  (case sa_Tree => k_is)
  (case nf_lanes => k_is)
  (case nf_ways => k_is)
  (case a84 => k_is)
  (case l84 => k_is)
  (case c84 => k_is)
  (case k84 => k_is)
  (case i84 => k_is)
  (case mk84 => k_is)
  (case kc84 => k_is)
  (case a92 => k_is)
  (case l92 => k_is)
  (case c92 => k_is)
  (case k92 => k_is)
  (case i92 => k_is)
  (case a_MOST_FIGURES => k_is)
  (case a_FIGURES => k_is)
  (case a95 => k_is)
  (case l95 => k_is)
  (case c95 => k_is)
  (case k95 => k_is)
  (case a96 => k_is)
  (case l96 => k_is)
  (case c96 => k_is)
  (case k96 => k_is)
  (case a97 => k_is)
  (case l97 => k_is)
  (case c97 => k_is)
  (case k97 => k_is)
  (case a98 => k_is)
  (case l98 => k_is)
  (case c98 => k_is)
  (case k98 => k_is)
  (case a99 => k_is)
  (case l99 => k_is)
  (case c99 => k_is)
  (case k99 => k_is)
  (case a100 => k_is)
  (case l100 => k_is)
  (case c100 => k_is)
  (case k100 => k_is)
  (case a101 => k_is)
  (case l101 => k_is)
  (case c101 => k_is)
  (case k101 => k_is)
  (case a102 => k_is)
  (case l102 => k_is)
  (case c102 => k_is)
  (case k102 => k_is)
  (case a_Shire => k_is)
  (case pg_Shire => k_is)
  (case hd_Shire => k_is)
  (case po_Shire => k_is)
  (case sa_Shire => k_is)
  (case nf_land => k_is)
  (case nf_places => k_is)
  (case nf_past => k_is)
  (case a104 => k_is)
  (case l104 => k_is)
  (case c104 => k_is)
  (case k104 => k_is)
  (case i104 => k_is)
  (case mk104 => k_is)
  (case kc104 => k_is)
  (case a105 => k_is)
  (case l105 => k_is)
  (case c105 => k_is)
  (case k105 => k_is)
  (case i105 => k_is)
  (case a_Desk => k_is)
  (case pg_Desk => k_is)
  (case hd_Desk => k_is)
  (case po_Desk => k_is)
  (case sa_Desk => k_is)
  (case nf_shire => k_is)
  (case a107 => k_is)
  (case l107 => k_is)
  (case c107 => k_is)
  (case k107 => k_is)
  (case i107 => k_is)
  (case mk107 => k_is)
  (case kc107 => k_is)
  (case a109 => k_is)
  (case l109 => k_is)
  (case c109 => k_is)
  (case k109 => k_is)
  (case a110 => k_is)
  (case l110 => k_is)
  (case c110 => k_is)
  (case k110 => k_is)
  (case a111 => k_is)
  (case l111 => k_is)
  (case c111 => k_is)
  (case k111 => k_is)
  (case a112 => k_is)
  (case l112 => k_is)
  (case c112 => k_is)
  (case k112 => k_is)
  (case a113 => k_is)
  (case l113 => k_is)
  (case c113 => k_is)
  (case k113 => k_is)
  (case i113 => k_is)
  (case a114 => k_is)
  (case l114 => k_is)
  (case c114 => k_is)
  (case k114 => k_is)
  (case a115 => k_is)
  (case l115 => k_is)
  (case c115 => k_is)
  (case k115 => k_is)
  (case a116 => k_is)
  (case l116 => k_is)
  (case c116 => k_is)
  (case k116 => k_is)
  (case a117 => k_is)
  (case l117 => k_is)
  (case c117 => k_is)
  (case k117 => k_is)
  (case a118 => k_is)
  (case l118 => k_is)
  (case c118 => k_is)
  (case k118 => k_is)
  (case a119 => k_is)
  (case l119 => k_is)
  (case c119 => k_is)
  (case k119 => k_is)
  (case a120 => k_is)
  (case l120 => k_is)
  (case c120 => k_is)
  (case k120 => k_is)
  (case z_isinstance => k_is)
  (case z_int => k_is)
  (case z_bool => k_is)
  (case z_abs => k_is)
  (case z_tuple => k_is)
  (case z_len => k_is)
  (case z_list => k_is)
  (case z_range => k_is)
  (case z_str => k_is)
  (case z_all => k_is)
  (case z_zip => k_is)
  (case z_ValueError => k_is)
#print axioms PySem.Challenge.cw_roadshare_k82_no_fractions_holds
