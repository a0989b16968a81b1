import PyProof.Rows.All
import Wide.All
import OpenK.AllK
import Wide.FinOn
import Lean
import PyProof.EqAt
import PyProof.EqKinds
import PyProof.TupleCall
import KE.KLam
import KE.KSortKey
import KE.KSortTup
import KE.KNestM
import PyProof.NeKinds
import PySem.Challenge.RW_roadshare_k32_good_ones_have_tables
open PySem.W (instObj methodObj lookIn plainGet hasDictIn handedIn plainGet_of isFn plainOver takerIn makesIn emptyDict keepIn kitOne kia_one kitx_list kitx_dict callWith_K methodCall_KW cellsFrom_some fnOf codeIn exmOne kdl_call kdl_dict KeqHits codeHdIn codeHd_of_K nsIn mg_of mg_none_of km_in_of)
abbrev Ya := @PySem.wpAny_bind
abbrev Yb := @PySem.wpAny_pure
abbrev Yc := @List.getElem?_eq_getElem
abbrev Yd := @Nat.le_refl
abbrev Ye := @PySem.Heap.lt_size
abbrev Yf := @PySem.Heap.get?_push_of_some
abbrev Yg := @List.getElem?_eq_some_iff
abbrev Yh := @List.getElem?_map
abbrev Yi := @List.length_map
abbrev Yj := @Nat.le_trans
abbrev Yk := @Nat.ne_of_lt
abbrev Yl := @List.mem_map
abbrev Ym := @PySem.Heap.get?_push_size
abbrev Yn := @List.mem_cons
abbrev Yo := @List.mem_of_getElem?
abbrev Yp := @List.take_add_one
abbrev Yq := @List.map_cons
abbrev Yr := @Nat.le_of_lt
abbrev Ys := @PySem.PassesOwn.never
abbrev Yt := @Nat.lt_of_lt_of_le
abbrev Yu := @PySem.wpAny_mono
abbrev Yv := @List.mem_append_right
abbrev Yw := @List.map_map
abbrev Yx := @List.mem_append
abbrev Yy := @Nat.lt_of_le_of_lt
abbrev Yz := @Bool.false_ne_true
abbrev YA := @List.mem_filter
abbrev YB := @Nat.zero_le
abbrev YC := @List.take_length
abbrev YD := @Option.map_eq_some_iff
abbrev YE := @List.size_toArray
abbrev YF := @Array.getElem?_toList
abbrev YG := @Array.length_toList
abbrev YH := @List.mem_singleton
abbrev YI := @List.getElem_mem
abbrev YJ := @PySem.wpAny_holding
abbrev YK := @PySem.sizeLine_eq
abbrev YL := @List.map_congr_left
abbrev YM := @List.length_take
abbrev YN := @List.length_cons
abbrev YO := @Option.some.inj
abbrev YQ := @decide_eq_true
abbrev YR := @Nat.lt_irrefl
abbrev YS := @List.length_append
abbrev YT := @PySem.wpAny_newObj_type
abbrev YU := @PySem.wpAny_call_entry
abbrev YV := @PySem.codeAny_mono
abbrev YW := @List.length_filter_le
abbrev YX := @decide_eq_false
abbrev YY := @List.map_append
abbrev YZ := @List.getElem?_append_right
abbrev Y0 := @List.getElem?_eq_none
abbrev Y1 := @List.mem_cons_of_mem
abbrev Y2 := @PySem.wpAny_setEntries_of
abbrev Y3 := @Nat.lt_succ_of_lt
abbrev Y4 := @List.nodup_cons
abbrev Y5 := @List.append_nil
abbrev Y6 := @Int.emod_nonneg
abbrev Y7 := @PyProof.Rows.callWith_type1
abbrev Y8 := @List.getElem?_append_left
abbrev Y9 := @Array.getElem?_eq_getElem
abbrev Va := @Nat.pow_le_pow_right
abbrev Vb := @PySem.mem_of_lookup
abbrev Vc := @List.mem_cons_self
abbrev Vd := @PySem.wpAny_Call_Name_kw
abbrev Ve := @decide_eq_true_eq
abbrev Vf := @List.length_zip
abbrev Vg := @Rat.num_divInt_den
abbrev Vh := @Int.emod_lt_of_pos
abbrev Vi := @PySem.codeAny_builtin
abbrev Vj := @List.mem_range
abbrev Vk := @Rat.add_assoc
abbrev Vl := @Nat.ne_of_gt
abbrev Vm := @PySem.Heap.get?_update_other
abbrev Vn := @List.take_sublist
abbrev Vo := @PySem.wpAny_setState_of
abbrev Vp := @Nat.le_of_eq
abbrev Vq := @Nat.pow_add
abbrev Vr := @Nat.le_succ
abbrev Vs := @PySem.wpAny_rule
abbrev Vt := @Classical.byContradiction
abbrev Vu := @List.getElem?_of_mem
abbrev Vv := @List.getElem_of_mem
abbrev Vw := @PySem.Around.under_plainId
abbrev Vx := @List.pairwise_map
abbrev Vy := @PySem.wpAny_truthy_bool
abbrev Vz := @Bool.and_eq_true
abbrev VA := @PySem.wpAny_isInstance
abbrev VB := @Bool.eq_iff_iff
abbrev VC := @PySem.wpAny_passesOwn
abbrev VD := @PySem.wpAny_load
abbrev VE := @Array.getD_eq_getD_getElem?
abbrev VF := @List.mem_append_left
abbrev VG := @beq_eq_false_iff_ne
abbrev VH := @List.filter_append
abbrev VI := @Int.natAbs_natCast
abbrev VJ := @of_decide_eq_true
abbrev VL := @List.mem_range'_1
abbrev VM := @Int.toNat_natCast
abbrev VN := @Nat.lt_succ_self
abbrev VO := @List.of_mem_zip
abbrev VP := @PySem.wpAny_forIn_list
abbrev VQ := @PySem.wpAny_ite_split
abbrev VR := @Nat.dvd_trans
abbrev VS := @List.sum_cons
abbrev VT := @List.any_cons
abbrev VU := @PySem.wpAny_newList
abbrev VV := @PySem.plainId_quiet
abbrev VW := @List.Nodup.length_le_of_subset
abbrev VX := @PySem.wpAny_callSpecial?_slot
abbrev VY := @PySem.Calls.callWith_builtin
abbrev VZ := @Nat.le_add_right
abbrev V0 := @Nat.two_pow_pos
abbrev V1 := @Nat.not_lt_zero
abbrev V2 := @PySem.Heap.size_update
abbrev V3 := @Nat.mul_le_mul
abbrev V4 := @PySem.W.KasT.kasWp_bind
abbrev V5 := @PySem.Heap.size_push
abbrev V6 := @Rat.add_zero
abbrev V7 := @Int.add_zero
abbrev V8 := @PyProof.Rows.get?_update_seq
abbrev V9 := @PySem.wpAny_standAt
abbrev Yaa := @PySem.wpAny_attempt
abbrev Yab := @Int.gcd_pos_of_ne_zero_right
abbrev Yac := @Int.fdiv_eq_ediv_of_nonneg
abbrev Yad := @List.drop_eq_getElem_cons
abbrev Yae := @List.Nodup.idxOf_getElem
abbrev Yaf := @List.length_eq_zero_iff
abbrev Yag := @List.filter_cons_of_pos
abbrev Yah := @List.filter_cons_of_neg
abbrev Yai := @List.getElem?_set_self
abbrev Yaj := @List.take_append_drop
abbrev Yak := @Rat.divInt_mul_right
abbrev Yal := @List.getElem?_set_ne
abbrev Yam := @List.getElem?_range
abbrev Yan := @PySem.Heap.get?_update_self
abbrev Yao := @of_decide_eq_false
abbrev Yap := @Nat.dvd_mul_right
abbrev Yaq := @List.nodup_append
abbrev Yar := @List.ext_getElem?
abbrev Yas := @PySem.Heap.SameBut.update
abbrev Yat := @PySem.wpAny_tupleItemsOf
abbrev Yau := @Nat.gcd_dvd_left
abbrev Yav := @PySem.wpAny_setEpoch_of
abbrev Yaw := @Rat.zero_divInt
abbrev Yax := @Nat.div_le_self
abbrev Yay := @PySem.Heap.get?_push_ne
abbrev Yaz := @PySem.F.plain_list_iadd
abbrev YaA := @List.filterMap_cons
set_option Elab.async false
set_option linter.all false
set_option maxRecDepth 100000
namespace L2
open PySem PySem.Spec PyProof.Rows
abbrev ZA := Sum Int Str
def ZgA : ZA -> Value -> Bool
 | .inl k, v => Value.isInt k v
 | .inr x, v => Value.isStrOf x v
def Zqu (w : World) : ZA -> Int
 | .inl k => hashInt k
 | .inr x => hashStr w x
theorem ZM : ∀ {k : ZA} {v : Value}, ZgA k v = true -> (∃ i t, k = Sum.inl i /\ v = Value.int i t) \/ (∃ x t, k = Sum.inr x /\ v = Value.str x t)
 | .inl i, v, h => by
  obtain ⟨t, e⟩ := Value.isInt_shape (k := i) (v := v) h
  exact .inl ⟨i, t, rfl, e⟩
 | .inr x, v, h => by
  obtain ⟨t, e⟩ := Value.isStrOf_shape (x := x) (v := v) h
  exact .inr ⟨x, t, rfl, e⟩
theorem Zhz (i : Int) (t : Tok) : ZgA (.inl i) (.int i t) = true := by simp [ZgA, Value.isInt]
theorem Zh1 (x : Str) (t : Tok) : ZgA (.inr x) (.str x t) = true := by simp [ZgA, Value.isStrOf]
theorem ZoP (a b : Int) : decide ((Sum.inl a : ZA) = Sum.inl b) = (a == b) := by
 by_cases e : a = b
 ·subst e; simp
 ·have h : ¬ (Sum.inl a : ZA) = Sum.inl b := fun q => e (Sum.inl.inj q)
  rw [YX h]
  exact (VG.mpr e).symm
theorem Zn1 (a b : Str) : decide ((Sum.inr a : ZA) = Sum.inr b) = decide (a = b) := by
 by_cases e : a = b
 ·subst e; simp
 ·have h : ¬ (Sum.inr a : ZA) = Sum.inr b := fun q => e (Sum.inr.inj q)
  rw [YX h, YX e]
theorem Znm (a : Int) (b : Str) : decide ((Sum.inl a : ZA) = Sum.inr b) = false := YX (fun q => nomatch q)
theorem Znv (a : Str) (b : Int) : decide ((Sum.inr a : ZA) = Sum.inl b) = false := YX (fun q => nomatch q)
def ZI (prog : Program) (w : World) : PySem.KeyKind prog w ZA where
 is := ZgA
 hash := Zqu w
 inj := fun v a b ha hb => by
  rcases ZM ha with ⟨i, t, rfl, rfl⟩ | ⟨x, t, rfl, rfl⟩
  ·rcases ZM hb with ⟨j, u, rfl, e⟩ | ⟨y, u, rfl, e⟩
   ·injection e with e1 _; rw [e1]
   ·exact nomatch e
  ·rcases ZM hb with ⟨j, u, rfl, e⟩ | ⟨y, u, rfl, e⟩
   ·exact nomatch e
   ·injection e with e1 _; rw [e1]
 byValue := fun k v h => by
  rcases ZM h with ⟨i, t, rfl, rfl⟩ | ⟨x, t, rfl, rfl⟩ <;> rfl
 pyHash := fun hv h => by
  rcases ZM hv with ⟨i, t, rfl, rfl⟩ | ⟨x, t, rfl, rfl⟩
  ·exact wpAny_pyHash_int h
  ·exact wpAny_pyHash_str h
 eqBool := fun hu hv h => by
  rcases ZM hu with ⟨i, t, rfl, rfl⟩ | ⟨x, t, rfl, rfl⟩
  ·rcases ZM hv with ⟨j, u, rfl, rfl⟩ | ⟨y, u, rfl, rfl⟩
   ·rw [ZoP] at h; exact wpAny_eqBool_int h
   ·rw [Znm] at h; exact SeqAt.EqAt.int_str i t y u _ _ _ _ h
  ·rcases ZM hv with ⟨j, u, rfl, rfl⟩ | ⟨y, u, rfl, rfl⟩
   ·rw [Znv] at h; exact SeqAt.EqAt.str_int x t j u _ _ _ _ h
   ·rw [Zn1] at h; exact wpAny_eqBool_str h
 «strs» := fun k x t v h => by
  rcases ZM h with ⟨i, u, rfl, e⟩ | ⟨y, u, rfl, e⟩
  ·exact nomatch e
  ·injection e with e1 _
   subst e1
   cases v <;> rfl
theorem ZeU (prog : Program) (w : World) (i : Int) (t : Tok) : (ZI prog w).is (.inl i) (.int i t) = true := Zhz i t
theorem Ze2 (prog : Program) (w : World) (x : Str) (t : Tok) : (ZI prog w).is (.inr x) (.str x t) = true := Zh1 x t
end L2
namespace L2
open PySem PySem.Spec PyProof.Rows
inductive V where
 | non | bl (b : Bool) | int (i : Int) | str (x : Str) | byt (b : Array UInt8) | flt (b : UInt64) | ref (a : Addr) | ty (n : String)
 deriving DecidableEq
def RelV : V -> Value -> Prop
 | .non, u => u = Value.none
 | .bl b, u => u = Value.bool b
 | .int i, u => ∃ t, u = Value.int i t
 | .str x, u => ∃ t, u = Value.str x t
 | .byt b, u => ∃ t, u = Value.bytes b t
 | .flt b, u => ∃ t, u = Value.float b t
 | .ref a, u => u = Value.ref a
 | .ty n, u => u = Value.type n
abbrev Vals : List V -> List Value -> Prop := Paired RelV
theorem Vals.length {xs : List V} {us : List Value} (r : Vals xs us) : xs.length = us.length := Paired.length r
theorem Vals.get : ∀ {xs : List V} {us : List Value} {i : Nat} {x : V}, Vals xs us -> xs[i]? = some x -> ∃ u, us[i]? = some u /\ RelV x u
 | _, _, _, _, .nil, e => by simp at e
 | _, _, 0, _, .cons r _, e => by simp at e; subst e; exact ⟨_, rfl, r⟩
 | _, _, i + 1, x, .cons _ t, e => by
  obtain ⟨u, h1, h2⟩ := Vals.get (i := i) (x := x) t (by simpa using e)
  exact ⟨u, by simpa using h1, h2⟩
theorem Vals.set {x : V} {u : Value} (r : RelV x u) : ∀ {xs : List V} {us : List Value} (i : Nat), Vals xs us -> Vals (xs.set i x) (us.set i u)
 | _, _, _, .nil => .nil
 | _, _, 0, .cons _ t => .cons r t
 | _, _, i + 1, .cons q t => .cons q (Vals.set r i t)
theorem Vals.append : ∀ {xs ys : List V} {us ws : List Value}, Vals xs us -> Vals ys ws -> Vals (xs ++ ys) (us ++ ws)
 | _, _, _, _, .nil, s => s
 | _, _, _, _, .cons r t, s => .cons r (Vals.append t s)
theorem Vals.take : ∀ {xs : List V} {us : List Value} (n : Nat), Vals xs us -> Vals (xs.take n) (us.take n)
 | _, _, 0, _ => .nil
 | _, _, _ + 1, .nil => .nil
 | _, _, n + 1, .cons r t => .cons r (Vals.take n t)
theorem Vals.drop : ∀ {xs : List V} {us : List Value} (n : Nat), Vals xs us -> Vals (xs.drop n) (us.drop n)
 | _, _, 0, r => r
 | _, _, _ + 1, .nil => .nil
 | _, _, n + 1, .cons _ t => Vals.drop n t
theorem Vals.none_of : ∀ {xs : List V} {us : List Value} {i : Nat}, Vals xs us -> xs[i]? = none -> us[i]? = none := fun {xs us i} r e => by
 have h1 := r.length
 have h2 : xs.length <= i := List.getElem?_eq_none_iff.mp e
 exact List.getElem?_eq_none_iff.mpr (by omega)
def RelO : Option V -> Option Value -> Prop
 | some v, some u => RelV v u
 | none, none => True
 | _, _ => False
def KV {κ : Type} : List (κ × V) -> List (κ × Value) -> Prop := Paired fun (p : κ × V) (q : κ × Value) => p.1 = q.1 /\ RelV p.2 q.2
def kV : ZA -> V
 | .inl i => .int i
 | .inr x => .str x
inductive HO where
 | lst (xs : List V)
 | tup (xs : List V)
 | dK (kvs : List (ZA × V)) | dT (kvs : List (List ZA × V))
 | set (S : Int -> Bool) (n : Nat)
 | ins (C dx : Addr) (fs : List (Str × V))
 | own (x : Addr)
 | xd (fs : List (Str × V))
 | met (f x : Addr)
 | rng (lo hi : Int)
 | frz (o : Obj) (u : HO)
 | tbl (ps : Array Value)
 | ext (φ : Heap -> Prop)
abbrev Hp := Addr -> Option HO
def upd (H : Hp) (a : Addr) (o : HO) : Hp := fun b => if b = a then some o else H b
theorem upd_same {H : Hp} {a : Addr} {o : HO} : upd H a o a = some o := by unfold upd; rw [if_pos rfl]
theorem Zf {H : Hp} {a b : Addr} {o : HO} (h : b ≠ a) : upd H a o b = H b := by unfold upd; rw [if_neg h]
theorem ZlI {H : Hp} {a : Addr} {o u : HO} : upd (upd H a o) a u = upd H a u := by
 funext b; unfold upd; split <;> rfl
theorem ZZ {H : Hp} {a b : Addr} {o u : HO} (h : H a = some o) (h' : H b = some u) (d : o ≠ u) : a ≠ b := by
 intro e; subst e; rw [h] at h'; exact d (YO h')
theorem Zk {H : Hp} {a b : Addr} {o : HO} (h : H a = some o) (h' : H b = none) : a ≠ b := by
 intro e; subst e; rw [h] at h'; cases h'
section
variable (P : Program) (w : World)
def ObjOk (H : Hp) (h : Heap) (a : Addr) : HO -> Prop
 | .lst xs => xs.length <= sizeLine /\ ∃ (its : List Value) (n : Nat), Vals xs its /\ h.get? a = some { cls := .type "list", data := .seq its.toArray n }
 | .tup xs => xs.length <= sizeLine /\ ∃ its : List Value, Vals xs its /\ IsTup h a its.toArray
 | .dK kvs => kvs.length <= sizeLine /\ (a == sysModules) = false /\ ∃ vs, KV kvs vs /\ h.DictOf (ZI P w) a vs
 | .dT kvs => kvs.length <= sizeLine /\ (a == sysModules) = false /\ ∃ xs : List (List ZA × Addr × Value),
   Paired (fun (p : List ZA × V) (q : List ZA × Addr × Value) => p.1 = q.1 /\ H q.2.1 = some (.tup (p.1.map kV)) /\ RelV p.2 q.2.2) kvs xs /\
   ∃ o es ep, h.get? a = some o /\ o.ExactDict /\ o.data = .dict es ep /\ es.toList = xs.map (entryOfKey (tupleKind (ZI P w))) /\ (xs.map (·.1)).Nodup
 | .set S n => h.SetOf (intKind P w) a S n
 | .ins C dx fs => H dx = some (.own a) /\ fs.length <= 1000 /\ dx ≠ a /\ h.get? a = some (instObj C dx) /\
   ∃ mA, h.Ns1 dx mA /\ (∀ f, RelO (fs.lookup f) (mA f)) /\ PySem.Within mA (fs.map (·.1))
 | .own _ => ∃ o, h.get? a = some o
 | .xd fs => ∃ mA, h.Ns1 a mA /\ ∀ f, RelO (fs.lookup f) (mA f)
 | .rng lo hi => ∃ t u v, h.get? a = some { cls := .type "range", data := .fields #[.int lo t, .int hi u, .int 1 v] }
 | .frz o u => h.get? a = some o /\ ObjOk H h a u
 | .tbl ps => ∃ qs : Array Value, h.get? a = some { cls := .none, data := .fields qs } /\ TriplesOk qs.toList /\ ∀ (pos : Pos) (v : Value), codeAmong pos qs.toList = some v ->
   ∃ (c : Addr) (o : Obj) (vs : Array Value) (q : Str) (t t' : Tok), v = .ref c /\ H c = some (.frz o (.own a)) /\ o.data = .fields vs /\ vs[1]? = some (.str q t) /\ ps[0]? = some (.str q t')
 | .met f x => h.get? a = some (methodObj (.ref f) (.ref x))
 | .ext φ => φ h /\ (∃ o, h.get? a = some o) /\ ∀ h1 h2 : Heap, φ h1 -> (∀ o, h1.get? a = some o -> h2.get? a = some o) -> φ h2
def HOk (H : Hp) (h : Heap) : Prop := ∀ a o, H a = some o -> ObjOk P w H h a o
end
section
variable {P : Program} {w : World} {H H' : Hp} {h h' : Heap} {a : Addr} {o : HO}
theorem ObjOk.lt (x : ObjOk P w H h a o) : a < h.objs.size := by
 cases o with
 | lst xs => obtain ⟨_, _, _, _, e⟩ := x; exact Ye e
 | tup xs => obtain ⟨_, _, _, p⟩ := x; exact p.lt
 | dK kvs => obtain ⟨_, _, _, _, o, _, _, e, _⟩ := x; exact Ye e
 | dT kvs => obtain ⟨_, _, _, _, o, _, _, e, _⟩ := x; exact Ye e
 | set S n => obtain ⟨o, _, _, _, e, _⟩ := x; exact Ye e
 | ins C dx fs => obtain ⟨_, _, _, e, _⟩ := x; exact Ye e
 | own y => obtain ⟨_, e⟩ := x; exact Ye e
 | xd fs => obtain ⟨_, ⟨_, _, _, e, _⟩, _⟩ := x; exact Ye e
 | rng lo hi => obtain ⟨_, _, _, e⟩ := x; exact Ye e
 | frz ob u => obtain ⟨e, _⟩ := x; exact Ye e
 | tbl ps => obtain ⟨_, e, _⟩ := x; exact Ye e
 | met f y => exact Ye (show h.get? a = some _ from x)
 | ext φ => obtain ⟨_, ⟨_, e⟩, _⟩ := x; exact Ye e
theorem Paired.mapP {α β : Type} {F G : α -> β -> Prop} : ∀ {l₁ : List α} {l₂ : List β}, Paired F l₁ l₂ -> (∀ a b, F a b -> G a b) -> Paired G l₁ l₂
 | _, _, .nil, _ => .nil
 | _, _, .cons r t, f => .cons (f _ _ r) (Paired.mapP t f)
theorem ObjOk.stay (x : ObjOk P w H h a o) (k : ∀ b u, (b = a \/ H b = some (.own a)) -> h.get? b = some u -> h'.get? b = some u)
  (ho : ∀ b, H b = some (.own a) -> H' b = some (.own a)) (ht : ∀ b xs, H b = some (.tup xs) -> H' b = some (.tup xs))
  (hf : ∀ b o, H b = some (.frz o (.own a)) -> H' b = some (.frz o (.own a)) := by exact fun _ _ q => q) : ObjOk P w H' h' a o := by
 induction o with
 | lst xs => obtain ⟨z, its, n, r, e⟩ := x; exact ⟨z, its, n, r, k _ _ (.inl rfl) e⟩
 | tup xs => obtain ⟨z, its, r, ob, e, c⟩ := x; exact ⟨z, its, r, ob, k _ _ (.inl rfl) e, c⟩
 | dK kvs => obtain ⟨z, y, vs, r, ob, es, ep, e, c⟩ := x; exact ⟨z, y, vs, r, ob, es, ep, k _ _ (.inl rfl) e, c⟩
 | dT kvs =>
  obtain ⟨z, y, xs, r, ob, es, ep, e, c⟩ := x
  exact ⟨z, y, xs, Paired.mapP r fun p q z => ⟨z.1, ht _ _ z.2.1, z.2.2⟩, ob, es, ep, k _ _ (.inl rfl) e, c⟩
 | set S n => obtain ⟨ob, es, ep, t, e, c⟩ := x; exact ⟨ob, es, ep, t, k _ _ (.inl rfl) e, c⟩
 | ins C dx fs =>
  obtain ⟨d, z, ne, e, mA, ⟨od, es, ep, e2, c⟩, r⟩ := x
  exact ⟨ho _ d, z, ne, k _ _ (.inl rfl) e, mA, ⟨od, es, ep, k _ _ (.inr d) e2, c⟩, r⟩
 | own y => obtain ⟨ob, e⟩ := x; exact ⟨ob, k _ _ (.inl rfl) e⟩
 | xd fs => obtain ⟨mA, ⟨od, es, ep, e, c⟩, r⟩ := x; exact ⟨mA, ⟨od, es, ep, k _ _ (.inl rfl) e, c⟩, r⟩
 | rng lo hi => obtain ⟨t, u, v, e⟩ := x; exact ⟨t, u, v, k _ _ (.inl rfl) e⟩
 | frz ob u ih => obtain ⟨e, q⟩ := x; exact ⟨k _ _ (.inl rfl) e, ih q⟩
 | tbl ps =>
  obtain ⟨qs, e, t, f⟩ := x
  exact ⟨qs, k _ _ (.inl rfl) e, t, fun pos v z => by
   obtain ⟨c, o, vs, q, t, t', e1, e2, r⟩ := f pos v z
   exact ⟨c, o, vs, q, t, t', e1, hf _ _ e2, r⟩⟩
 | met f y =>
  have e : h.get? a = some (methodObj (.ref f) (.ref y)) := x
  show h'.get? a = some (methodObj (.ref f) (.ref y))
  exact k a _ (.inl rfl) e
 | ext φ => obtain ⟨p, ⟨o, e⟩, st⟩ := x; exact ⟨st _ _ p fun o q => k _ _ (.inl rfl) q, ⟨o, k _ _ (.inl rfl) e⟩, st⟩
theorem HOk.lt (x : HOk P w H h) (e : H a = some o) : a < h.objs.size := (x a o e).lt
theorem HOk.fresh (x : HOk P w H h) (e : h.objs.size <= a) : H a = none := by
 cases q : H a with
 | none => rfl
 | some u => exact absurd (Yt (x.lt q) e) (YR _)
theorem HOk.kept (x : HOk P w H h) (k : ∀ b u, h.get? b = some u -> h'.get? b = some u) : HOk P w H h' := fun a o e =>
 (x a o e).stay (fun b u _ q => k b u q) (fun _ q => q) fun _ _ q => q
theorem HOk.laid (x : HOk P w H h) (k : ∀ b u, h.get? b = some u -> h'.get? b = some u) (hp : h.objs.size <= a) (new : ObjOk P w (upd H a o) h' a o) : HOk P w (upd H a o) h' := fun b u e => by
 have hn := x.fresh hp
 by_cases hb : b = a
 ·subst hb; rw [upd_same] at e; cases e; exact new
 ·rw [Zf hb] at e
  exact (x b u e).stay (fun c v _ q => k c v q) (fun c q => by rw [Zf (Zk q hn)]; exact q) (fun c xs q => by rw [Zf (Zk q hn)]; exact q) fun c o q => by rw [Zf (Zk q hn)]; exact q
end
def Rd (H : Hp) (a : Addr) (u : HO) : Prop := H a = some u \/ ∃ o, H a = some (.frz o u)
theorem Rd.of {H : Hp} {a : Addr} {u : HO} (h : H a = some u) : Rd H a u := .inl h
theorem Rd.ok {P : Program} {w : World} {H : Hp} {h : Heap} {a : Addr} {u : HO} (r : Rd H a u) (x : HOk P w H h) : ObjOk P w H h a u := by
 rcases r with r | ⟨o, r⟩
 ·exact x a u r
 ·obtain ⟨_, q⟩ := x a _ r
  exact q
def Mut : Option HO -> Prop
 | some (.lst _) => True
 | some (.dK _) => True
 | some (.dT _) => True
 | some (.set _ _) => True
 | some (.ins _ _ _) => True
 | some (.ext _) => True
 | _ => False
section
variable {P : Program} {w : World} {H : Hp} {h h' : Heap} {x e : Addr} {o' : HO}
theorem HOk.write (ok : HOk P w H h) (mu : Mut (H x)) (he : e = x \/ H e = some (.own x)) (k : ∀ b u, b ≠ e -> h.get? b = some u -> h'.get? b = some u) (heo : ∃ u, h'.get? e = some u)
  (new : ObjOk P w (upd H x o') h' x o') : HOk P w (upd H x o') h' := fun b u q => by
 have nown : ∀ c y, H c = some (.own y) -> c ≠ x := fun c y r z => by subst z; rw [r] at mu; exact mu
 have ntup : ∀ c xs, H c = some (.tup xs) -> c ≠ x := fun c xs r z => by subst z; rw [r] at mu; exact mu
 by_cases hb : b = x
 ·subst hb; rw [upd_same] at q; cases q; exact new
 ·rw [Zf hb] at q
  by_cases hbe : b = e
  ·have q' : H b = some (.own x) := by
    rcases he with z | z
    ·exact absurd (hbe.trans z) hb
    ·rw [hbe]; exact z
   rw [q] at q'; cases q'
   obtain ⟨v, hv⟩ := heo
   exact ⟨v, by rw [hbe]; exact hv⟩
  ·refine (ok b u q).stay (fun c v hc r => k c v ?_ r) (fun c r => by rw [Zf (nown c b r)]; exact r) (fun c xs r => by rw [Zf (ntup c xs r)]; exact r) fun c o r => by rw [Zf fun z => by subst z; rw [r] at mu; exact mu]; exact r
   rcases hc with rfl | hc
   ·exact hbe
   ·rintro rfl
    rcases he with z | z
    ·exact nown c b hc z
    ·rw [hc] at z; cases z; exact hb rfl
end
structure Un (fs ex : List Addr) (H H' : Hp) (h h' : Heap) : Prop where
 keep : ∀ b o, h.get? b = some o -> H b = none -> b ∉ fs -> b ∉ ex -> h'.get? b = some o
 slot : ∀ b o, h.get? b = some o -> H b = none -> b ∈ fs -> b ∉ ex -> ∃ sl, h'.get? b = some { o with slots := sl }
 free : ∀ b o, h.get? b = some o -> H b = none -> b ∉ ex -> H' b = none
 there : ∀ b o, h.get? b = some o -> b ∉ ex -> ∃ o', h'.get? b = some o'
 tups : ∀ b xs, H b = some (.tup xs) -> H' b = some (.tup xs)
 frzs : ∀ b o u, H b = some (.frz o u) -> H' b = some (.frz o u)
 tbls : ∀ b ps, H b = some (.tbl ps) -> ∃ more, H' b = some (.tbl (ps ++ more))
section
variable {fs fs' ex ex' : List Addr} {H H1 H2 : Hp} {h h1 h2 h' : Heap} {a x e : Addr} {o : HO}
theorem Un.any (u : Un fs ex H H1 h h1) {b : Addr} {ob : Obj} (q : h.get? b = some ob) (n : H b = none) (hx : b ∉ ex) : ∃ sl, h1.get? b = some { ob with slots := sl } := by
 by_cases hb : b ∈ fs
 ·exact u.slot b ob q n hb hx
 ·exact ⟨ob.slots, u.keep b ob q n hb hx⟩
theorem Un.trans (a : Un fs ex H H1 h h1) (b : Un fs ex H1 H2 h1 h2) : Un fs ex H H2 h h2 where
 keep := fun c ob q n hc hx => b.keep c ob (a.keep c ob q n hc hx) (a.free c ob q n hx) hc hx
 slot := fun c ob q n hc hx => by
  obtain ⟨sl, e1⟩ := a.slot c ob q n hc hx
  obtain ⟨sl', e2⟩ := b.slot c _ e1 (a.free c ob q n hx) hc hx
  exact ⟨sl', e2⟩
 free := fun c ob q n hx => by
  obtain ⟨o', e1⟩ := a.there c ob q hx
  exact b.free c o' e1 (a.free c ob q n hx) hx
 there := fun c ob q hx => by
  obtain ⟨o', e1⟩ := a.there c ob q hx
  exact b.there c o' e1 hx
 tups := fun c xs q => b.tups c xs (a.tups c xs q)
 frzs := fun c ob xs q => b.frzs c ob xs (a.frzs c ob xs q)
 tbls := fun c ps q => by
  obtain ⟨m1, e1⟩ := a.tbls c ps q
  obtain ⟨m2, e2⟩ := b.tbls c _ e1
  exact ⟨m1 ++ m2, by rw [e2, Array.append_assoc]⟩
theorem Un.kept (k : ∀ b u, h.get? b = some u -> h'.get? b = some u) : Un fs ex H H h h' :=
 ⟨fun b ob q _ _ _ => k b ob q, fun b ob q _ _ _ => ⟨ob.slots, k b ob q⟩, fun _ _ _ n _ => n, fun b ob q _ => ⟨ob, k b ob q⟩, fun _ _ q => q, fun _ _ _ q => q, fun _ ps q => ⟨#[], by rw [q]; simp⟩⟩
theorem Un.refl : Un fs ex H H h h := Un.kept fun _ _ q => q
theorem Un.laid (k : ∀ b u, h.get? b = some u -> h'.get? b = some u) (hp : h.objs.size <= a) (hn : H a = none) : Un fs ex H (upd H a o) h h' where
 keep := fun b u q _ _ _ => k b u q
 slot := fun b u q _ _ _ => ⟨u.slots, k b u q⟩
 free := fun b u q n _ => by rw [Zf (Yk (Yt (Ye q) hp))]; exact n
 there := fun b u q _ => ⟨u, k b u q⟩
 tups := fun b xs q => by rw [Zf (Zk q hn)]; exact q
 frzs := fun b u xs q => by rw [Zf (Zk q hn)]; exact q
 tbls := fun b ps q => ⟨#[], by rw [Zf (Zk q hn), q]; simp⟩
theorem Un.write (mu : Mut (H x)) (he : e = x \/ H e = some (.own x)) (k : ∀ b u, b ≠ e -> h.get? b = some u -> h'.get? b = some u) (heo : ∃ u, h'.get? e = some u) : Un fs ex H (upd H x o) h h' := by
 have hx : ∀ b, H b = none -> b ≠ x := fun b n z => by subst z; rw [n] at mu; exact mu
 have hb : ∀ b, H b = none -> b ≠ e := fun b n z => by
  subst z
  rcases he with r | r
  ·exact hx b n r
  ·rw [n] at r; cases r
 have hm : ∀ b u, H b = some u -> ¬ Mut (some u) -> b ≠ x := fun b u q nm z => by subst z; rw [q] at mu; exact nm mu
 refine ⟨fun b u q n _ _ => k b u (hb b n) q, fun b u q n _ _ => ⟨u.slots, k b u (hb b n) q⟩, fun b u q n _ => by rw [Zf (hx b n)]; exact n, fun b u q _ => ?_,
  fun b xs q => by rw [Zf (hm b _ q fun z => z)]; exact q, fun b u xs q => by rw [Zf (hm b _ q fun z => z)]; exact q, fun b ps q => ⟨#[], by rw [Zf (hm b _ q fun z => z), q]; simp⟩⟩
 by_cases hbe : b = e
 ·subst hbe; exact heo
 ·exact ⟨u, k b u hbe q⟩
theorem Un.mono (u : Un fs ex H H1 h h1) (hs : ∀ b ∈ fs, b ∈ fs') (hx : ∀ b ∈ ex, b ∈ ex') : Un fs' ex' H H1 h h1 :=
 ⟨fun b ob q n hb he => u.keep b ob q n (fun z => hb (hs b z)) fun z => he (hx b z), fun _ _ q n _ he => u.any q n fun z => he (hx _ z), fun b ob q n he => u.free b ob q n fun z => he (hx b z), fun b ob q he => u.there b ob q fun z => he (hx b z), u.tups, u.frzs, u.tbls⟩
end
def trk (h : Heap) (H : Hp) : List Addr := (List.range h.objs.size).filter fun a => (H a).isSome
def Zks (h : Heap) (H : Hp) : Heap := PySem.W.hideAll h (trk h H)
theorem ZgW (h : Heap) (H : Hp) : (Zks h H).objs.size = h.objs.size := PySem.W.hideAll_size _ _
theorem Zdz {h : Heap} {H : Hp} {b : Addr} {o : Obj} (e : h.get? b = some o) (n : H b = none) : (Zks h H).get? b = some o :=
 PySem.W.hideAll_get _ e fun hm => by
  have q : (H b).isSome = true := (YA.mp hm).2
  rw [n] at q; simp at q
theorem ZmJ {h : Heap} {H : Hp} {b : Addr} {o : Obj} (e : (Zks h H).get? b = some o) : h.get? b = some o /\ H b = none := by
 have e' : h.get? b = some o := PySem.W.of_hideAll (trk h H) e
 refine ⟨e', ?_⟩
 cases q : H b with
 | none => rfl
 | some x =>
  have hm : b ∈ trk h H := List.mem_filter.mpr ⟨List.mem_range.mpr (Heap.lt_size e'), by simp [q]⟩
  have z : (Zks h H).get? b = none := PySem.W.hideAll_none (trk h H) hm
  rw [z] at e; cases e
def ZlJ (g h : Heap) (L : Addr) : List (Addr × Obj) := (List.range h.objs.size).filterMap fun a => if a = L \/ (g.get? a).isSome = true then none else (h.get? a).map fun o => (a, o)
def rest (g h : Heap) (L d : Addr) : List (Addr × Obj) := (ZlJ g h L).filter fun p => decide (p.1 ≠ d)
end L2
namespace L2
open PySem PySem.Spec PyProof.Rows
structure Mod (K : PySem.W.Frag) (mg : Str -> Option Value) (base : Heap) : Prop where
 kin : K.In base
 glob : base.Ns mainGlobals mg
 blt : ∃ mb, base.Ns builtinsNs mb /\ ∀ x : Str, x ≠ "__name__" -> mb x = bootBuiltins x
 nolimit : base.NoLimit
structure Cx where
 prog : Program
 w : World
 K : PySem.W.Frag
 mg : Str -> Option Value
 base : Heap
 A : Around
 N : List Str
 s₀ : Shared
 H₀ : Hp
 env : Env
 outer : List Env
 stack : List Env
 ex : List Addr
 fn : Str -> Bool
 calm : Bool
 pn : List (Addr × Obj)
 xe : Value -> Shared -> Prop
def frs (l : List Env) : List Addr := l.filterMap (·.frame)
abbrev Cx.fs (X : Cx) : List Addr := frs X.outer
def Vis (sc : Scope) (x : Str) : Prop := sc.names.lookup x = some .local \/ sc.names.lookup x = some .cell \/ sc.names.lookup x = some .free
def Loc (sc : Scope) (x : Str) : Prop := sc.names.lookup x = some .local \/ sc.names.lookup x = some .cell
def Zqx (env : Env) (h : Heap) (m : Str -> Option Value) (x : Str) (u : Value) : Prop :=
 (env.kindOf x = some .local /\ m x = some u) \/ ((env.kindOf x = some .cell \/ env.kindOf x = some .free) /\ ∃ c, env.cells.lookup x = some c /\ h.IsCell c (some u))
structure Cx.Ok (X : Cx) : Prop where
 mod : Mod X.K X.mg X.base
 kind : X.env.scope.kind = .function
 glob : X.env.globals = mainGlobals
 blt : X.env.builtins = builtinsNs
 above : X.s₀.heap.objs.size <= X.env.locals
 inj : ∀ x y c, X.env.cells.lookup x = some c -> X.env.cells.lookup y = some c -> x = y
 has : ∀ x, (X.env.kindOf x = some .cell \/ X.env.kindOf x = some .free) -> ∃ c, X.env.cells.lookup x = some c
 cab : ∀ x c, X.fn x = true -> X.env.cells.lookup x = some c -> X.s₀.heap.objs.size <= c
 hd : X.calm = true -> X.A.handled = none
 frames : X.A.frames = some X.stack
 stk : X.stack = X.outer \/ (X.stack = X.env :: X.outer /\ X.env.frame = some X.env.locals)
 exf : ∀ b ∈ X.ex, b ≠ X.env.locals /\ ∀ x c, X.env.cells.lookup x = some c -> c ≠ b
 bs : ∀ b o, X.base.get? b = some o -> X.s₀.heap.get? b = some o /\ X.H₀ b = none
 bsz : X.base.objs.size <= X.s₀.heap.objs.size
 noex : ∀ b o, X.base.get? b = some o -> b ∉ X.ex
 exfs : ∀ b ∈ X.ex, b ∉ X.fs
 funs : X.s₀.heap.FunFrames X.base X.outer
 frf : ∀ b ∈ X.fs, X.H₀ b = none
structure Inv (X : Cx) (pins : List (Addr × Obj)) (σ : List (Option V)) (H : Hp) (s : Shared) : Prop where
 ok : X.Ok
 os : s.os = X.s₀.os
 bare : AllBare s.gens
 base : Un X.fs X.ex X.H₀ H X.s₀.heap s.heap
 loc : ∃ m, s.heap.Ns X.env.locals m /\ ∀ (i : Nat) (x : Str) (v : V), X.N[i]? = some x -> σ[i]? = some (some v) -> Vis X.env.scope x -> ∃ u, RelV v u /\ Zqx X.env s.heap m x u
 cell : ∀ x c, X.env.cells.lookup x = some c -> ∃ v, s.heap.IsCell c v
 free : H X.env.locals = none
 freeC : ∀ x c, X.env.cells.lookup x = some c -> H c = none
 pin : ∀ p ∈ X.pn ++ pins, s.heap.get? p.1 = some p.2 /\ H p.1 = none /\ p.1 ≠ X.env.locals /\ p.1 ∉ X.fs /\ ∀ v, p.2.data ≠ .cell v
 hok : HOk X.prog X.w H s.heap
 len : σ.length = X.N.length
section
variable {X : Cx} {pins : List (Addr × Obj)} {σ : List (Option V)} {H H' : Hp} {s : Shared} {h' : Heap}
theorem Cx.Ok.nofr (ok : X.Ok) {b : Addr} {o : Obj} (e : X.base.get? b = some o) : b ∉ X.fs := fun hb => by
 have := (ok.funs.mem hb).1
 rw [e] at this; cases this
theorem Inv.bs (I : Inv X pins σ H s) : ∀ b o, X.base.get? b = some o -> s.heap.get? b = some o /\ H b = none := fun b o e =>
 ⟨I.base.keep b o (I.ok.bs b o e).1 (I.ok.bs b o e).2 (I.ok.nofr e) (I.ok.noex b o e), I.base.free b o (I.ok.bs b o e).1 (I.ok.bs b o e).2 (I.ok.noex b o e)⟩
theorem Inv.bk (I : Inv X pins σ H s) : ∀ b o, X.base.get? b = some o -> s.heap.get? b = some o := fun b o e => (I.bs b o e).1
theorem Inv.mod (I : Inv X pins σ H s) : Mod X.K X.mg X.base := I.ok.mod
theorem Inv.kIn (I : Inv X pins σ H s) : X.K.In s.heap := I.ok.mod.kin.keeps I.bk
theorem Inv.nolimit (I : Inv X pins σ H s) : s.heap.NoLimit := I.ok.mod.nolimit.keeps I.bk
theorem Inv.fr (I : Inv X pins σ H s) : ∃ m, Fr X.base X.env.locals s.heap m :=
 let ⟨m, hn, _⟩ := I.loc
 ⟨m, hn, I.bk, Yj I.ok.bsz I.ok.above⟩
theorem Inv.lt (I : Inv X pins σ H s) : X.env.locals < s.heap.objs.size := let ⟨_, hn, _⟩ := I.loc; hn.lt
theorem Inv.sz (I : Inv X pins σ H s) : X.s₀.heap.objs.size <= s.heap.objs.size := Yj I.ok.above (Yr I.lt)
theorem Inv.nofs (I : Inv X pins σ H s) {a : Addr} (h : s.heap.objs.size <= a) : a ∉ X.fs := fun hb => by
 obtain ⟨_, o, ho, _⟩ := I.ok.funs.mem hb
 exact absurd (Yt (Ye ho) (Yj I.sz h)) (YR _)
theorem Inv.cne (I : Inv X pins σ H s) : ∀ x c, X.env.cells.lookup x = some c -> c ≠ X.env.locals := fun x c e z => by
 obtain ⟨v, o, ho, hd⟩ := I.cell x c e
 obtain ⟨m, ⟨o', es, ep, ho', hd', _⟩, _⟩ := I.loc
 rw [z, ho'] at ho; cases ho; rw [hd'] at hd; cases hd
theorem Inv.funs (I : Inv X pins σ H s) : s.heap.FunFrames X.base X.outer := by
 have all : ∀ (l : List Env), (∀ b ∈ frs l, b ∈ X.fs) -> X.s₀.heap.FunFrames X.base l -> s.heap.FunFrames X.base l := by
  intro l
  induction l with
  | nil => intro _ _; trivial
  | cons env r ih =>
   intro hs hl
   obtain ⟨hk, ⟨L, o, hf, hn, ho, hd⟩, hr⟩ := hl
   have hL : L ∈ X.fs := hs L (by unfold frs; rw [List.filterMap_cons, hf]; exact List.mem_cons_self)
   obtain ⟨sl, e⟩ := I.base.slot L o ho (I.ok.frf L hL) hL fun z => I.ok.exfs L z hL
   exact ⟨hk, ⟨L, _, hf, hn, e, hd⟩, ih (fun b hb => hs b (by unfold frs; rw [List.filterMap_cons, hf]; exact List.mem_cons_of_mem _ hb)) hr⟩
 exact all X.outer (fun _ hb => hb) I.ok.funs
theorem Inv.stack (I : Inv X pins σ H s) : s.heap.FunFrames X.base X.stack := by
 rcases I.ok.stk with e | ⟨e, hf⟩
 ·rw [e]; exact I.funs
 ·rw [e]
  obtain ⟨m, hn, _⟩ := I.loc
  refine .cons (by rw [I.ok.kind]; decide) hf hn ?_ I.funs
  exact Heap.get?_none_of_le (Yj I.ok.bsz I.ok.above)
theorem Inv.stkSub (I : Inv X pins σ H s) : ∀ b ∈ frs X.stack, b ∈ X.env.locals :: X.fs := fun b hb => by
 rcases I.ok.stk with e | ⟨e, hf⟩
 ·rw [e] at hb; exact Y1 _ hb
 ·rw [e] at hb
  unfold frs at hb
  rw [YaA, hf] at hb
  exact hb
theorem Inv.stkFree (I : Inv X pins σ H s) : ∀ b ∈ frs X.stack, H b = none := fun b hb => by
 rcases Yn.mp (I.stkSub b hb) with e | hb
 ·rw [e]; exact I.free
 ·obtain ⟨_, o, ho, _⟩ := I.ok.funs.mem hb
  exact I.base.free b o ho (I.ok.frf b hb) fun z => I.ok.exfs b z hb
theorem Inv.step {g' : Array GenState} {t' : Nat} {d' : Drawn} {ch : List Addr} (I : Inv X pins σ H s)
  (hch : ∀ b ∈ ch, (b ∈ X.ex \/ X.s₀.heap.objs.size <= b) /\ b ≠ X.env.locals /\ (∀ x c, X.env.cells.lookup x = some c -> c ≠ b) /\ ∀ p ∈ X.pn ++ pins, p.1 ≠ b)
  (keep : ∀ b o, b ≠ X.env.locals -> b ∉ X.fs -> b ∉ ch -> s.heap.get? b = some o -> H b = none -> h'.get? b = some o)
  (slot : ∀ b o, b ≠ X.env.locals -> b ∈ X.fs -> b ∉ ch -> s.heap.get? b = some o -> H b = none -> ∃ sl, h'.get? b = some { o with slots := sl }) (free : ∀ b o, b ∉ ch -> s.heap.get? b = some o -> H b = none -> H' b = none)
  (there : ∀ b o, b ∉ ch -> s.heap.get? b = some o -> ∃ o', h'.get? b = some o')
  (tups : ∀ b xs, H b = some (.tup xs) -> H' b = some (.tup xs)) (frzs : ∀ b o u, H b = some (.frz o u) -> H' b = some (.frz o u)) (tbls : ∀ b ps, H b = some (.tbl ps) -> ∃ more, H' b = some (.tbl (ps ++ more)))
  (ns : ∀ m, s.heap.Ns X.env.locals m -> h'.Ns X.env.locals m) (hok : HOk X.prog X.w H' h') (hg : AllBare g') :
  Inv X pins σ H' { s with heap := h', gens := g', drawn := d', toks := t' } := by
 have neL : ∀ b o, X.s₀.heap.get? b = some o -> b ≠ X.env.locals := fun b o e => Yk (Yt (Ye e) I.ok.above)
 have neC : ∀ b o, X.s₀.heap.get? b = some o -> b ∉ X.ex -> b ∉ ch := fun b o e hx hb => by
  rcases (hch b hb).1 with z | z
  ·exact hx z
  ·exact absurd (Yt (Ye e) z) (YR _)
 have cellK : ∀ x c, X.env.cells.lookup x = some c -> ∀ v, s.heap.IsCell c v -> h'.IsCell c v := fun x c e v ⟨o, ho, hd⟩ => by
  have nch : c ∉ ch := fun z => (hch c z).2.2.1 x c e rfl
  by_cases hc : c ∈ X.fs
  ·obtain ⟨sl, q⟩ := slot c o (I.cne x c e) hc nch ho (I.freeC x c e)
   exact ⟨_, q, hd⟩
  ·exact ⟨o, keep c o (I.cne x c e) hc nch ho (I.freeC x c e), hd⟩
 refine ⟨I.ok, I.os, hg, ⟨fun b o e n hb hx => ?_, fun b o e n hb hx => ?_, fun b o e n hx => ?_, fun b o e hx => ?_, fun b xs e => tups b xs (I.base.tups b xs e), fun b o xs e => frzs b o xs (I.base.frzs b o xs e), fun b ps e => ?_⟩, ?_, fun x c e => ?_, ?_, fun x c e => ?_, fun p hp => ?_, hok, I.len⟩
 ·exact keep b o (neL b o e) hb (neC b o e hx) (I.base.keep b o e n hb hx) (I.base.free b o e n hx)
 ·obtain ⟨sl, e1⟩ := I.base.slot b o e n hb hx
  obtain ⟨sl', e2⟩ := slot b _ (neL b o e) hb (neC b o e hx) e1 (I.base.free b o e n hx)
  exact ⟨sl', e2⟩
 ·obtain ⟨o', e1⟩ := I.base.there b o e hx
  exact free b o' (neC b o e hx) e1 (I.base.free b o e n hx)
 ·obtain ⟨o', e1⟩ := I.base.there b o e hx
  exact there b o' (neC b o e hx) e1
 ·obtain ⟨m1, e1⟩ := I.base.tbls b ps e
  obtain ⟨m2, e2⟩ := tbls b _ e1
  exact ⟨m1 ++ m2, by rw [e2, Array.append_assoc]⟩
 ·obtain ⟨m, hn, hl⟩ := I.loc
  refine ⟨m, ns m hn, fun i x v e1 e2 e3 => ?_⟩
  obtain ⟨u, r, l⟩ := hl i x v e1 e2 e3
  refine ⟨u, r, ?_⟩
  rcases l with l | ⟨k, c, e, z⟩
  ·exact .inl l
  ·exact .inr ⟨k, c, e, cellK x c e _ z⟩
 ·obtain ⟨v, z⟩ := I.cell x c e
  exact ⟨v, cellK x c e v z⟩
 ·obtain ⟨m, ⟨o, _, _, ho, _⟩, _⟩ := I.loc
  exact free _ o (fun z => (hch _ z).2.1 rfl) ho I.free
 ·obtain ⟨v, o, ho, hd⟩ := I.cell x c e
  exact free c o (fun z => (hch c z).2.2.1 x c e rfl) ho (I.freeC x c e)
 ·obtain ⟨e, n, ne, nf, d⟩ := I.pin p hp
  have nch : p.1 ∉ ch := fun z => (hch p.1 z).2.2.2 p hp rfl
  exact ⟨keep p.1 p.2 ne nf nch e n, free p.1 p.2 nch e n, ne, nf, d⟩
theorem Inv.un {t' : Nat} (I : Inv X pins σ H s) (u : Un X.fs [] H H' s.heap h') (hok : HOk X.prog X.w H' h') : Inv X pins σ H' { s with heap := h', toks := t' } := by
 obtain ⟨m, ⟨o, es, ep, ho, r⟩, _⟩ := id I.loc
 obtain ⟨sl, hL⟩ := u.any ho I.free (by simp)
 exact I.step (g' := s.gens) (d' := s.drawn) (ch := []) (fun _ z => nomatch z) (fun b o _ hb _ e n => u.keep b o e n hb (by simp)) (fun b o _ hb _ e n => u.slot b o e n hb (by simp)) (fun b o _ e n => u.free b o e n (by simp)) (fun b o _ e => u.there b o e (by simp)) u.tups u.frzs u.tbls (fun m' hm => by
  obtain ⟨o', es', ep', ho', r'⟩ := hm
  rw [ho] at ho'; cases ho'
  exact ⟨_, es', ep', hL, r'⟩) hok I.bare
theorem Inv.call {g' : Array GenState} {t' : Nat} {d' : Drawn} {ch : List Addr} (I : Inv X pins σ H s) (u : Un (frs X.stack) ch H H' s.heap h') (hok : HOk X.prog X.w H' h') (hg : AllBare g')
  (hch : ∀ b ∈ ch, (b ∈ X.ex \/ X.s₀.heap.objs.size <= b) /\ b ≠ X.env.locals /\ (∀ x c, X.env.cells.lookup x = some c -> c ≠ b) /\ ∀ p ∈ X.pn ++ pins, p.1 ≠ b) :
  Inv X pins σ H' { s with heap := h', gens := g', drawn := d', toks := t' } := by
 obtain ⟨m, ⟨o, es, ep, ho, r⟩, _⟩ := id I.loc
 obtain ⟨sl, hL⟩ := u.any ho I.free fun z => (hch _ z).2.1 rfl
 exact I.step (ch := ch) hch (fun b o hL hb hc e n => u.keep b o e n (fun z => (Yn.mp (I.stkSub b z)).elim hL hb) hc) (fun b o _ _ hc e n => u.any e n hc) (fun b o hc e n => u.free b o e n hc) (fun b o hc e => u.there b o e hc) u.tups u.frzs u.tbls (fun m' hm => by
  obtain ⟨o', es', ep', ho', r'⟩ := hm
  rw [ho] at ho'; cases ho'
  exact ⟨_, es', ep', hL, r'⟩) hok hg
theorem Inv.turned {t' : Nat} {it : Addr} (I : Inv X pins σ H s) (k : ∀ b o, b ≠ it -> s.heap.get? b = some o -> h'.get? b = some o) (hn : H it = none) (hL : it ≠ X.env.locals)
  (h1 : it ∈ X.ex \/ X.s₀.heap.objs.size <= it) (h2 : ∀ x c, X.env.cells.lookup x = some c -> c ≠ it) (h3 : ∀ p ∈ X.pn ++ pins, p.1 ≠ it) : Inv X pins σ H { s with heap := h', toks := t' } := by
 have nit : ∀ b u, H b = some u -> b ≠ it := fun b u e z => by rw [z, hn] at e; cases e
 refine I.step (g' := s.gens) (d' := s.drawn) (ch := [it]) (fun b hb => ?_) (fun b o _ _ hc e _ => k b o (fun z => hc (by simp [z])) e) (fun b o _ _ hc e _ => ⟨o.slots, k b o (fun z => hc (by simp [z])) e⟩) (fun _ _ _ _ n => n)
  (fun b o hc e => ⟨o, k b o (fun z => hc (by simp [z])) e⟩) (fun _ _ e => e) (fun _ _ _ e => e) (fun b ps e => ⟨#[], by rw [e]; simp⟩) (fun m hm => ?_) (fun b u e => ?_) I.bare
 ·have e : b = it := by simpa using hb
  subst e
  exact ⟨h1, hL, h2, h3⟩
 ·obtain ⟨o, es, ep, ho, r⟩ := hm
  exact ⟨o, es, ep, k _ o (Ne.symm hL) ho, r⟩
 ·refine (I.hok b u e).stay (fun c v hc q => k c v ?_ q) (fun _ q => q) fun _ _ q => q
  rcases hc with z | z
  ·rw [z]; exact nit b u e
  ·exact nit c _ z
theorem Inv.tok (I : Inv X pins σ H s) (t : Nat) : Inv X pins σ H { s with toks := t } := I.un (h' := s.heap) (t' := t) Un.refl I.hok
theorem Inv.kept {t' : Nat} (I : Inv X pins σ H s) (k : ∀ b u, s.heap.get? b = some u -> h'.get? b = some u) : Inv X pins σ H { s with heap := h', toks := t' } := I.un (Un.kept k) (I.hok.kept k)
theorem Inv.laid {a : Addr} {o : HO} {t' : Nat} (I : Inv X pins σ H s) (k : ∀ b u, s.heap.get? b = some u -> h'.get? b = some u) (hp : s.heap.objs.size <= a) (new : ObjOk X.prog X.w (upd H a o) h' a o) :
  Inv X pins σ (upd H a o) { s with heap := h', toks := t' } := I.un (Un.laid k hp (I.hok.fresh hp)) (I.hok.laid k hp new)
theorem Inv.write {x e : Addr} {o : HO} {t' : Nat} (I : Inv X pins σ H s) (mu : Mut (H x)) (he : e = x \/ H e = some (.own x)) (k : ∀ b u, b ≠ e -> s.heap.get? b = some u -> h'.get? b = some u) (heo : ∃ u, h'.get? e = some u)
  (new : ObjOk X.prog X.w (upd H x o) h' x o) : Inv X pins σ (upd H x o) { s with heap := h', toks := t' } := I.un (Un.write mu he k heo) (I.hok.write mu he k heo new)
theorem Inv.pins_of {pins' : List (Addr × Obj)} (I : Inv X pins σ H s) (h : ∀ p ∈ pins', s.heap.get? p.1 = some p.2 /\ H p.1 = none /\ p.1 ≠ X.env.locals /\ p.1 ∉ X.fs /\ ∀ v, p.2.data ≠ .cell v) : Inv X pins' σ H s :=
 ⟨I.ok, I.os, I.bare, I.base, I.loc, I.cell, I.free, I.freeC, fun p hp => (Yx.mp hp).elim (fun z => I.pin p (VF _ z)) (h p), I.hok, I.len⟩
theorem Zfn {N : List Str} (hN : N.Nodup) {i j : Nat} {x : Str} (a : N[i]? = some x) (b : N[j]? = some x) : i = j := by
 obtain ⟨h1, e1⟩ := Yg.mp a
 obtain ⟨h2, e2⟩ := Yg.mp b
 exact (List.getElem_inj hN).mp (e1.trans e2.symm)
theorem ZhJ {M : Model} {A : Around} {E : Value -> Shared -> Prop} {i : Nat} {x : Str} {v : V} {u : Value} {Q : Unit -> Shared -> Prop} (I : Inv X pins σ H s) (hN : X.N.Nodup) (hi : X.N[i]? = some x) (hx : Loc X.env.scope x) (r : RelV v u)
  (h : ∀ s', Inv X pins (σ.set i (some v)) H s' -> (∃ a, Heap.SameBut a s.heap s'.heap /\ (a = X.env.locals \/ X.env.cells.lookup x = some a)) -> Q () s') (hf : X.fn x = true \/ X.env.scope.names.lookup x = some .local := by first | exact .inl rfl | exact .inr rfl | assumption) : wpAny M A (storeName X.env x u) Q E s := by
 obtain ⟨m, hn, hl⟩ := id I.loc
 have hcls : (X.env.scope.kind == .class || (X.env.scope.kind == .module && X.env.locals != X.env.globals)) = false := by rw [I.ok.kind]; rfl
 have hiσ : i < σ.length := by rw [I.len]; exact (Yg.mp hi).1
 have cne := I.cne
 have tracked : ∀ {a : Addr} {h' : Heap}, (∃ o, s.heap.get? a = some o /\ H a = none) -> Heap.SameBut a s.heap h' -> HOk X.prog X.w H h' := fun {a h'} ha hs b ob e => by
  obtain ⟨_, _, hfree⟩ := ha
  refine (I.hok b ob e).stay (fun c w' hc q => (hs.2 c ?_).trans q) (fun _ q => q) fun _ _ q => q
  rintro rfl
  rcases hc with rfl | hc
  ·rw [hfree] at e; cases e
  ·rw [hfree] at hc; cases hc
 rcases hx with hk | hk
 ·refine wpAny_storeName_local hk hn (fun h' hn' hs => ?_) hcls
  obtain ⟨oL, _, _, hoL, _⟩ := id hn
  refine h _ ⟨I.ok, I.os, I.bare, ⟨fun b o e n hb hx => ?_, fun b o e n hb hx => ?_, I.base.free, fun b o e hx => ?_, I.base.tups, I.base.frzs, I.base.tbls⟩, ⟨_, hn', fun j y v' e1 e2 e3 => ?_⟩, fun y c e => ?_, I.free, I.freeC, fun p hp => ?_, tracked ⟨oL, hoL, I.free⟩ hs, by simpa using I.len⟩ ⟨_, hs, .inl rfl⟩
  ·exact (hs.2 b (Yk (Yt (Ye e) I.ok.above))).trans (I.base.keep b o e n hb hx)
  ·obtain ⟨sl, e1⟩ := I.base.slot b o e n hb hx
   exact ⟨sl, (hs.2 b (Yk (Yt (Ye e) I.ok.above))).trans e1⟩
  ·obtain ⟨o', e1⟩ := I.base.there b o e hx
   exact ⟨o', (hs.2 b (Yk (Yt (Ye e) I.ok.above))).trans e1⟩
  ·by_cases hj : j = i
   ·subst hj
    rw [hi] at e1; cases e1
    rw [Yai hiσ] at e2
    cases e2
    exact ⟨u, r, .inl ⟨hk, by simp⟩⟩
   ·rw [Yal (Ne.symm hj)] at e2
    obtain ⟨u', r', q⟩ := hl j y v' e1 e2 e3
    refine ⟨u', r', ?_⟩
    rcases q with ⟨k, e⟩ | ⟨k, c, e, z⟩
    ·refine .inl ⟨k, ?_⟩
     have : y ≠ x := fun e => hj (Zfn hN e1 (e ▸ hi))
     simp [this, e]
    ·exact .inr ⟨k, c, e, z.sameBut hs (cne y c e)⟩
  ·obtain ⟨w', z⟩ := I.cell y c e
   exact ⟨w', z.sameBut hs (cne y c e)⟩
  ·obtain ⟨e, n, ne, nf, d⟩ := I.pin p hp
   exact ⟨(hs.2 p.1 ne).trans e, n, ne, nf, d⟩
 ·have hfn : X.fn x = true := by
   rcases hf with z | z
   ·exact z
   ·rw [z] at hk; cases hk
  obtain ⟨c, hc⟩ := I.ok.has x (.inl hk)
  obtain ⟨w', z⟩ := I.cell x c hc
  refine wpAny_storeName_cell I.ok.kind hk hc z (fun h' hc' hs => ?_)
  obtain ⟨oc, hoc, hocd⟩ := id z
  refine h { s with heap := h' } ⟨I.ok, I.os, I.bare, ⟨fun b o e n hb hx => ?_, fun b o e n hb hx => ?_, I.base.free, fun b o e hx => ?_, I.base.tups, I.base.frzs, I.base.tbls⟩, ⟨m, hn.sameBut hs (Ne.symm (cne x c hc)), fun j y v' e1 e2 e3 => ?_⟩, fun y c' e => ?_, I.free, I.freeC, fun p hp => ?_, tracked ⟨oc, hoc, I.freeC x c hc⟩ hs, by simpa using I.len⟩ ⟨c, hs, .inr hc⟩
  ·exact (hs.2 b (Yk (Yt (Ye e) (I.ok.cab x c hfn hc)))).trans (I.base.keep b o e n hb hx)
  ·obtain ⟨sl, e1⟩ := I.base.slot b o e n hb hx
   exact ⟨sl, (hs.2 b (Yk (Yt (Ye e) (I.ok.cab x c hfn hc)))).trans e1⟩
  ·obtain ⟨o', e1⟩ := I.base.there b o e hx
   exact ⟨o', (hs.2 b (Yk (Yt (Ye e) (I.ok.cab x c hfn hc)))).trans e1⟩
  ·by_cases hj : j = i
   ·subst hj
    rw [hi] at e1; cases e1
    rw [Yai hiσ] at e2
    cases e2
    exact ⟨u, r, .inr ⟨.inl hk, c, hc, hc'⟩⟩
   ·rw [Yal (Ne.symm hj)] at e2
    obtain ⟨u', r', q⟩ := hl j y v' e1 e2 e3
    refine ⟨u', r', ?_⟩
    rcases q with q | ⟨k, c', e, z'⟩
    ·exact .inl q
    ·refine .inr ⟨k, c', e, z'.sameBut hs ?_⟩
     rintro rfl
     exact hj (Zfn hN e1 (I.ok.inj _ _ _ e hc ▸ hi))
  ·by_cases hcc : c' = c
   ·subst hcc; exact ⟨_, hc'⟩
   ·obtain ⟨w2, z2⟩ := I.cell y c' e
    exact ⟨w2, z2.sameBut hs hcc⟩
  ·obtain ⟨e, n, ne, nf, d⟩ := I.pin p hp
   refine ⟨(hs.2 p.1 ?_).trans e, n, ne, nf, d⟩
   intro q
   rw [q, hoc] at e
   have q' : oc = p.2 := YO e
   exact d w' (by rw [<- q']; exact hocd)
theorem ZbY {M : Model} {A : Around} {E : Value -> Shared -> Prop} {i : Nat} {x : Str} {v : V} {u : Value} {Q : Unit -> Shared -> Prop} (I : Inv X pins σ H s) (hN : X.N.Nodup) (hi : X.N[i]? = some x) (hx : Loc X.env.scope x) (r : RelV v u)
  (h : ∀ s', Inv X pins (σ.set i (some v)) H s' -> Q () s') (hf : X.fn x = true \/ X.env.scope.names.lookup x = some .local := by first | exact .inl rfl | exact .inr rfl | assumption) : wpAny M A (storeName X.env x u) Q E s :=
 ZhJ I hN hi hx r (fun s' I' _ => h s' I') hf
theorem Inv.call' {s' : Shared} {ch : List Addr} (I : Inv X pins σ H s) (ho : s'.os = s.os) (u : Un (frs X.stack) ch H H' s.heap s'.heap) (hok : HOk X.prog X.w H' s'.heap) (hg : AllBare s'.gens)
  (hch : ∀ b ∈ ch, (b ∈ X.ex \/ X.s₀.heap.objs.size <= b) /\ b ≠ X.env.locals /\ (∀ x c, X.env.cells.lookup x = some c -> c ≠ b) /\ ∀ p ∈ X.pn ++ pins, p.1 ≠ b) : Inv X pins σ H' s' := by
 obtain ⟨h', g', d', t', o'⟩ := s'
 have e : o' = s.os := ho
 subst e
 exact I.call (g' := g') (t' := t') (d' := d') u hok hg hch
end
abbrev XK := Value -> Option Addr -> Hp -> Prop
abbrev St := List (Option V)
abbrev VK := V -> Hp -> Prop
abbrev TE := St -> Hp -> VK -> Prop
abbrev TT := St -> Hp -> (Bool -> Hp -> Prop) -> Prop
abbrev TA := St -> Hp -> (List V -> Hp -> Prop) -> Prop
structure Ends where
 nx : St -> Hp -> Prop
 rt : VK
 bk : St -> Hp -> Prop := fun _ _ => False
 ct : St -> Hp -> Prop := fun _ _ => False
abbrev TS := Ends -> St -> Hp -> Prop
def EP (X : Cx) (pins : List (Addr × Obj)) (σ : St) (Q : VK) (u : Value) (s' : Shared) : Prop := ∃ v H', Inv X pins σ H' s' /\ RelV v u /\ Q v H'
def TP (X : Cx) (pins : List (Addr × Obj)) (σ : St) (Q : Bool -> Hp -> Prop) (b : Bool) (s' : Shared) : Prop := ∃ H', Inv X pins σ H' s' /\ Q b H'
def AP (X : Cx) (pins : List (Addr × Obj)) (σ : St) (Q : List V -> Hp -> Prop) (us : List Value) (s' : Shared) : Prop := ∃ vs H', Inv X pins σ H' s' /\ Vals vs us /\ Q vs H'
def SP (X : Cx) (pins : List (Addr × Obj)) (D : Ends) (f : Flow) (s' : Shared) : Prop :=
 match f with
 | .next => ∃ σ' H', Inv X pins σ' H' s' /\ D.nx σ' H'
 | .brk => ∃ σ' H', Inv X pins σ' H' s' /\ D.bk σ' H'
 | .cont => ∃ σ' H', Inv X pins σ' H' s' /\ D.ct σ' H'
 | .ret u => ∃ v σ' H', Inv X pins σ' H' s' /\ RelV v u /\ D.rt v H'
def PE (X : Cx) (e : Expr) (t : TE) : Prop :=
 ∀ (pins : List (Addr × Obj)) (s : Shared) (σ : St) (H : Hp) (Q : VK), Inv X pins σ H s -> t σ H Q -> wpAny (model X.prog X.w) X.A (eval e X.env) (EP X pins σ Q) X.xe s
def PT (X : Cx) (e : Expr) (t : TT) : Prop :=
 ∀ (pins : List (Addr × Obj)) (s : Shared) (σ : St) (H : Hp) (Q : Bool -> Hp -> Prop), Inv X pins σ H s -> t σ H Q -> wpAny (model X.prog X.w) X.A (isTrue e X.env (eval e X.env)) (TP X pins σ Q) X.xe s
def PW (X : Cx) (e : Expr) (t : TT) : Prop :=
 ∀ (whole : Sem Value) (pins : List (Addr × Obj)) (s : Shared) (σ : St) (H : Hp) (Q : Bool -> Hp -> Prop), Inv X pins σ H s -> t σ H Q -> wpAny (model X.prog X.w) X.A (isTrue e X.env whole) (TP X pins σ Q) X.xe s
theorem PW.pt {X : Cx} {e : Expr} {t : TT} (h : PW X e t) : PT X e t := h _
def PA (X : Cx) (es : List Expr) (t : TA) : Prop :=
 ∀ (pos : Pos) (pins : List (Addr × Obj)) (s : Shared) (σ : St) (H : Hp) (Q : List V -> Hp -> Prop), Inv X pins σ H s -> t σ H Q -> wpAny (model X.prog X.w) X.A (spliced (backTo pos (starEach es X.env))) (AP X pins σ Q) X.xe s
def PS (X : Cx) (st : Stmt) (t : TS) : Prop :=
 ∀ (pins : List (Addr × Obj)) (s : Shared) (σ : St) (H : Hp) (D : Ends), Inv X pins σ H s -> t D σ H -> wpAny (model X.prog X.w) X.A (exec st X.env) (SP X pins D) X.xe s
def PSs (X : Cx) (st : List Stmt) (t : TS) : Prop :=
 ∀ (pins : List (Addr × Obj)) (s : Shared) (σ : St) (H : Hp) (D : Ends), Inv X pins σ H s -> t D σ H -> wpAny (model X.prog X.w) X.A (execs st X.env) (SP X pins D) X.xe s
theorem ZJ {α : Type} {t : Sem α} {Q Q' : α -> Shared -> Prop} {M : Model} {A : Around} {E : Value -> Shared -> Prop} {s : Shared} (h : wpAny M A t Q E s) (hQ : ∀ a s, Q a s -> Q' a s) : wpAny M A t Q' E s := Yu h hQ fun _ _ x => x
end L2
namespace L2
open PySem PySem.Spec PyProof.Rows
section
variable {X : Cx}
def ZmD (i : Nat) : TE := fun σ H Q => ∃ v, σ[i]? = some (some v) /\ Q v H
def tC (v : V) : TE := fun _ H Q => Q v H
theorem Zk9 {i : Nat} {x : Str} {pos : Pos} (hN : X.N[i]? = some x) (hv : Vis X.env.scope x) (hd : (x == ("__debug__" : Str)) = false := by decide) (hcd : (x == ("__classdict__" : Str)) = false := by decide) : PE X (.Name x pos) (ZmD i) := by
 intro pins s σ H Q I h
 obtain ⟨v, e, h⟩ := h
 obtain ⟨m, hn, hl⟩ := I.loc
 obtain ⟨u, r, l⟩ := hl i x v hN e hv
 have fin : EP X pins σ Q u s := ⟨v, H, I, r, h⟩
 rcases l with ⟨hk, hm⟩ | ⟨hk, c, hc, hcell⟩
 ·exact wpAny_Name (wpAny_loadName_local I.ok.kind hk hn hm fin) hd
 ·rcases hk with hk | hk
  ·exact wpAny_Name (wpAny_loadName_cell I.ok.kind hk hc hcell fin) hd
  ·exact wpAny_Name (wpAny_loadName_free I.ok.kind hk hc hcell fin hcd) hd
theorem Zn2 {i j pos} : PE X (.Constant (.int i) j pos) (tC (.int i)) := fun _ _ _ H _ I h => wpAny_Constant_int ⟨.int i, H, I.tok _, ⟨_, rfl⟩, h⟩
theorem ZpC {b j pos} : PE X (.Constant (.bool b) j pos) (tC (.bl b)) := fun _ _ _ H _ I h => Constant_bool ⟨.bl b, H, I, rfl, h⟩
theorem Znf {x j pos} : PE X (.Constant (.str x) j pos) (tC (.str x)) := fun _ _ _ H _ I h => Calls.Constant_str ⟨.str x, H, I.tok _, ⟨_, rfl⟩, h⟩
def Gl (X : Cx) (x : Str) : Prop := X.env.kindOf x = some .globalImplicit
theorem ZeO {E : Value -> Shared -> Prop} {pins : List (Addr × Obj)} {s : Shared} {σ : St} {H : Hp} {x : Str} {u : Value} {pos : Pos} {Q : Value -> Shared -> Prop} (I : Inv X pins σ H s) (hg : Gl X x) (hm : X.mg x = some u) (h : Q u s)
  (hd : (x == ("__debug__" : Str)) = false := by decide) : wpAny (model X.prog X.w) X.A (eval (.Name x pos) X.env) Q E s :=
 Calls.Name_function_global I.ok.kind hg (Calls.loadGlobal_global (by rw [I.ok.glob]; exact I.mod.glob.keeps I.bk) hm h) hd
theorem Jm {E : Value -> Shared -> Prop} {pins : List (Addr × Obj)} {s : Shared} {σ : St} {H : Hp} {x : Str} {u : Value} {pos : Pos} {Q : Value -> Shared -> Prop} (I : Inv X pins σ H s) (hg : Gl X x) (hm : X.mg x = none) (hv : bootBuiltins x = some u) (h : Q u s)
  (hn : x ≠ "__name__" := by decide) (hd : (x == ("__debug__" : Str)) = false := by decide) : wpAny (model X.prog X.w) X.A (eval (.Name x pos) X.env) Q E s := by
 obtain ⟨mb, h1, h2⟩ := I.mod.blt
 exact Calls.Name_function_global I.ok.kind hg (Calls.loadGlobal_builtin (by rw [I.ok.glob]; exact I.mod.glob.keeps I.bk) hm (by rw [I.ok.blt]; exact h1.keeps I.bk) ((h2 x hn).trans hv) h) hd
theorem Zm0 {x : Str} {v : V} {u : Value} {pos : Pos} (hg : Gl X x) (hm : X.mg x = some u) (r : RelV v u) (hd : (x == ("__debug__" : Str)) = false := by decide) : PE X (.Name x pos) (tC v) :=
 fun _ _ _ H _ I h => ZeO I hg hm ⟨v, H, I, r, h⟩ hd
theorem Zmk {x : Str} {v : V} {u : Value} {pos : Pos} (hg : Gl X x) (hm : X.mg x = none) (hv : bootBuiltins x = some u) (r : RelV v u) (hn : x ≠ "__name__" := by decide) (hd : (x == ("__debug__" : Str)) = false := by decide) : PE X (.Name x pos) (tC v) :=
 fun _ _ _ H _ I h => Jm I hg hm hv ⟨v, H, I, r, h⟩ hn hd
variable {a b : Expr} {ta tb : TE} {pos : Pos}
def PC (X : Cx) (op : CmpOp) (a b : Expr) (t : TE) : Prop :=
 ∀ (pins : List (Addr × Obj)) (s : Shared) (σ : St) (H : Hp) (Q : VK), Inv X pins σ H s -> t σ H Q ->
  wpAny (model X.prog X.w) X.A (eval a X.env) (fun v s₁ => wpAny (model X.prog X.w) X.A (eval b X.env) (fun u s₂ => wpAny (model X.prog X.w) X.A (compareOp op v u) (EP X pins σ Q) X.xe s₂) X.xe s₁) X.xe s
theorem Zky (b : Expr) {op : CmpOp} (h : op ≠ .In) (h2 : op ≠ .NotIn) : behindInMarks op b = false := by
 have e1 : (op == CmpOp.In) = false := by cases op <;> first | rfl | exact absurd rfl h
 have e2 : (op == CmpOp.NotIn) = false := by cases op <;> first | rfl | exact absurd rfl h2
 cases b <;> simp [behindInMarks, e1, e2]
def tB (t : TE) : TT := fun σ H Q => t σ H fun x H1 => ∃ c, x = .bl c /\ Q c H1
theorem Zlm {op : CmpOp} {t : TE} (h : PC X op a b t) (h1 : behindInMarks op b = false := by first | exact Zky _ (by decide) (by decide) | rfl) : PT X (.Compare a [op] [b] pos) (tB t) := by
 intro pins s σ H Q I hw
 refine wpAny_isTrue_Compare1 (ZJ (h pins s σ H _ I hw) fun v s1 h1 => ZJ h1 fun u s2 h2 => ZJ h2 fun c s3 ⟨x, H1, I1, r1, q1⟩ => ?_) h1
 obtain ⟨d, rfl, q⟩ := q1
 cases r1
 exact Vy ⟨H1, I1, q⟩
theorem ZoQ {e : Expr} {t : TE} (h : PE X e t) (he : ∀ whole, isTrue e X.env whole = (do let v <- whole; standAt e.pos; holding [v] (truthy v)) := by intro _; rfl) : PT X e (tB t) := by
 intro pins s σ H Q I hw
 refine isTrue_plain (ZJ (h pins s σ H _ I hw) fun v s1 ⟨x, H1, I1, r1, q1⟩ => ?_) (he _)
 obtain ⟨d, rfl, q⟩ := q1
 cases r1
 exact Vy ⟨H1, I1, q⟩
variable {tA tB' : TT} {rest : List Expr}
def Zqa (t u : TT) : TT := fun σ H Q => t σ H fun c H1 => if c = true then u σ H1 Q else Q false H1
def tOr (t u : TT) : TT := fun σ H Q => t σ H fun c H1 => if c = true then Q true H1 else u σ H1 Q
def Zpi (t : TT) : TT := fun σ H Q => t σ H fun c H1 => Q (!c) H1
theorem ZnI (ha : PT X a tA) : PW X (.BoolOp .Or [a] pos) tA := by
 intro wh pins s σ H Q I h
 refine isTrue_or (ZJ (ha pins s σ H Q I h) fun c s1 e => ?_)
 cases c with
 | false => exact isTrue_or_nil e
 | true => exact e
theorem ZpX (ha : PT X a tA) (hb : PW X (.BoolOp .Or (b :: rest) pos) tB') : PW X (.BoolOp .Or (a :: b :: rest) pos) (tOr tA tB') := by
 intro wh pins s σ H Q I h
 refine isTrue_or (ZJ (ha pins s σ H _ I h) fun c s1 ⟨H1, I1, q1⟩ => ?_)
 cases c with
 | true => exact ⟨H1, I1, q1⟩
 | false => exact hb wh pins s1 σ H1 Q I1 q1
theorem ZoZ (ha : PT X a tA) : PT X (.UnaryOp .Not a pos) (Zpi tA) := by
 intro pins s σ H Q I h
 exact isTrue_not (ha pins s σ H (fun c H1 => Q (!c) H1) I h)
def Zjp (ta tb : TE) : TE := fun σ H Q => ta σ H fun x H1 => ∃ c, x = .bl c /\ if c = true then tb σ H1 Q else Q (.bl false) H1
def Zqm (ta tb : TE) : TE := fun σ H Q => ta σ H fun x H1 => ∃ c, x = .bl c /\ if c = true then Q (.bl true) H1 else tb σ H1 Q
def ZjE (ta : TE) : TE := fun σ H Q => ta σ H fun x H1 => ∃ c, x = .bl c /\ Q (.bl (!c)) H1
theorem ZnY {op} {t : TE} (h : PE X a t) : PE X (.BoolOp op [a] pos) t := fun pins s σ H Q I hw => BoolOp_one (h pins s σ H Q I hw)
theorem Zn5 (ha : PE X a ta) (hb : PE X (.BoolOp .And (b :: rest) pos) tb) : PE X (.BoolOp .And (a :: b :: rest) pos) (Zjp ta tb) := by
 intro pins s σ H Q I h
 refine BoolOp_and (ZJ (ha pins s σ H _ I h) fun v s1 ⟨x, H1, I1, r1, q1⟩ => ?_)
 obtain ⟨c, rfl, q1⟩ := q1
 cases r1
 refine Vy ?_
 cases c with
 | true => exact hb pins s1 σ H1 Q I1 q1
 | false => exact ⟨.bl false, H1, I1, rfl, q1⟩
theorem Znp (ha : PE X a ta) : PE X (.UnaryOp .Not a pos) (ZjE ta) := by
 intro pins s σ H Q I h
 refine UnaryOp_ (ZJ (ha pins s σ H _ I h) fun v s1 ⟨x, H1, I1, r1, q1⟩ => ?_)
 obtain ⟨c, rfl, q1⟩ := q1
 cases r1
 exact not_of (Vy ⟨.bl (!c), H1, I1, rfl, q1⟩)
def tIf (t : TT) (ta tb : TE) : TE := fun σ H Q => t σ H fun c H1 => if c = true then ta σ H1 Q else tb σ H1 Q
theorem Zkk {c : Expr} (hc : PT X c tA) (ha : PE X a ta) (hb : PE X b tb) : PE X (.IfExp c a b pos) (tIf tA ta tb) := by
 intro pins s σ H Q I h
 refine wpAny_IfExp (ZJ (hc pins s σ H _ I h) fun d s1 ⟨H1, I1, q1⟩ => ?_)
 cases d with
 | true => exact ha pins s1 σ H1 Q I1 q1
 | false => exact hb pins s1 σ H1 Q I1 q1
end
end L2
namespace L2
open PySem PySem.Spec PyProof.Rows
def SqL (K : PySem.W.Frag) (H : Hp) (a : Addr) (xs : List V) : Prop :=
 Rd H a (.lst xs) \/
  ∃ (o : Obj) (its : Array Value) (n : Nat), K.lookup a = some o /\ o.cls = .type "list" /\ o.dict = none /\ o.data = .seq its n /\ its.size <= sizeLine /\ Vals xs its.toList
def SqT (K : PySem.W.Frag) (H : Hp) (a : Addr) (xs : List V) : Prop :=
 Rd H a (.tup xs) \/
  ∃ (o : Obj) (its : Array Value) (n : Nat), K.lookup a = some o /\ o.cls = .type "tuple" /\ o.data = .seq its n /\ its.size <= sizeLine /\ Vals xs its.toList
def Zqz : Value -> Option V
 | .none => some .non
 | .bool b => some (.bl b)
 | .int i _ => some (.int i)
 | .str x _ => some (.str x)
 | .bytes b _ => some (.byt b)
 | .float b _ => some (.flt b)
 | .ref a => some (.ref a)
 | .type n => some (.ty n)
 | _ => none
theorem RelV.abs {x : V} {u : Value} (r : RelV x u) : Zqz u = some x := by
 cases x with
 | non => cases r; rfl
 | bl _ => cases r; rfl
 | int _ => obtain ⟨t, rfl⟩ := r; rfl
 | str _ => obtain ⟨t, rfl⟩ := r; rfl
 | byt _ => obtain ⟨t, rfl⟩ := r; rfl
 | flt _ => obtain ⟨t, rfl⟩ := r; rfl
 | ref _ => cases r; rfl
 | ty _ => cases r; rfl
theorem RelV.inj {x y : V} {u : Value} (r : RelV x u) (q : RelV y u) : x = y := YO (r.abs.symm.trans q.abs)
theorem Vals.inj : ∀ {xs ys : List V} {us : List Value}, Vals xs us -> Vals ys us -> xs = ys
 | _, _, _, .nil, .nil => rfl
 | _, _, _, .cons r t, .cons r' t' => by rw [r.inj r', Vals.inj t t']
section
variable {X : Cx} {pins : List (Addr × Obj)} {σ : St} {H : Hp} {s : Shared} {a : Addr} {xs ys : List V}
theorem SqL.of {K : PySem.W.Frag} (h : H a = some (.lst xs)) : SqL K H a xs := .inl (.inl h)
theorem SqT.of {K : PySem.W.Frag} (h : H a = some (.tup xs)) : SqT K H a xs := .inl (.inl h)
theorem Inv.list (I : Inv X pins σ H s) (h : SqL X.K H a xs) : ∃ its : List Value, Vals xs its /\ PlainL s.heap a its.toArray /\ xs.length <= sizeLine := by
 rcases h with h | ⟨o, its, n, hk, hc, hd, hs, hz, r⟩
 ·obtain ⟨z, its, n, r, e⟩ := h.ok I.hok
  exact ⟨its, r, ⟨_, n, e, rfl, rfl, rfl⟩, z⟩
 ·refine ⟨its.toList, r, ⟨o, n, I.kIn a o hk, hc, hd, by simpa using hs⟩, ?_⟩
  have e := r.length
  simp only [Array.length_toList] at e
  omega
theorem Inv.tuple (I : Inv X pins σ H s) (h : SqT X.K H a xs) : ∃ its : List Value, Vals xs its /\ IsTup s.heap a its.toArray /\ xs.length <= sizeLine := by
 rcases h with h | ⟨o, its, n, hk, hc, hs, hz, r⟩
 ·obtain ⟨z, its, r, p⟩ := h.ok I.hok
  exact ⟨its, r, p, z⟩
 ·refine ⟨its.toList, r, ⟨o, I.kIn a o hk, hc, n, by simpa using hs⟩, ?_⟩
  have e := r.length
  simp only [Array.length_toList] at e
  omega
theorem Inv.list_inj (I : Inv X pins σ H s) (h : SqL X.K H a xs) (h' : SqL X.K H a ys) : xs = ys := by
 obtain ⟨its, r, ⟨o, n, e, _, _, d⟩, _⟩ := I.list h
 obtain ⟨its', r', ⟨o', n', e', _, _, d'⟩, _⟩ := I.list h'
 rw [e] at e'; cases e'
 rw [d] at d'
 injection d' with d1 _
 have : its = its' := by simpa using congrArg Array.toList d1
 subst this
 exact r.inj r'
theorem Inv.tuple_inj (I : Inv X pins σ H s) (h : SqT X.K H a xs) (h' : SqT X.K H a ys) : xs = ys := by
 obtain ⟨its, r, ⟨o, e, _, n, d⟩, _⟩ := I.tuple h
 obtain ⟨its', r', ⟨o', e', _, n', d'⟩, _⟩ := I.tuple h'
 rw [e] at e'; cases e'
 rw [d] at d'
 injection d' with d1 _
 have : its = its' := by simpa using congrArg Array.toList d1
 subst this
 exact r.inj r'
end
abbrev Cx.wish (X : Cx) (E : Value -> Shared -> Prop) : Cx := { X with xe := E }
abbrev Cx.nox (X : Cx) : Cx := X.wish fun _ _ => False
theorem Cx.Ok.wish {X : Cx} (ok : X.Ok) (E : Value -> Shared -> Prop) : (X.wish E).Ok :=
 ⟨ok.mod, ok.kind, ok.glob, ok.blt, ok.above, ok.inj, ok.has, ok.cab, ok.hd, ok.frames, ok.stk, ok.exf, ok.bs, ok.bsz, ok.noex, ok.exfs, ok.funs, ok.frf⟩
theorem Cx.Ok.unwish {X : Cx} {E : Value -> Shared -> Prop} (ok : (X.wish E).Ok) : X.Ok :=
 ⟨ok.mod, ok.kind, ok.glob, ok.blt, ok.above, ok.inj, ok.has, ok.cab, ok.hd, ok.frames, ok.stk, ok.exf, ok.bs, ok.bsz, ok.noex, ok.exfs, ok.funs, ok.frf⟩
section
variable {X : Cx} {pins : List (Addr × Obj)} {σ : St} {H : Hp} {s : Shared} {E : Value -> Shared -> Prop}
theorem Inv.wish (I : Inv X pins σ H s) (E : Value -> Shared -> Prop) : Inv (X.wish E) pins σ H s := ⟨I.ok.wish E, I.os, I.bare, I.base, I.loc, I.cell, I.free, I.freeC, I.pin, I.hok, I.len⟩
theorem Inv.unwish (I : Inv (X.wish E) pins σ H s) : Inv X pins σ H s := ⟨I.ok.unwish, I.os, I.bare, I.base, I.loc, I.cell, I.free, I.freeC, I.pin, I.hok, I.len⟩
theorem SP.unwish {D : Ends} {f : Flow} {s' : Shared} (h : SP (X.wish E) pins D f s') : SP X pins D f s' := by
 cases f with
 | next => obtain ⟨σ', H', I, q⟩ := h; exact ⟨σ', H', I.unwish, q⟩
 | brk => obtain ⟨σ', H', I, q⟩ := h; exact ⟨σ', H', I.unwish, q⟩
 | cont => obtain ⟨σ', H', I, q⟩ := h; exact ⟨σ', H', I.unwish, q⟩
 | ret u => obtain ⟨v, σ', H', I, r, q⟩ := h; exact ⟨v, σ', H', I.unwish, r, q⟩
theorem PE.nox {e : Expr} {t : TE} (h : PE X.nox e t) : PE X e t := fun pins s σ H Q I hw =>
 Yu (h pins s σ H Q (I.wish _) hw) (fun _ _ ⟨v, H', I', r, q⟩ => ⟨v, H', I'.unwish, r, q⟩) fun _ _ z => False.elim z
theorem PT.nox {e : Expr} {t : TT} (h : PT X.nox e t) : PT X e t := fun pins s σ H Q I hw =>
 Yu (h pins s σ H Q (I.wish _) hw) (fun _ _ ⟨H', I', q⟩ => ⟨H', I'.unwish, q⟩) fun _ _ z => False.elim z
theorem PSs.nox {st : List Stmt} {t : TS} (h : PSs X.nox st t) : PSs X st t := fun pins s σ H D I hw =>
 Yu (h pins s σ H D (I.wish _) hw) (fun _ _ q => q.unwish) fun _ _ z => False.elim z
end
section
variable {X : Cx} {st : Stmt} {rest : List Stmt} {t u : TS} {e : Expr} {te : TE} {pos : Pos}
def Zjs : TS := fun D σ H => D.nx σ H
def Zo2 (t u : TS) : TS := fun D σ H => t { D with nx := u D } σ H
theorem ZmX : PSs X [] Zjs := fun _ _ σ H _ I h => wpAny_execs_nil ⟨σ, H, I, h⟩
theorem ZjO (h1 : PS X st t) (h2 : PSs X rest u) : PSs X (st :: rest) (Zo2 t u) := by
 intro pins s σ H D I h
 refine wpAny_execs_cons (ZJ (h1 pins s σ H { D with nx := u D } I h) fun f s1 q => ?_)
 cases f with
 | next =>
  obtain ⟨σ', H', I', q⟩ := q
  exact h2 pins s1 σ' H' D I' q
 | ret v => exact q
 | brk => exact q
 | cont => exact q
theorem Zl2 (h1 : PS X st t) : PSs X [st] t := by
 intro pins s σ H D I h
 refine wpAny_execs_cons (ZJ (h1 pins s σ H D I h) fun f s1 q => ?_)
 cases f with
 | next => exact wpAny_execs_nil q
 | ret v => exact q
 | brk => exact q
 | cont => exact q
theorem Inv.quiet {pins : List (Addr × Obj)} {σ : St} {H : Hp} {s : Shared} (I : Inv X pins σ H s) : interactive X.env = false := by simp [interactive, I.ok.kind]
def Zkl (te : TE) : TS := fun D σ H => te σ H fun _ H1 => D.nx σ H1
theorem Zm3 (he : PE X e te) (hs : swapsWith e none pos.line X.env = pure false := by rfl) : PS X (.Expr e pos) (Zkl te) := by
 intro pins s σ H D I h
 exact wpAny_Expr_any (ZJ (he pins s σ H _ I h) fun v s1 ⟨x, H1, I1, r1, q1⟩ => ⟨σ, H1, I1, q1⟩) I.quiet hs
def Zpb (te : TE) : TS := fun D σ H => te σ H D.rt
theorem Znn (he : PE X e te) : PS X (.Return (some e) pos) (Zpb te) := by
 intro pins s σ H D I h
 exact wpAny_Return_some (ZJ (he pins s σ H _ I h) fun v s1 ⟨x, H1, I1, r1, q1⟩ => ⟨x, σ, H1, I1, r1, q1⟩)
def ZnH : TS := fun D _ H => D.rt .non H
def ZoT (c : TT) (t u : TS) : TS := fun D σ H => c σ H fun b H1 => if b = true then t D σ H1 else u D σ H1
theorem Zpq {c : Expr} {a b : List Stmt} {tc : TT} (hc : PT X c tc) (ha : PSs X a t) (hb : PSs X b u) : PS X (.If c a b pos) (ZoT tc t u) := by
 intro pins s σ H D I h
 refine wpAny_If (ZJ (hc pins s σ H _ I h) fun d s1 ⟨H1, I1, q1⟩ => ?_)
 cases d with
 | true => exact ha pins s1 σ H1 D I1 q1
 | false => exact hb pins s1 σ H1 D I1 q1
def Zly : TS := fun _ _ _ => False
theorem Zj5 : PS X st Zly := fun _ _ _ _ _ _ h => h.elim
end
abbrev TG := V -> St -> Hp -> (St -> Hp -> Prop) -> Prop
abbrev TGs := List V -> St -> Hp -> (St -> Hp -> Prop) -> Prop
def PG (X : Cx) (target : Expr) (t : TG) : Prop :=
 ∀ (pins : List (Addr × Obj)) (s : Shared) (σ : St) (H : Hp) (v : V) (u : Value) (Q : St -> Hp -> Prop), Inv X pins σ H s -> RelV v u -> t v σ H Q ->
  wpAny (model X.prog X.w) X.A (assign target X.env u) (fun _ s' => ∃ σ' H', Inv X pins σ' H' s' /\ Q σ' H') X.xe s
def PGs (X : Cx) (ts : List Expr) (t : TGs) : Prop :=
 ∀ (pins : List (Addr × Obj)) (s : Shared) (σ : St) (H : Hp) (vs : List V) (us : List Value) (Q : St -> Hp -> Prop), Inv X pins σ H s -> Vals vs us -> t vs σ H Q ->
  wpAny (model X.prog X.w) X.A (assignInOrder ((assignEach ts X.env).map (·.2)) us) (fun _ s' => ∃ σ' H', Inv X pins σ' H' s' /\ Q σ' H') X.xe s
abbrev Zpy := V -> V -> V -> Hp -> (Hp -> Prop) -> Prop
def Zqe (X : Cx) (t : Zpy) : Prop :=
 ∀ (pins : List (Addr × Obj)) (s : Shared) (σ : St) (H : Hp) (o i v : V) (ov iv u : Value) (Q : Hp -> Prop), Inv X pins σ H s -> RelV o ov -> RelV i iv -> RelV v u -> t o i v H Q ->
  wpAny (model X.prog X.w) X.A (setItem ov iv u) (fun _ s' => ∃ H', Inv X pins σ H' s' /\ Q H') X.xe s
section
variable {X : Cx} {pos : Pos}
def JA (i : Nat) : TG := fun v σ H Q => Q (σ.set i (some v)) H
theorem ZlN {i : Nat} {x : Str} (hN : X.N.Nodup) (hi : X.N[i]? = some x) (hx : Loc X.env.scope x) (hf : X.fn x = true \/ X.env.scope.names.lookup x = some .local := by first | exact .inl rfl | exact .inr rfl | assumption) : PG X (.Name x pos) (JA i) := by
 intro pins s σ H v u Q I r h
 exact wpAny_assign_Name (ZbY I hN hi hx r (fun s' I' => ⟨_, H, I', h⟩) hf)
def Zo7 : TGs := fun vs σ H Q => vs = [] /\ Q σ H
def ZkT (t : TG) (u : TGs) : TGs := fun vs σ H Q => ∃ v r, vs = v :: r /\ t v σ H fun σ' H' => u r σ' H' Q
theorem ZmN : PGs X [] Zo7 := by
 intro pins s σ H vs us Q I r h
 obtain ⟨e, h⟩ := h
 subst e
 cases r
 exact assignInOrder_nil ⟨σ, H, I, h⟩
theorem Zjy {e : Expr} {es : List Expr} {t : TG} {u : TGs} (h1 : PG X e t) (h2 : PGs X es u)
  (hs : (assignEach (e :: es) X.env).map (·.2) = assign e X.env :: (assignEach es X.env).map (·.2) := by rfl) : PGs X (e :: es) (ZkT t u) := by
 intro pins s σ H vs us Q I r h
 obtain ⟨v, vr, e1, h⟩ := h
 subst e1
 cases r with
 | cons r rr =>
  rw [hs]
  refine assignInOrder_cons (ZJ (h1 pins s σ H _ _ _ I r h) fun _ s1 ⟨σ1, H1, I1, q1⟩ => ?_)
  exact h2 pins s1 σ1 H1 _ _ Q I1 rr q1
def ZqH (K : PySem.W.Frag) (n : Nat) (t : TGs) : TG := fun v σ H Q => ∃ a xs, v = .ref a /\ SqT K H a xs /\ xs.length = n /\ t xs σ H Q
theorem Zou {es : List Expr} {k : Nat} {t : TGs} {n : Nat} (hc : X.calm = true) (h : PGs X es t)
  (hn : (assignEach es X.env).length = n := by rfl) (hst : (assignEach es X.env).findIdx? (·.1) = none := by rfl) : PG X (.Tuple es k pos) (ZqH X.K n t) := by
 intro pins s σ H v u Q I r hw
 obtain ⟨a, xs, e1, hq, hl, hw⟩ := hw
 subst e1
 cases r
 obtain ⟨its, rv, ht, hz⟩ := I.tuple hq
 refine assign_Tuple_tuple (I.ok.hd hc) ht (by simp [hn, <- hl, rv.length]) hst fun h' hx => ?_
 have I1 : Inv X pins σ H { s with heap := h' } := I.kept (t' := s.toks) fun b o e => hx b o (Yk (Ye e)) e
 exact h pins _ σ H xs _ Q I1 (by simpa using rv) hw
def Zo4 (to ti : TE) (t : Zpy) : TG := fun v σ H Q => to σ H fun o H1 => ti σ H1 fun i H2 => t o i v H2 fun H3 => Q σ H3
theorem Zom {o i : Expr} {to ti : TE} {t : Zpy} (ho : PE X o to) (hi : PE X i ti) (hs : Zqe X t)
  (ha : ∀ v, assign (.Subscript o i pos) X.env v = (do
   let ov <- holding [v] (eval o X.env)
   let iv <- holding [v, ov] (eval i X.env)
   standAt pos
   holding [v, ov, iv] (setItem ov iv v)
   release [v, ov, iv] []) := by intro _; rfl) : PG X (.Subscript o i pos) (Zo4 to ti t) := by
 intro pins s σ H v u Q I r h
 rw [ha]
 refine Ya (YJ (ZJ (ho pins s σ H _ I h) fun ov s1 ⟨x, H1, I1, r1, q1⟩ => ?_))
 refine Ya (YJ (ZJ (hi pins s1 σ H1 _ I1 q1) fun iv s2 ⟨y, H2, I2, r2, q2⟩ => ?_))
 refine Ya (V9 (Ya (YJ (ZJ (hs pins s2 σ H2 x y v ov iv u _ I2 r1 r2 r q2) fun _ s3 ⟨H3, I3, q3⟩ => ?_))))
 exact wpAny_release ⟨σ, H3, I3, q3⟩
def Zi9 (te : TE) (g : TG) : TS := fun D σ H => te σ H fun x H1 => g x σ H1 D.nx
theorem ZoC {tg e : Expr} {te : TE} {g : TG} (he : PE X e te) (hg : PG X tg g) (hs : swapsWithSole [tg] e pos.line X.env = pure false := by rfl) (hw : swappedStores [tg] e X.env = pure none := by rfl)
  (h1 : (assignEach [tg] X.env).map (·.2) = [assign tg X.env] := by rfl) : PS X (.Assign [tg] e pos) (Zi9 te g) := by
 intro pins s σ H D I h
 refine wpAny_Assign_stores (ZJ (he pins s σ H _ I h) fun v s1 ⟨x, H1, I1, r1, q1⟩ => ?_) hs hw
 rw [h1]
 exact ZJ (hg pins s1 σ H1 x v _ I1 r1 q1) fun _ s2 q => q
theorem Zod {i : Nat} {x : Str} {e : Expr} {te : TE} {pos' : Pos} (hN : X.N.Nodup) (hi : X.N[i]? = some x) (hx : Loc X.env.scope x) (he : PE X e te) (hs : swapsWith e (some (.Name x pos')) pos.line X.env = pure false := by rfl) (hf : X.fn x = true \/ X.env.scope.names.lookup x = some .local := by first | exact .inl rfl | exact .inr rfl | assumption) :
  PS X (.Assign [.Name x pos'] e pos) (Zi9 te (JA i)) := by
 intro pins s σ H D I h
 refine wpAny_Assign_Name (ZJ (he pins s σ H _ I h) fun v s1 ⟨y, H1, I1, r1, q1⟩ => ?_) hs
 exact ZbY I1 hN hi hx r1 (fun s2 I2 => ⟨_, H1, I2, q1⟩) hf
def Zph (i j : Nat) (ta : TA) : TS := fun D σ H => ta σ H fun vs H1 => ∃ v w, vs = [v, w] /\ D.nx ((σ.set i (some v)).set j (some w)) H1
theorem ZoA {i j : Nat} {x y : Str} {a b : Expr} {ta : TA} {px py pt : Pos} {kt k2 pt2} (hc : X.calm = true) (hN : X.N.Nodup) (hi : X.N[i]? = some x) (hj : X.N[j]? = some y) (hij : i ≠ j)
  (hx : X.env.scope.names.lookup x = some .local) (hy : X.env.scope.names.lookup y = some .local) (ha : PA X [a, b] ta)
  (hw : swappedStores [.Tuple [.Name x px, .Name y py] kt pt] (.Tuple [a, b] k2 pt2) X.env = pure (some [x, y]))
  (hs : swapsWithSole [.Tuple [.Name x px, .Name y py] kt pt] (.Tuple [a, b] k2 pt2) pos.line X.env = pure false := by rfl) :
  PS X (.Assign [.Tuple [.Name x px, .Name y py] kt pt] (.Tuple [a, b] k2 pt2) pos) (Zph i j ta) := by
 intro pins s σ H D I h
 rw [exec_Assign_arm]
 refine Ya (V9 ?_)
 rw [hs]
 refine Ya (Yb ?_)
 rw [if_neg (by decide)]
 refine Ya (Tuple_ (ZJ (ha _ pins s σ H _ I h) fun us s1 ⟨vs, H1, I1, r1, q1⟩ => ?_))
 obtain ⟨v, w, e1, q1⟩ := q1
 subst e1
 obtain ⟨u1, u2, rfl, rv, rw'⟩ : ∃ u1 u2, us = [u1, u2] /\ RelV v u1 /\ RelV w u2 := by
  cases r1 with
  | cons p q =>
   cases q with
   | cons p' q' =>
    cases q'
    exact ⟨_, _, rfl, p, p'⟩
 refine YT ?_ (by show 2 <= sizeLine; decide)
 have I2 : Inv X pins σ H1 { s1 with heap := s1.heap.push { cls := .type "tuple", data := .seq [u1, u2].toArray } } := I1.kept (t' := s1.toks) fun b o e => Yf _ e
 rw [hw]
 refine Ya (Yb ?_)
 show wpAny (model X.prog X.w) X.A (do rule "assign.swapped-stores"; let items <- unpackItems (.ref s1.heap.objs.size) 2 none; assignInOrder [fun v => bindName X.env y v, fun v => bindName X.env x v] items.reverse; pure Flow.next) _ _ _
 refine Ya (Vs (Ya (unpackItems_tuple (items := #[u1, u2]) (I.ok.hd hc) (IsTup.new s1.heap _) fun h' hx' => ?_)))
 have I3 := I2.kept (h' := h') (t' := s1.toks) fun b o e => hx' b o (Yk (Ye e)) e
 show wpAny _ _ (assignInOrder [fun v => bindName X.env y v, fun v => bindName X.env x v] [u2, u1] >>= fun _ => pure Flow.next) _ _ _
 refine Ya (assignInOrder_cons (wpAny_bindName (ZbY I3 hN hj (.inl hy) rw' (fun s2 I4 => ?_) (.inr hy))))
 refine assignInOrder_cons (wpAny_bindName (ZbY I4 hN hi (.inl hx) rv (fun s3 I5 => assignInOrder_nil (Yb ?_)) (.inr hx)))
 rw [List.set_comm _ _ (Ne.symm hij)] at I5
 exact ⟨_, H1, I5, q1⟩
end
section
variable {X : Cx} {pos : Pos}
def ZhM (c : TT) (tb : TS) : TS := fun D σ H => ∃ W : Nat -> St -> Hp -> Prop, (∃ m, W m σ H) /\ ∀ m σ H, W m σ H ->
 c σ H fun b H1 => if b = true then ∃ N : St -> Hp -> Prop, (∀ σ' H', N σ' H' -> ∃ m', m' < m /\ W m' σ' H') /\ tb { D with nx := N, ct := N, bk := D.nx } σ H1 else D.nx σ H1
theorem Zjv {c : Expr} {body : List Stmt} {tc : TT} {tb : TS} (hp : PassesOwn (model X.prog X.w) X.A X.env X.xe) (hc : PT X c tc) (hb : PSs X body tb) : PS X (.While c body [] pos) (ZhM tc tb) := by
 intro pins s σ H D I h
 obtain ⟨W, ⟨m0, w0⟩, turn⟩ := h
 refine wpAny_While (codeAny_whileLoop (fun n s' => ∃ σ' H', Inv X pins σ' H' s' /\ W n σ' H') ?_ m0 ⟨σ, H, I, w0⟩)
 rintro n s1 ⟨σ1, H1, I1, w1⟩
 refine VC hp (ZJ (hc pins s1 σ1 H1 _ I1 (turn n σ1 H1 w1)) fun b s2 ⟨H2, I2, q2⟩ => ?_)
 cases b with
 | true =>
  obtain ⟨N, hN, q2⟩ := q2
  rw [if_pos rfl]
  refine VC hp (ZJ (hb pins s2 σ1 H2 _ I2 q2) fun f s3 q3 => ?_)
  cases f with
  | next =>
   obtain ⟨σ3, H3, I3, n3⟩ := q3
   obtain ⟨m', hm, w3⟩ := hN σ3 H3 n3
   exact ⟨m', hm, σ3, H3, I3, w3⟩
  | cont =>
   obtain ⟨σ3, H3, I3, n3⟩ := q3
   obtain ⟨m', hm, w3⟩ := hN σ3 H3 n3
   exact ⟨m', hm, σ3, H3, I3, w3⟩
  | brk => exact q3
  | ret v => exact q3
 | false =>
  rw [if_neg Yz]
  exact wpAny_execs_nil ⟨σ1, H2, I2, q2⟩
end
structure It where
 go : Nat -> Hp -> Prop
 yld : Nat -> Hp -> V -> Hp -> Prop
 stop : Nat -> Hp -> Prop
def Jy (X : Cx) (pins : List (Addr × Obj)) (H : Hp) (b : Addr) : Prop :=
 H b = none /\ b ≠ X.env.locals /\ b ∉ X.fs /\ (b ∈ X.ex \/ X.s₀.heap.objs.size <= b) /\ (∀ x c, X.env.cells.lookup x = some c -> c ≠ b) /\ ∀ p ∈ X.pn ++ pins, p.1 ≠ b
theorem Inv.fpOk {X : Cx} {pins : List (Addr × Obj)} {σ : St} {H H' : Hp} {s : Shared} {b : Addr} (I : Inv X pins σ H s) (hb : s.heap.objs.size <= b) (hn : H' b = none) : Jy X pins H' b := by
 refine ⟨hn, Vl (Yt I.lt hb), I.nofs hb, .inr (Yj I.sz hb), fun x c e z => ?_, fun p hp z => ?_⟩
 ·obtain ⟨v, q⟩ := I.cell x c e
  exact absurd (Yt q.lt (by rw [z]; exact hb)) (YR _)
 ·exact absurd (Yt (Ye (I.pin p hp).1) (by rw [z]; exact hb)) (YR _)
structure Turn (P : Program) (w : World) (K : PySem.W.Frag) (tg : Expr) (J : It) (fp : List Addr) (it : Addr) (tn : Nat -> Heap -> Prop) : Prop where
 mem : it ∈ fp
 obj : ∀ i h, tn i h -> ∀ b ∈ fp, ∃ o, h.get? b = some o /\ ∀ v, o.data ≠ .cell v
 keep : ∀ i h h', tn i h -> (∀ b ∈ fp, ∀ o, h.get? b = some o -> h'.get? b = some o) -> tn i h'
 item : ∀ (X : Cx), X.prog = P -> X.w = w -> X.K = K -> X.calm = true -> ∀ (i : Nat) (pins : List (Addr × Obj)) (s : Shared) (σ : St) (H : Hp) (E : Value -> Shared -> Prop), Inv X pins σ H s -> (∀ b ∈ fp, Jy X pins H b) -> tn i s.heap -> J.go i H ->
  wpAny (model P w) X.A (pyNext (.ref it)) (fun r s1 => ∃ u, r = some u /\
   wpAny (model P w) X.A (letOwnedTupleGo tg (.ref it) u) (fun _ s2 => ∃ x H', Inv X pins σ H' s2 /\ RelV x u /\ J.yld i H x H' /\ tn (i + 1) s2.heap /\ ∀ b ∈ fp, H' b = none) E s1) E s
 done : ∀ (X : Cx), X.prog = P -> X.w = w -> X.K = K -> X.calm = true -> ∀ (i : Nat) (pins : List (Addr × Obj)) (s : Shared) (σ : St) (H : Hp) (E : Value -> Shared -> Prop), Inv X pins σ H s -> (∀ b ∈ fp, Jy X pins H b) -> tn i s.heap -> J.stop i H ->
  wpAny (model P w) X.A (pyNext (.ref it)) (fun r s1 => r = none /\ Inv X pins σ H s1) E s
 self : ∀ (A : Around) (i : Nat) (s : Shared) (Q : Value -> Shared -> Prop) (E : Value -> Shared -> Prop), tn i s.heap -> Q (.ref it) s -> wpAny (model P w) A (pyIter (.ref it)) Q E s
abbrev TI := St -> Hp -> (It -> Hp -> Prop) -> Prop
def PIE (X : Cx) (pins : List (Addr × Obj)) (σ : St) (tg : Expr) (R : It -> Hp -> Prop) (itv : Value) (s2 : Shared) : Prop :=
 ∃ (it : Addr) (fp : List Addr) (tn : Nat -> Heap -> Prop) (J : It) (H' : Hp), itv = .ref it /\ Inv X pins σ H' s2 /\ Turn X.prog X.w X.K tg J fp it tn /\ tn 0 s2.heap /\ (∀ b ∈ fp, Jy X pins H' b) /\ R J H'
def PI (X : Cx) (tg iter : Expr) (wi : TI) : Prop :=
 ∀ (pins : List (Addr × Obj)) (s : Shared) (σ : St) (H : Hp) (R : It -> Hp -> Prop), Inv X pins σ H s -> wi σ H R ->
  wpAny (model X.prog X.w) X.A (eval iter X.env) (fun v s1 => wpAny (model X.prog X.w) X.A (pyIter v) (PIE X pins σ tg R) X.xe s1) X.xe s
theorem ZkV {M : Model} {A : Around} {E : Value -> Shared -> Prop} {s : Shared} {tg : Expr} {it : Addr} {u : Value} {o : Obj} {n : String} {vs : Array Value} {Q : Unit -> Shared -> Prop} (ho : s.heap.get? it = some o) (hc : o.cls = .type n) (hd : o.data = .fields vs)
    (hn : ["enumerate", "zip", "dict_itemiterator", "dict_reverseitemiterator", "odict_iterator", "itertools.zip_longest", "itertools.pairwise"].contains n = false) (hQ : Q () s) : wpAny M A (letOwnedTupleGo tg (.ref it) u) Q E s := by
  unfold letOwnedTupleGo
  cases tg <;> first
    | exact Yb hQ
    | (cases u <;> first
        | exact Yb hQ
        | (refine Ya (VD ho ?_)
           rw [hc, hd]
           show wpAny M A (if (["enumerate", "zip", "dict_itemiterator", "dict_reverseitemiterator", "odict_iterator", "itertools.zip_longest", "itertools.pairwise"].contains n && vs[0]? == some (rawInt _)) = true then _ else _) Q E s
           rw [if_neg (by intro h; rw [hn, Bool.false_and] at h; cases h)]
           exact Yb hQ))
def Itl (K : PySem.W.Frag) (a : Addr) : It :=
 ⟨fun i H => ∃ xs x, SqL K H a xs /\ xs[i]? = some x, fun i H x H' => H' = H /\ ∀ xs, SqL K H a xs -> xs[i]? = some x, fun i H => ∃ xs, SqL K H a xs /\ xs.length <= i⟩
def Itt (K : PySem.W.Frag) (a : Addr) : It :=
 ⟨fun i H => ∃ xs x, SqT K H a xs /\ xs[i]? = some x, fun i H x H' => H' = H /\ ∀ xs, SqT K H a xs -> xs[i]? = some x, fun i H => ∃ xs, SqT K H a xs /\ xs.length <= i⟩
def Itr (lo : Int) (n : Nat) : It := ⟨fun i _ => i < n, fun i H x H' => H' = H /\ x = .int (lo + i), fun i _ => n <= i⟩
theorem ZgZ {P : Program} {w : World} {K : PySem.W.Frag} {tg : Expr} (a it : Addr) : Turn P w K tg (Itl K a) [it] it (fun i h => h.IsListIter it a i) where
 mem := by simp
 obj := fun i h st b hb => by
  have e : b = it := by simpa using hb
  subst e
  obtain ⟨o, e, c, d⟩ := st
  exact ⟨o, e, fun v z => by rw [d] at z; cases z⟩
 keep := fun i h h' st k => st.at fun o e => k it (by simp) o e
 item := by
  intro X hP hw hK hc i pins s σ H E I hf st hg
  subst hP hw hK
  obtain ⟨xs, x, hq, hx⟩ := hg
  obtain ⟨its, rv, p, hz⟩ := I.list hq
  obtain ⟨u, hu, ru⟩ := rv.get hx
  obtain ⟨f0, f1, f2, f3, f4, f5⟩ := hf it (by simp)
  refine wpAny_pyNext_list_item st p.isList (x := u) (by simpa using hu) fun h' st' sb => ?_
  have I1 : Inv X pins σ H { s with heap := h' } := I.turned (t' := s.toks) (fun b o hb e => (sb.2 b hb).trans e) f0 f1 f3 f4 f5
  obtain ⟨o, e, c, d⟩ := id st'
  exact ⟨u, rfl, ZkV (s := { s with heap := h' }) e c d (by decide) ⟨x, H, I1, ru, ⟨rfl, fun ys hy => by rw [I.list_inj hy hq]; exact hx⟩, st', fun b hb => (hf b hb).1⟩⟩
 done := by
  intro X hP hw hK hc i pins s σ H E I hf st hg
  subst hP hw hK
  obtain ⟨xs, hq, hx⟩ := hg
  obtain ⟨its, rv, p, hz⟩ := I.list hq
  obtain ⟨f0, f1, f2, f3, f4, f5⟩ := hf it (by simp)
  have hl := rv.length
  exact wpAny_pyNext_list_end (I.ok.hd hc) st p.isList (by simp; omega) fun h' eb => ⟨rfl, I.turned (t' := s.toks) (fun b o hb e => eb b o hb e) f0 f1 f3 f4 f5⟩
 self := fun _ _ _ _ _ st h => wpAny_pyIter_listiter st h
theorem Zgn {P : Program} {w : World} {K : PySem.W.Frag} {tg : Expr} (a it : Addr) : Turn P w K tg (Itt K a) [it] it (fun i h => h.IsTupleIter it a i) where
 mem := by simp
 obj := fun i h st b hb => by
  have e : b = it := by simpa using hb
  subst e
  obtain ⟨o, e, c, d⟩ := st
  exact ⟨o, e, fun v z => by rw [d] at z; cases z⟩
 keep := fun i h h' st k => st.at fun o e => k it (by simp) o e
 item := by
  intro X hP hw hK hc i pins s σ H E I hf st hg
  subst hP hw hK
  obtain ⟨xs, x, hq, hx⟩ := hg
  obtain ⟨its, rv, p, hz⟩ := I.tuple hq
  obtain ⟨u, hu, ru⟩ := rv.get hx
  obtain ⟨f0, f1, f2, f3, f4, f5⟩ := hf it (by simp)
  refine wpAny_pyNext_tuple_item st (show s.heap.IsTuple a its.toArray from p) (x := u) (by simpa using hu) fun h' st' sb => ?_
  have I1 : Inv X pins σ H { s with heap := h' } := I.turned (t' := s.toks) (fun b o hb e => (sb.2 b hb).trans e) f0 f1 f3 f4 f5
  obtain ⟨o, e, c, d⟩ := id st'
  exact ⟨u, rfl, ZkV (s := { s with heap := h' }) e c d (by decide) ⟨x, H, I1, ru, ⟨rfl, fun ys hy => by rw [I.tuple_inj hy hq]; exact hx⟩, st', fun b hb => (hf b hb).1⟩⟩
 done := by
  intro X hP hw hK hc i pins s σ H E I hf st hg
  subst hP hw hK
  obtain ⟨xs, hq, hx⟩ := hg
  obtain ⟨its, rv, p, hz⟩ := I.tuple hq
  obtain ⟨f0, f1, f2, f3, f4, f5⟩ := hf it (by simp)
  have hl := rv.length
  exact wpAny_pyNext_tuple_end (I.ok.hd hc) st (show s.heap.IsTuple a its.toArray from p) (by simp; omega) fun h' eb => ⟨rfl, I.turned (t' := s.toks) (fun b o hb e => eb b o hb e) f0 f1 f3 f4 f5⟩
 self := fun _ _ _ _ _ st h => wpAny_pyIter_tupleiter st h
theorem ZgR {P : Program} {w : World} {K : PySem.W.Frag} {tg : Expr} (it : Addr) (lo : Int) (n : Nat) : Turn P w K tg (Itr lo n) [it] it (fun i h => IsRangeIter h it (lo + (i : Nat) * 1) ((n : Int) - (i : Nat)) 1) where
 mem := by simp
 obj := fun i h st b hb => by
  have e : b = it := by simpa using hb
  subst e
  exact ⟨_, st, fun v z => by
   have z' : Data.fields _ = Data.cell v := z
   cases z'⟩
 keep := fun i h h' st k => k it (by simp) _ st
 item := by
  intro X hP hw hK hc i pins s σ H E I hf st hg
  subst hP hw hK
  obtain ⟨f0, f1, f2, f3, f4, f5⟩ := hf it (by simp)
  have W := Walks.range (prog := X.prog) (w := X.w) (I.ok.hd hc) it lo 1 n
  refine W.item i s _ _ hg st fun v h' tk hv st' kk => ?_
  obtain ⟨t, rfl⟩ := hv
  have I1 : Inv X pins σ H { s with heap := h', toks := tk } := I.turned (fun b o hb e => kk b o (by simpa using hb) e) f0 f1 f3 f4 f5
  refine ⟨_, rfl, ZkV (s := { s with heap := h', toks := tk }) (n := "range_iterator") st' rfl rfl (by decide) ⟨.int (lo + i), H, I1, ⟨t, ?_⟩, ⟨rfl, rfl⟩, st', fun b hb => (hf b hb).1⟩⟩
  rw [Int.mul_one]
 done := by
  intro X hP hw hK hc i pins s σ H E I hf st hg
  subst hP hw hK
  obtain ⟨f0, f1, f2, f3, f4, f5⟩ := hf it (by simp)
  exact wpAny_pyNext_range_end (I.ok.hd hc) st (by have : n <= i := hg; omega) fun h' eb => ⟨rfl, I.turned (t' := s.toks) (fun b o hb e => eb b o hb e) f0 f1 f3 f4 f5⟩
 self := fun _ _ _ _ _ st h => wpAny_pyIter_rangeiter st h
end L2
namespace L2
open PySem PySem.Spec PyProof.Rows
section
variable {X : Cx} {tg : Expr}
def ZcV (K : PySem.W.Frag) (tl : TE) : TI := fun σ H R => tl σ H fun x H1 => ∃ a, x = .ref a /\ (∃ xs, SqL K H1 a xs) /\ R (Itl K a) H1
def Zpz (K : PySem.W.Frag) (tl : TE) : TI := fun σ H R => tl σ H fun x H1 => ∃ a, x = .ref a /\ (∃ xs, SqT K H1 a xs) /\ R (Itt K a) H1
theorem ZmH {l : Expr} {tl : TE} (hl : PE X l tl) : PI X tg l (ZcV X.K tl) := by
 intro pins s σ H R I h
 refine ZJ (hl pins s σ H _ I h) fun v s1 ⟨x, H1, I1, r1, q1⟩ => ?_
 obtain ⟨a, e, ⟨xs, hq⟩, q⟩ := q1
 subst e
 cases r1
 obtain ⟨its, rv, p, hz⟩ := I1.list hq
 refine wpAny_pyIter_list p.isList ?_
 refine ⟨s1.heap.objs.size, [s1.heap.objs.size], _, _, H1, rfl, I1.kept (t' := s1.toks) fun b o e => Yf _ e, ZgZ a _, ⟨_, Ym _ rfl, rfl, rfl⟩, fun b hb => ?_, q⟩
 have e : b = s1.heap.objs.size := by simpa using hb
 subst e
 exact I1.fpOk (Yd _) (I1.hok.fresh (Yd _))
theorem Znl {l : Expr} {tl : TE} (hl : PE X l tl) : PI X tg l (Zpz X.K tl) := by
 intro pins s σ H R I h
 refine ZJ (hl pins s σ H _ I h) fun v s1 ⟨x, H1, I1, r1, q1⟩ => ?_
 obtain ⟨a, e, ⟨xs, hq⟩, q⟩ := q1
 subst e
 cases r1
 obtain ⟨its, rv, p, hz⟩ := I1.tuple hq
 refine wpAny_pyIter_tuple (show s1.heap.IsTuple a its.toArray from p) ?_
 refine ⟨s1.heap.objs.size, [s1.heap.objs.size], _, _, H1, rfl, I1.kept (t' := s1.toks) fun b o e => Yf _ e, Zgn a _, ⟨_, Ym _ rfl, rfl, rfl⟩, fun b hb => ?_, q⟩
 have e : b = s1.heap.objs.size := by simpa using hb
 subst e
 exact I1.fpOk (Yd _) (I1.hok.fresh (Yd _))
theorem ZfU {pins : List (Addr × Obj)} {σ : St} {H : Hp} {s : Shared} {R : It -> Hp -> Prop} {E : Value -> Shared -> Prop} {lo hi : Int} {t u v : Tok} {tk : Nat} (I : Inv X pins σ H s) (h1 : -(2 ^ 62) <= lo) (h2 : lo < 2 ^ 62) (h3 : -(2 ^ 62) <= hi) (h4 : hi < 2 ^ 62)
  (q : R (Itr lo (hi - lo).toNat) H) : wpAny (model X.prog X.w) X.A (pyIter (.ref s.heap.objs.size)) (PIE X pins σ tg R) E { s with heap := s.heap.push { cls := .type "range", data := .fields #[.int lo t, .int hi u, .int 1 v] }, toks := tk } := by
 refine wpAny_pyIter_range (IsRange.new ..) (small_one h1 h2 h3 h4) ?_
 have I1 : Inv X pins σ H { s with heap := s.heap.push { cls := .type "range", data := .fields #[.int lo t, .int hi u, .int 1 v] }, toks := tk } := I.kept fun b o e => Yf _ e
 refine ⟨(s.heap.push { cls := .type "range", data := .fields #[.int lo t, .int hi u, .int 1 v] }).objs.size, [(s.heap.push { cls := .type "range", data := .fields #[.int lo t, .int hi u, .int 1 v] }).objs.size], _, _, H, rfl,
  I1.kept (t' := tk) fun b o e => Yf _ e, ZgR _ lo (hi - lo).toNat, ?_, fun b hb => ?_, q⟩
 ·have e1 : lo + ((0 : Nat) : Int) * 1 = lo := by simp
  have e2 : (((hi - lo).toNat : Nat) : Int) - ((0 : Nat) : Int) = Builtin.Range.rangeSize lo hi 1 := by rw [rangeSize_one]; split <;> omega
  show IsRangeIter _ _ (lo + ((0 : Nat) : Int) * 1) ((((hi - lo).toNat : Nat) : Int) - ((0 : Nat) : Int)) 1
  rw [e1, e2]
  exact Ym _ rfl
 ·have e : b = (s.heap.push { cls := .type "range", data := .fields #[.int lo t, .int hi u, .int 1 v] }).objs.size := by simpa using hb
  subst e
  exact I1.fpOk (Yd _) (I1.hok.fresh (Yd _))
def Zgv (ta : TA) : TI := fun σ H R => ta σ H fun vs H1 => ∃ j : Int, vs = [.int j] /\ -(2 ^ 62) <= j /\ j < 2 ^ 62 /\ R (Itr 0 j.toNat) H1
def ZmU (ta : TA) : TI := fun σ H R => ta σ H fun vs H1 => ∃ i j : Int, vs = [.int i, .int j] /\ (-(2 ^ 62) <= i /\ i < 2 ^ 62 /\ -(2 ^ 62) <= j /\ j < 2 ^ 62) /\ R (Itr i (j - i).toNat) H1
theorem Zia {a : Expr} {ta : TA} {p pos : Pos} (hg : Gl X "range") (hm : X.mg "range" = none) (ha : PA X [a] ta) (hs : starEach [a] X.env = [(false, eval a X.env)] := by rfl) : PI X tg (.Call (.Name "range" p) [a] [] pos) (Zgv ta) := by
 intro pins s σ H R I h
 refine Call_ (Jm I hg hm boot_range (Y7 (ZJ (ha pos pins s σ H _ I h) fun us s1 ⟨vs, H1, I1, r1, q1⟩ => ?_) hs rfl))
 obtain ⟨j, e, q1, q2, q⟩ := q1
 subst e
 cases r1 with
 | cons r rr =>
  cases rr
  obtain ⟨t, rfl⟩ := r
  exact call_range_1 (ZfU I1 (by omega) (by omega) q1 q2 (by simpa using q))
theorem Zi5 {a b : Expr} {ta : TA} {p pos : Pos} (hg : Gl X "range") (hm : X.mg "range" = none) (ha : PA X [a, b] ta) (hs : starEach [a, b] X.env = [(false, eval a X.env), (false, eval b X.env)] := by rfl) (hs2 : starEach [b] X.env = [(false, eval b X.env)] := by rfl) :
  PI X tg (.Call (.Name "range" p) [a, b] [] pos) (ZmU ta) := by
 intro pins s σ H R I h
 refine Call_ (Jm I hg hm boot_range (Y7 (ZJ (ha pos pins s σ H _ I h) fun us s1 ⟨vs, H1, I1, r1, q1⟩ => ?_) (by rw [hs, hs2]) (by rw [hs2]; rfl)))
 obtain ⟨i, j, e, ⟨q1, q2, q3, q4⟩, q⟩ := q1
 subst e
 cases r1 with
 | cons r rr =>
  cases rr with
  | cons r' rr =>
   cases rr
   obtain ⟨t, rfl⟩ := r
   obtain ⟨t', rfl⟩ := r'
   exact call_range_2 (ZfU I1 q1 q2 q3 q4 q)
def Zja (wi : TI) (g : TG) (tb : TS) : TS := fun D σ H => wi σ H fun J H1 => ∃ W : Nat -> Nat -> St -> Hp -> Prop, (∃ m, W 0 m σ H1) /\ ∀ i m σ H, W i m σ H ->
 (J.stop i H /\ D.nx σ H) \/ (J.go i H /\ ∃ N : St -> Hp -> Prop, (∀ σ' H', N σ' H' -> ∃ m', m' < m /\ W (i + 1) m' σ' H') /\ ∀ x H', J.yld i H x H' -> g x σ H' fun σ2 H2 => tb { D with nx := N, ct := N, bk := D.nx } σ2 H2)
def Zfv (fp : List Addr) (h : Heap) : List (Addr × Obj) := fp.filterMap fun b => (h.get? b).map fun o => (b, o)
theorem Zay {fp : List Addr} {h : Heap} {b : Addr} {o : Obj} (hb : b ∈ fp) (e : h.get? b = some o) : (b, o) ∈ Zfv fp h := List.mem_filterMap.mpr ⟨b, hb, by rw [e]; rfl⟩
theorem ZhC {fp : List Addr} {h : Heap} {p : Addr × Obj} (hp : p ∈ Zfv fp h) : p.1 ∈ fp /\ h.get? p.1 = some p.2 := by
 obtain ⟨b, hb, e⟩ := List.mem_filterMap.mp hp
 cases q : h.get? b with
 | none => rw [q] at e; cases e
 | some o =>
  rw [q] at e
  have e' : (b, o) = p := YO e
  subst e'
  exact ⟨hb, q⟩
theorem Inv.pinned {pins : List (Addr × Obj)} {σ : St} {H : Hp} {s : Shared} {fp : List Addr} (I : Inv X pins σ H s) (hf : ∀ b ∈ fp, Jy X pins H b) (ho : ∀ b ∈ fp, ∃ o, s.heap.get? b = some o /\ ∀ v, o.data ≠ .cell v) : Inv X (pins ++ Zfv fp s.heap) σ H s :=
 I.pins_of fun p hp => (Yx.mp hp).elim (fun z => I.pin p (Yv _ z)) fun z => by
  obtain ⟨hb, e⟩ := ZhC z
  obtain ⟨f0, f1, f2, _⟩ := hf p.1 hb
  obtain ⟨o, e', d⟩ := ho p.1 hb
  rw [e] at e'; cases e'
  exact ⟨e, f0, f1, f2, d⟩
theorem Inv.unpinned {pins pl : List (Addr × Obj)} {σ : St} {H : Hp} {s : Shared} (I : Inv X (pins ++ pl) σ H s) : Inv X pins σ H s := I.pins_of fun p hp => I.pin p (Yv _ (VF _ hp))
theorem ZnJ {iter : Expr} {body : List Stmt} {wi : TI} {g : TG} {tb : TS} {pos : Pos} (hp : PassesOwn (model X.prog X.w) X.A X.env X.xe) (hc : X.calm = true) (hi : PI X tg iter wi) (hg : PG X tg g) (hb : PSs X body tb)
  (hs : ∀ x, foldedSetIterable iter X.env x = pure x := by intro _; rfl) : PS X (.For tg iter body [] pos) (Zja wi g tb) := by
 intro pins s σ H D I h
 refine wpAny_For (ZJ (hi pins s σ H _ I h) fun v s1 h1 => ZJ h1 fun itv s2 h2 => ?_) hs
 obtain ⟨it, fp, tn, J, H2, e, I2, T, st2, f2, W, ⟨m0, w0⟩, turn⟩ := h2
 subst e
 -- what stays true of the iterator's objects through the loop
 have stat : ∀ {H' : Hp}, (∀ b ∈ fp, H' b = none) -> ∀ b ∈ fp, Jy X pins H' b := fun hn b hb => ⟨hn b hb, (f2 b hb).2⟩
 refine codeAny_forLoop_any (fun n s' => ∃ i σ' H', Inv X pins σ' H' s' /\ tn i s'.heap /\ (∀ b ∈ fp, H' b = none) /\ W i n σ' H') ?_ m0 ⟨0, σ, H2, I2, st2, fun b hb => (f2 b hb).1, w0⟩
 rintro n s3 ⟨i, σ3, H3, I3, st3, fr3, w3⟩
 rcases turn i n σ3 H3 w3 with ⟨stop, qn⟩ | ⟨go, N, hN, step⟩
 ·refine VC hp (ZJ (T.done X rfl rfl rfl hc i pins s3 σ3 H3 X.xe I3 (stat fr3) st3 stop) fun r s4 ⟨hr, I4⟩ => ?_)
  subst hr
  exact wpAny_execs_nil ⟨σ3, H3, I4, qn⟩
 ·refine VC hp (ZJ (T.item X rfl rfl rfl hc i pins s3 σ3 H3 X.xe I3 (stat fr3) st3 go) fun r s4 ⟨u, hr, h4⟩ => ?_)
  subst hr
  refine VC hp (ZJ h4 fun _ s5 ⟨x, H5, I5, r5, y5, st5, fr5⟩ => ?_)
  have I5' := I5.pinned (stat fr5) (T.obj _ _ st5)
  refine VC hp (ZJ (hg _ s5 σ3 H5 x u _ I5' r5 (step x H5 y5)) fun _ s6 ⟨σ6, H6, I6, q6⟩ => ?_)
  refine VC hp (ZJ (hb _ s6 σ6 H6 _ I6 q6) fun f s7 q7 => ?_)
  have again : ∀ {σ7 : St} {H7 : Hp}, Inv X (pins ++ Zfv fp s5.heap) σ7 H7 s7 -> N σ7 H7 -> ∃ m, m < n /\ ∃ i σ' H', Inv X pins σ' H' s7 /\ tn i s7.heap /\ (∀ b ∈ fp, H' b = none) /\ W i m σ' H' := fun {σ7 H7} I7 n7 => by
   obtain ⟨m', hm, w7⟩ := hN σ7 H7 n7
   refine ⟨m', hm, i + 1, σ7, H7, I7.unpinned, T.keep _ _ _ st5 fun b hb o e => (I7.pin (b, o) (Yv _ (Yv _ (Zay hb e)))).1, fun b hb => ?_, w7⟩
   obtain ⟨o, e, d⟩ := T.obj _ _ st5 b hb
   exact (I7.pin (b, o) (Yv _ (Yv _ (Zay hb e)))).2.1
  cases f with
  | next => obtain ⟨σ7, H7, I7, n7⟩ := q7; exact again I7 n7
  | cont => obtain ⟨σ7, H7, I7, n7⟩ := q7; exact again I7 n7
  | brk => obtain ⟨σ7, H7, I7, q7⟩ := q7; exact ⟨σ7, H7, I7.unpinned, q7⟩
  | ret v => obtain ⟨x7, σ7, H7, I7, r7, q7⟩ := q7; exact ⟨x7, σ7, H7, I7.unpinned, r7, q7⟩
end
theorem ZfL {K : PySem.W.Frag} {a : Addr} {xs : List V} {g : TG} {tb : TS} {D : Ends} {σ : St} {H : Hp} (Pv : Nat -> St -> Hp -> Prop) (h0 : Pv 0 σ H) (hl : ∀ i σ H, i <= xs.length -> Pv i σ H -> SqL K H a xs)
  (hs : ∀ i x σ H, xs[i]? = some x -> Pv i σ H -> g x σ H fun σ2 H2 => tb { D with nx := Pv (i + 1), ct := Pv (i + 1), bk := D.nx } σ2 H2) (hd : ∀ σ H, Pv xs.length σ H -> D.nx σ H) :
  ∃ W : Nat -> Nat -> St -> Hp -> Prop, (∃ m, W 0 m σ H) /\ ∀ i m σ H, W i m σ H ->
   ((Itl K a).stop i H /\ D.nx σ H) \/ ((Itl K a).go i H /\ ∃ N : St -> Hp -> Prop, (∀ σ' H', N σ' H' -> ∃ m', m' < m /\ W (i + 1) m' σ' H') /\ ∀ x H', (Itl K a).yld i H x H' -> g x σ H' fun σ2 H2 => tb { D with nx := N, ct := N, bk := D.nx } σ2 H2) := by
 refine ⟨fun i m σ H => m = xs.length - i /\ i <= xs.length /\ Pv i σ H, ⟨xs.length, by simp, Nat.zero_le _, h0⟩, ?_⟩
 rintro i m σ H ⟨rfl, hi, p⟩
 have q := hl i σ H hi p
 by_cases hlt : i < xs.length
 ·refine .inr ⟨⟨xs, xs[i], q, by simp [hlt]⟩, Pv (i + 1), fun σ' H' p' => ⟨xs.length - (i + 1), by omega, rfl, hlt, p'⟩, fun x H' y => ?_⟩
  obtain ⟨e, y⟩ := y
  subst e
  exact hs i x σ _ (y xs q) p
 ·have e : i = xs.length := by omega
  subst e
  exact .inl ⟨⟨xs, q, Yd _⟩, hd σ H p⟩
end L2
namespace L2
open PySem PySem.Spec PyProof.Rows
abbrev R2 := V -> V -> Hp -> VK -> Prop
def OpR (X : Cx) (f : Value -> Value -> Sem Value) (r : R2) : Prop :=
 ∀ (pins : List (Addr × Obj)) (s : Shared) (σ : St) (H : Hp) (x y : V) (v u : Value) (Q : VK), Inv X pins σ H s -> RelV x v -> RelV y u -> r x y H Q ->
  wpAny (model X.prog X.w) X.A (f v u) (EP X pins σ Q) X.xe s
def UnR (X : Cx) (f : Value -> Sem Value) (r : V -> Hp -> VK -> Prop) : Prop :=
 ∀ (pins : List (Addr × Obj)) (s : Shared) (σ : St) (H : Hp) (x : V) (v : Value) (Q : VK), Inv X pins σ H s -> RelV x v -> r x H Q ->
  wpAny (model X.prog X.w) X.A (f v) (EP X pins σ Q) X.xe s
def CallR (X : Cx) (f : Value) (r : List V -> Hp -> VK -> Prop) : Prop :=
 ∀ (pins : List (Addr × Obj)) (s : Shared) (σ : St) (H : Hp) (xs : List V) (us : List Value) (Q : VK), Inv X pins σ H s -> Vals xs us -> r xs H Q ->
  wpAny (model X.prog X.w) X.A (call f us) (EP X pins σ Q) X.xe s
def tOp (r : R2) (ta tb : TE) : TE := fun σ H Q => ta σ H fun x H1 => tb σ H1 fun y H2 => r x y H2 Q
def tUn (r : V -> Hp -> VK -> Prop) (ta : TE) : TE := fun σ H Q => ta σ H fun x H1 => r x H1 Q
def rI (C : Int -> Int -> Prop) (g : Int -> Int -> V) : R2 := fun x y H Q => ∃ i j, x = .int i /\ y = .int j /\ C i j /\ Q (g i j) H
def rI0 (g : Int -> Int -> V) : R2 := fun x y H Q => ∃ i j, x = .int i /\ y = .int j /\ Q (g i j) H
def rU (g : Int -> V) : V -> Hp -> VK -> Prop := fun x H Q => ∃ i, x = .int i /\ Q (g i) H
section
variable {X : Cx} {a b c : Expr} {ta tb tc : TE} {pos : Pos}
theorem ZpO (ha : PE X a ta) (hb : PE X b tb) {pins : List (Addr × Obj)} {s : Shared} {σ : St} {H : Hp} {R : V -> V -> Hp -> Prop} (I : Inv X pins σ H s)
  (h : ta σ H fun x H1 => tb σ H1 fun y H2 => R x y H2) {Q : Value -> Shared -> Prop} {f : Value -> Value -> Sem Value}
  (hf : ∀ v u s2 x y H2, Inv X pins σ H2 s2 -> RelV x v -> RelV y u -> R x y H2 -> wpAny (model X.prog X.w) X.A (f v u) Q X.xe s2) :
  wpAny (model X.prog X.w) X.A (eval a X.env) (fun v s₁ => wpAny (model X.prog X.w) X.A (eval b X.env) (fun u s₂ => wpAny (model X.prog X.w) X.A (f v u) Q X.xe s₂) X.xe s₁) X.xe s := by
 refine ZJ (ha pins s σ H _ I h) fun v s1 ⟨x, H1, I1, r1, q1⟩ => ?_
 refine ZJ (hb pins s1 σ H1 _ I1 q1) fun u s2 ⟨y, H2, I2, r2, q2⟩ => ?_
 exact hf v u s2 x y H2 I2 r1 r2 q2
theorem JS {op : Operator} {r : R2} (ho : OpR X (binaryOp op) r) (ha : PE X a ta) (hb : PE X b tb) : PE X (.BinOp a op b pos) (tOp r ta tb) := by
 intro pins s σ H Q I h
 exact wpAny_BinOp (ZpO ha hb I h fun v u s2 x y H2 I2 rx ry q => ho pins s2 σ H2 x y v u Q I2 rx ry q)
theorem ZpM {op : UnaryOp} {r : V -> Hp -> VK -> Prop} (ho : UnR X (unaryOp op) r) (ha : PE X a ta) : PE X (.UnaryOp op a pos) (tUn r ta) := by
 intro pins s σ H Q I h
 exact UnaryOp_ (ZJ (ha pins s σ H _ I h) fun v s1 ⟨x, H1, I1, r1, q1⟩ => ho pins s1 σ H1 x v Q I1 r1 q1)
theorem opI {f : Value -> Value -> Sem Value} {C : Int -> Int -> Prop} {g : Int -> Int -> Int}
  (rule : ∀ (i j : Int) (t u : Tok) (s : Shared) (Q : Value -> Shared -> Prop) (E : Value -> Shared -> Prop), C i j -> Q (.int (g i j) s.toks) { s with toks := s.toks + 1 } -> wpAny (model X.prog X.w) X.A (f (.int i t) (.int j u)) Q E s) :
  OpR X f (rI C fun i j => .int (g i j)) := by
 intro pins s σ H x y v u Q I rx ry h
 obtain ⟨i, j, rfl, rfl, hc, q⟩ := h
 obtain ⟨t, rfl⟩ := rx
 obtain ⟨t', rfl⟩ := ry
 exact rule i j t t' s _ _ hc ⟨.int (g i j), H, I.tok _, ⟨_, rfl⟩, q⟩
theorem Zqf {f : Value -> Value -> Sem Value} {g : Int -> Int -> Int}
  (rule : ∀ (i j : Int) (t u : Tok) (s : Shared) (Q : Value -> Shared -> Prop) (E : Value -> Shared -> Prop), Q (.int (g i j) s.toks) { s with toks := s.toks + 1 } -> wpAny (model X.prog X.w) X.A (f (.int i t) (.int j u)) Q E s) :
  OpR X f (rI0 fun i j => .int (g i j)) := by
 intro pins s σ H x y v u Q I rx ry h
 obtain ⟨i, j, rfl, rfl, q⟩ := h
 obtain ⟨t, rfl⟩ := rx
 obtain ⟨t', rfl⟩ := ry
 exact rule i j t t' s _ _ ⟨.int (g i j), H, I.tok _, ⟨_, rfl⟩, q⟩
theorem Zpk {f : Value -> Value -> Sem Value} {g : Int -> Int -> Bool}
  (rule : ∀ (i j : Int) (t u : Tok) (s : Shared) (Q : Value -> Shared -> Prop) (E : Value -> Shared -> Prop), Q (.bool (g i j)) s -> wpAny (model X.prog X.w) X.A (f (.int i t) (.int j u)) Q E s) :
  OpR X f (rI0 fun i j => .bl (g i j)) := by
 intro pins s σ H x y v u Q I rx ry h
 obtain ⟨i, j, rfl, rfl, q⟩ := h
 obtain ⟨t, rfl⟩ := rx
 obtain ⟨t', rfl⟩ := ry
 exact rule i j t t' s _ _ ⟨.bl (g i j), H, I, rfl, q⟩
def Zpn (i j : Int) : Prop := 0 < j /\ j < 1073741824
def Zpm (i j : Int) : Prop := 0 <= j /\ j <= 1000000 /\ i.natAbs < 2 ^ 64
def CMul (i j : Int) : Prop := (-(2 ^ 64) < i /\ i < 2 ^ 64) \/ (-(2 ^ 64) < j /\ j < 2 ^ 64)
theorem CMul.ok {i j : Int} (h : CMul i j) : IntMulOk i j := by
 rcases h with ⟨h1, h2⟩ | ⟨h1, h2⟩
 ·exact .of_left (intBits_le_64 h1 h2)
 ·exact .of_right (intBits_le_64 h1 h2)
theorem Zot : OpR X (binaryOp .Add) (rI0 fun i j => .int (i + j)) := Zqf fun _ _ _ _ _ _ _ q => add_int q
theorem ZoX : OpR X (binaryOp .Sub) (rI0 fun i j => .int (i - j)) := Zqf fun _ _ _ _ _ _ _ q => sub_int q
theorem Zoq : OpR X (binaryOp .Mult) (rI CMul fun i j => .int (i * j)) := opI fun _ _ _ _ _ _ _ hc q => mul_int q hc.ok
theorem Zml : OpR X (binaryOp .FloorDiv) (rI Zpn fun i j => .int (i / j)) := opI fun i j _ _ _ _ _ hc q => by
 have h1 : (0 : Int) < j := hc.1
 have h2 : j < 1073741824 := hc.2
 exact floordiv_int (by omega) (by rw [Yac i (by omega)]; exact q) (.inl (PyProof.noPylong_small (by omega)))
theorem Znz : OpR X (binaryOp .Mod) (rI (fun _ j => 0 < j) fun i j => .int (i % j)) := opI fun i j _ _ _ _ _ hc q => by
 have h1 : (0 : Int) < j := hc
 exact mod_int' (by omega) (by rw [Int.fmod_eq_emod_of_nonneg i (by omega)]; exact q)
theorem ZnD : OpR X (binaryOp .Pow) (rI Zpm fun i j => .int (i ^ j.toNat)) := opI fun _ _ _ _ _ _ _ hc q => pow_int_small hc.1 hc.2.1 hc.2.2 q
theorem unI {f : Value -> Sem Value} {g : Int -> Int}
  (rule : ∀ (i : Int) (t : Tok) (s : Shared) (Q : Value -> Shared -> Prop) (E : Value -> Shared -> Prop), Q (.int (g i) s.toks) { s with toks := s.toks + 1 } -> wpAny (model X.prog X.w) X.A (f (.int i t)) Q E s) :
  UnR X f (rU fun i => .int (g i)) := by
 intro pins s σ H x v Q I rx h
 obtain ⟨i, rfl, q⟩ := h
 obtain ⟨t, rfl⟩ := rx
 exact rule i t s _ _ ⟨.int (g i), H, I.tok _, ⟨_, rfl⟩, q⟩
theorem Zor : UnR X (unaryOp .USub) (rU fun i => .int (-i)) := unI fun _ _ _ _ _ q => neg_int q
end
def Zo6 : V -> V -> Bool
 | .non, .non => true | .non, .int _ => true | .int _, .non => true | .non, .bl _ => true | .bl _, .non => true | .non, .str _ => true | .str _, .non => true
 | .int _, .int _ => true | .bl _, .bl _ => true | .str _, .str _ => true | .byt _, .byt _ => true
 | .int _, .str _ => true | .str _, .int _ => true | .bl _, .str _ => true | .str _, .bl _ => true
 | _, _ => false
def rEq : R2 := fun x y H Q => Zo6 x y = true /\ Q (.bl (decide (x = y))) H
def rNe : R2 := fun x y H Q => Zo6 x y = true /\ Q (.bl (!decide (x = y))) H
theorem Zic {i j : Int} : decide (V.int i = V.int j) = (i == j) := by
 rw [VB]
 simp
theorem Zls {i j : Bool} : decide (V.bl i = V.bl j) = (i == j) := by
 rw [VB]
 simp
theorem ZiX {i j : Str} : decide (V.str i = V.str j) = (i == j) := by
 rw [VB]
 simp
theorem Zh0 {i j : Array UInt8} : decide (V.byt i = V.byt j) = (i.toList == j.toList) := by
 rw [VB]
 cases i
 cases j
 simp
section
variable {X : Cx} {a b c : Expr} {ta tb tc : TE} {pos : Pos}
theorem ZD {pins : List (Addr × Obj)} {σ : St} {H : Hp} {s : Shared} {Q : VK} {k k' : Bool} (I : Inv X pins σ H s) (q : Q (.bl k) H) (e : k = k') : EP X pins σ Q (.bool k') s := by
 subst e
 exact ⟨.bl k, H, I, rfl, q⟩
theorem ZnA : OpR X (compareOp .Eq) rEq := by
 intro pins s σ H x y v u Q I rx ry h
 obtain ⟨hs, q⟩ := h
 cases x with
 | non =>
  cases rx
  cases y with
  | non => cases ry; exact PySem.EqNone.eq_none_none (ZD I q (by simp))
  | bl j => cases ry; exact PySem.EqNone.eq_none_bool (ZD I q (by simp))
  | int j => obtain ⟨t', rfl⟩ := ry; exact PySem.EqNone.eq_none_int (ZD I q (by simp))
  | str j => obtain ⟨t', rfl⟩ := ry; exact PySem.EqNone.eq_none_str (ZD I q (by simp))
  | _ => exact absurd (show false = true from hs) Yz
 | bl i =>
  cases rx
  cases y with
  | non => cases ry; exact PySem.EqNone.eq_bool_none (ZD I q (by simp))
  | bl j => cases ry; exact eq_bool (ZD I q Zls)
  | str j => obtain ⟨t', rfl⟩ := ry; exact PySem.EqMixed.eq_bool_str (ZD I q (by simp))
  | _ => exact absurd (show false = true from hs) Yz
 | int i =>
  obtain ⟨t, rfl⟩ := rx
  cases y with
  | non => cases ry; exact PySem.EqNone.eq_int_none (ZD I q (by simp))
  | int j => obtain ⟨t', rfl⟩ := ry; exact eq_int (ZD I q Zic)
  | str j => obtain ⟨t', rfl⟩ := ry; exact PySem.EqMixed.eq_int_str (ZD I q (by simp))
  | _ => exact absurd (show false = true from hs) Yz
 | str i =>
  obtain ⟨t, rfl⟩ := rx
  cases y with
  | non => cases ry; exact PySem.EqNone.eq_str_none (ZD I q (by simp))
  | bl j => cases ry; exact PySem.EqMixed.eq_str_bool (ZD I q (by simp))
  | int j => obtain ⟨t', rfl⟩ := ry; exact PySem.EqMixed.eq_str_int (ZD I q (by simp))
  | str j => obtain ⟨t', rfl⟩ := ry; exact eq_str (ZD I q ZiX)
  | _ => exact absurd (show false = true from hs) Yz
 | byt i =>
  obtain ⟨t, rfl⟩ := rx
  cases y with
  | byt j => obtain ⟨t', rfl⟩ := ry; exact PySem.W.eq_bytes (ZD I q Zh0)
  | _ => exact absurd (show false = true from hs) Yz
 | _ => cases y <;> exact absurd (show false = true from hs) Yz
theorem Zp4 : OpR X (compareOp .NotEq) rNe := by
 intro pins s σ H x y v u Q I rx ry h
 obtain ⟨hs, q⟩ := h
 cases x with
 | non =>
  cases rx
  cases y with
  | non => cases ry; exact PySem.EqNone.ne_none_none (ZD I q (by simp))
  | bl j => cases ry; exact PySem.EqNone.ne_none_bool (ZD I q (by simp))
  | int j => obtain ⟨t', rfl⟩ := ry; exact PySem.EqNone.ne_none_int (ZD I q (by simp))
  | str j => obtain ⟨t', rfl⟩ := ry; exact PySem.EqNone.ne_none_str (ZD I q (by simp))
  | _ => exact absurd (show false = true from hs) Yz
 | bl i =>
  cases rx
  cases y with
  | non => cases ry; exact PySem.EqNone.ne_bool_none (ZD I q (by simp))
  | bl j => cases ry; exact ne_bool (ZD I q (congrArg not Zls))
  | str j => obtain ⟨t', rfl⟩ := ry; exact PySem.EqMixed.ne_bool_str (ZD I q (by simp))
  | _ => exact absurd (show false = true from hs) Yz
 | int i =>
  obtain ⟨t, rfl⟩ := rx
  cases y with
  | non => cases ry; exact PySem.EqNone.ne_int_none (ZD I q (by simp))
  | int j => obtain ⟨t', rfl⟩ := ry; exact ne_int (ZD I q (congrArg not Zic))
  | str j => obtain ⟨t', rfl⟩ := ry; exact PySem.EqMixed.ne_int_str (ZD I q (by simp))
  | _ => exact absurd (show false = true from hs) Yz
 | str i =>
  obtain ⟨t, rfl⟩ := rx
  cases y with
  | non => cases ry; exact PySem.EqNone.ne_str_none (ZD I q (by simp))
  | bl j => cases ry; exact PySem.EqMixed.ne_str_bool (ZD I q (by simp))
  | int j => obtain ⟨t', rfl⟩ := ry; exact PySem.EqMixed.ne_str_int (ZD I q (by simp))
  | str j => obtain ⟨t', rfl⟩ := ry; exact ne_str (ZD I q (congrArg not ZiX))
  | _ => exact absurd (show false = true from hs) Yz
 | byt i =>
  obtain ⟨t, rfl⟩ := rx
  cases y with
  | byt j => obtain ⟨t', rfl⟩ := ry; exact PySem.W.ne_bytes (ZD I q (congrArg not Zh0))
  | _ => exact absurd (show false = true from hs) Yz
 | _ => cases y <;> exact absurd (show false = true from hs) Yz
theorem Zl1 : OpR X (compareOp .Lt) (rI0 fun i j => .bl (decide (i < j))) := Zpk fun _ _ _ _ _ _ _ q => lt_int q
theorem ZnN : OpR X (compareOp .LtE) (rI0 fun i j => .bl (decide (i <= j))) := Zpk fun _ _ _ _ _ _ _ q => le_int q
theorem Zni : OpR X (compareOp .Gt) (rI0 fun i j => .bl (decide (j < i))) := Zpk fun _ _ _ _ _ _ _ q => gt_int q
theorem ZoU : OpR X (compareOp .GtE) (rI0 fun i j => .bl (decide (j <= i))) := Zpk fun _ _ _ _ _ _ _ q => ge_int q
theorem OpR.or {f : Value -> Value -> Sem Value} {r r' : R2} (h : OpR X f r) (h' : OpR X f r') : OpR X f (fun x y H Q => r x y H Q \/ r' x y H Q) := by
 intro pins s σ H x y v u Q I rx ry q
 rcases q with q | q
 ·exact h pins s σ H x y v u Q I rx ry q
 ·exact h' pins s σ H x y v u Q I rx ry q
theorem Jb (b : Expr) {op : CmpOp} (h : op ≠ .In := by decide) (h2 : op ≠ .NotIn := by decide) : behindInMarks op b = false := by
 have e1 : (op == CmpOp.In) = false := by cases op <;> first | rfl | exact absurd rfl h
 have e2 : (op == CmpOp.NotIn) = false := by cases op <;> first | rfl | exact absurd rfl h2
 cases b <;> simp [behindInMarks, e1, e2]
theorem Zbv {op : CmpOp} {r : R2} (ho : OpR X (compareOp op) r) (ha : PE X a ta) (hb : PE X b tb) (hm : behindInMarks op b = false) : PE X (.Compare a [op] [b] pos) (tOp r ta tb) := by
 intro pins s σ H Q I h
 exact wpAny_Compare1 (ZpO ha hb I h fun v u s2 x y H2 I2 rx ry q => ho pins s2 σ H2 x y v u Q I2 rx ry q) hm
def JE (t : TE) : TT := fun σ H Q => t σ H fun x H' => ∃ k, x = .bl k /\ Q k H'
theorem Z9 {op : CmpOp} {r : R2} (ho : OpR X (compareOp op) r) (ha : PE X a ta) (hb : PE X b tb) (hm : behindInMarks op b = false) : PT X (.Compare a [op] [b] pos) (JE (tOp r ta tb)) := by
 intro pins s σ H Q I h
 refine wpAny_isTrue_Compare1 (ZJ (ha pins s σ H _ I h) fun v s1 ⟨x, H1, I1, r1, q1⟩ => ZJ (hb pins s1 σ H1 _ I1 q1) fun u s2 ⟨y, H2, I2, r2, q2⟩ =>
  ZJ (ho pins s2 σ H2 x y v u _ I2 r1 r2 q2) fun c s3 ⟨z, H3, I3, r3, k, e, q3⟩ => ?_) hm
 subst e
 cases r3
 exact Vy ⟨H3, I3, q3⟩
def Zf2 (r r' : R2) (ta tb tc : TE) : TE := fun σ H Q => ta σ H fun x H1 => tb σ H1 fun y H2 => r x y H2 fun z H3 => ∃ k, z = .bl k /\
 (if k = true then tc σ H3 fun w' H4 => r' y w' H4 Q else Q (.bl false) H3)
theorem ZjP {op op' : CmpOp} {r r' : R2} (ho : OpR X (compareOp op) r) (ho' : OpR X (compareOp op') r') (ha : PE X a ta) (hb : PE X b tb) (hc : PE X c tc)
  (hm : lastMarks [op, op'] [b, c] = false := by with_unfolding_all rfl) : PE X (.Compare a [op, op'] [b, c] pos) (Zf2 r r' ta tb tc) := by
 intro pins s σ H Q I h
 refine Compare_chain (ZJ (ha pins s σ H _ I h) fun v s1 ⟨x, H1, I1, r1, q1⟩ => chain_link (ZJ (hb pins s1 σ H1 _ I1 q1) fun u s2 ⟨y, H2, I2, r2, q2⟩ =>
  ZJ (ho pins s2 σ H2 x y v u _ I2 r1 r2 q2) fun d s3 ⟨z, H3, I3, r3, k, e, q3⟩ => ?_)) hm
 subst e
 cases r3
 refine Vy ?_
 cases k with
 | false => exact ite_ff ⟨.bl false, H3, I3, rfl, q3⟩
 | true => exact ite_tt (chain_last (ZJ (hc pins s3 σ H3 _ I3 q3) fun w' s4 ⟨z', H4, I4, r4, q4⟩ => ho' pins s4 σ H4 y z' u w' Q I4 r2 r4 q4))
theorem Zer : (sizeLine : Nat) < 2 ^ 63 := by rw [YK]; decide
theorem Zf4 : OpR X (binaryOp .Add) (fun x y H Q => ∃ i j, x = .str i /\ y = .str j /\ i.length + j.length <= sizeLine /\ Q (.str (i ++ j)) H) := by
 intro pins s σ H x y v u Q I rx ry h
 obtain ⟨i, j, rfl, rfl, hz, q⟩ := h
 obtain ⟨t, rfl⟩ := rx
 obtain ⟨t', rfl⟩ := ry
 exact add_str (fun t' tk => ⟨.str (i ++ j), H, I.tok _, ⟨_, rfl⟩, q⟩) hz
theorem Jn {x : V} {us : List Value} (r : Vals [x] us) : ∃ u, us = [u] /\ RelV x u := by
 cases r with
 | cons r1 r2 => cases r2; exact ⟨_, rfl, r1⟩
theorem Zhj {x y : V} {us : List Value} (r : Vals [x, y] us) : ∃ u w', us = [u, w'] /\ RelV x u /\ RelV y w' := by
 cases r with
 | cons r1 r2 =>
  cases r2 with
  | cons r3 r4 => cases r4; exact ⟨_, _, rfl, r1, r3⟩
theorem Zjg : CallR X (.builtin "abs") (fun xs H Q => ∃ i, xs = [.int i] /\ Q (.int (if i < 0 then -i else i)) H) := by
 intro pins s σ H xs us Q I r h
 obtain ⟨i, rfl, q⟩ := h
 obtain ⟨u, rfl, t, rfl⟩ := Jn r
 exact call_abs_int fun u tk => ⟨.int (if i < 0 then -i else i), H, I.tok _, ⟨_, rfl⟩, q⟩
theorem Zix (hc : X.calm = true) : CallR X (.builtin "max") (fun xs H Q => ∃ i j, xs = [.int i, .int j] /\ Q (.int (if j > i then j else i)) H) := by
 intro pins s σ H xs us Q I r h
 obtain ⟨i, j, rfl, q⟩ := h
 obtain ⟨u, w', rfl, ⟨t, rfl⟩, ⟨t', rfl⟩⟩ := Zhj r
 refine max_two_ints (I.ok.hd hc) fun h' tk k => ⟨_, H, I.kept k, ?_, q⟩
 by_cases hj : j > i
 ·rw [if_pos hj, if_pos hj]; exact ⟨_, rfl⟩
 ·rw [if_neg hj, if_neg hj]; exact ⟨_, rfl⟩
theorem Zg3 (hc : X.calm = true) : CallR X (.builtin "min") (fun xs H Q => ∃ i j, xs = [.int i, .int j] /\ Q (.int (if j < i then j else i)) H) := by
 intro pins s σ H xs us Q I r h
 obtain ⟨i, j, rfl, q⟩ := h
 obtain ⟨u, w', rfl, ⟨t, rfl⟩, ⟨t', rfl⟩⟩ := Zhj r
 refine min_two_ints (I.ok.hd hc) fun h' tk k => ⟨_, H, I.kept k, ?_, q⟩
 by_cases hj : j < i
 ·rw [if_pos hj, if_pos hj]; exact ⟨_, rfl⟩
 ·rw [if_neg hj, if_neg hj]; exact ⟨_, rfl⟩
theorem Zh4 : CallR X (.type "int") (fun xs H Q => (∃ i, xs = [.int i] /\ Q (.int i) H) \/ ∃ k, xs = [.bl k] /\ Q (.int (if k then 1 else 0)) H) := by
 intro pins s σ H xs us Q I r h
 rcases h with ⟨i, rfl, q⟩ | ⟨k, rfl, q⟩
 ·obtain ⟨u, rfl, t, rfl⟩ := Jn r
  exact call_int_int ⟨.int i, H, I, ⟨_, rfl⟩, q⟩
 ·obtain ⟨u, rfl, r1⟩ := Jn r
  cases r1
  exact call_int_bool ⟨.int (if k then 1 else 0), H, I.tok _, ⟨_, rfl⟩, q⟩
end
end L2
namespace L2
open PySem PySem.Spec PyProof.Rows
structure ObjM (h : Heap) (x dx C : Addr) (mA : Str -> Option Value) : Prop where
 obj : h.get? x = some (instObj C dx)
 ns : h.Ns1 dx mA
 ne : dx ≠ x
theorem Zhs {h : Heap} {dx : Addr} {mA : Str -> Option Value} (n : h.Ns1 dx mA) : ∃ od, h.get? dx = some od /\ ∀ name, lookIn name od = some (mA name) := by
 obtain ⟨o, es, ep, ho, hd, hk, _, hm⟩ := n
 refine ⟨o, ho, fun name => ?_⟩
 have e := hm name
 unfold nsFind findBy at e
 rw [<- Array.find?_toList] at e
 unfold lookIn
 rw [hd]
 dsimp only
 split
 ·rename_i y q
  rw [q] at e
  exact congrArg some e
 ·rename_i q
  rw [q] at e
  have a : es.toList.any (·.refKey) = false := by
   rw [List.any_eq_false]
   intro y hy
   obtain ⟨z, t, hkey⟩ := hk y (Array.mem_toList_iff.mp hy)
   simp [DictEntry.refKey, hkey]
  have a' : ¬ es.toList.any (·.refKey) = true := by rw [a]; exact Yz
  rw [if_neg a']
  exact congrArg some e
theorem ObjM.look {h : Heap} {x dx C : Addr} {mA : Str -> Option Value} (I : ObjM h x dx C mA) : ∃ od, PySem.W.InstAt h x (instObj C dx) C (some od) /\ ∀ name, lookIn name od = some (mA name) :=
 let ⟨od, ho, hl⟩ := Zhs I.ns
 ⟨od, ⟨I.obj, rfl, rfl, ho⟩, hl⟩
section
variable {prog : Program} {w : World} {A : Around} {E : Value -> Shared -> Prop} {s : Shared} {K : PySem.W.Frag} {x dx C f : Addr} {mA : Str -> Option Value} {name : Str} {v : Value}
theorem Znd {expr : Bool} {Q : Value -> Shared -> Prop} (X : K.In s.heap) (I : ObjM s.heap x dx C mA) (hg : plainGet K C name = true) (hh : hasDictIn K C = true)
  (ha : PySem.W.findIn K (.ref C) name = some none) (hv : mA name = some v) (hv' : handedIn v = true) (h : Q v { s with toks := s.toks + 1 }) :
  wpAny (model prog w) A (getAttr (.ref x) name expr) Q E s := by
 obtain ⟨od, J, hl⟩ := I.look
 exact PySem.W.get_value X J (plainGet_of hg).1 (PySem.W.findObj_own hh ha rfl (by rw [hl, hv])) hv' h
theorem ZjR {pl : Sem Bool} {Q : Value × List Value -> Shared -> Prop} (X : K.In s.heap) (I : ObjM s.heap x dx C mA) (hg : plainGet K C name = true)
  (hf : PySem.W.findIn K (.ref C) name = some (some (.ref f))) (ht : isFn K (.ref f) = true) (hv : mA name = none) (h : Q (.ref f, [.ref x]) s) :
  wpAny (model prog w) A (getMethod (.ref x) name pl) Q E s := by
 obtain ⟨od, J, hl⟩ := I.look
 exact PySem.W.method_fn X J (plainGet_of hg).1 (plainGet_of hg).2 hf (beq_iff_eq.mp ht) (by show (lookIn name od).map (·.isSome) = some false; rw [hl, hv]; rfl) h
theorem ZlD {ns : List Str} {Q : Unit -> Shared -> Prop} (X : K.In s.heap) (I : ObjM s.heap x dx C mA)
  (hs : PySem.W.findIn K (.ref C) "__setattr__" = some (some (.builtin "object.__setattr__"))) (hp : plainOver K C = true) (ht : takerIn K C name = some none) (hh : hasDictIn K C = true)
  (hw : PySem.Within mA ns) (hsz : ns.length <= sizeLine)
  (h : ∀ h', ObjM h' x dx C (fun y => if y = name then some v else mA y) -> Heap.SameBut dx s.heap h' -> Q () { s with heap := h', toks := s.toks + 2 }) :
  wpAny (model prog w) A (setAttr (.ref x) name v) Q E s := by
 obtain ⟨od, J, hl⟩ := I.look
 refine PySem.W.set_plain X J hs (PySem.W.osa_open (s := { s with toks := s.toks + 1 }) (r := none) X J hp ht fun b => ?_)
 obtain ⟨cd, hc, hd'⟩ := PySem.W.any_some hh
 have hx : s.heap.get? x = some ⟨.ref C, some dx, .plain, #[]⟩ := I.obj
 refine Ya (Yb (Ya (Ya (wpAny_loadPart hx (Ya (PySem.W.Looks.here (s := { s with toks := s.toks + 1 }) (PySem.W.looks_clsIn X hc) ?_))))))
 rw [hd']
 refine Yb (a := some dx) (Ya (Yb (Ya ?_)))
 refine wpAny_nsSet1 (s := { s with toks := s.toks + 1 }) I.ns fun h' hn2 hs2 => ?_
 obtain ⟨oD, esD, epD, hoD, hdD, hcD⟩ := hn2.count (PySem.Within.cons name v hw)
 refine Ya (wpAny_lookBehind hoD (by rw [hdD]; exact pastItsLine_dict (Yj hcD (by rw [YN]; omega))) ?_)
 exact Yb (h _ ⟨(hs2.2 _ (Ne.symm I.ne)).trans I.obj, hn2, I.ne⟩ hs2)
theorem Zjj {R : Result -> Shared -> Prop} {vs : List Value} {kw : List (Str × Value)} (X : K.In s.heap) (hm : makesIn K C = true)
  (hi : PySem.W.findIn K (.ref C) "__init__" = some (some (.ref f))) (hf : PySem.W.typeIn K (.ref f) = some (.type "function"))
  (h : codeAny (model prog w) (A.under (.builtin "type.__call__" ⟨.ref C :: vs, kw⟩)) (.call (.ref f) ⟨.ref (s.heap.objs.size + 1) :: vs, kw⟩) (PySem.W.InitBack (s.heap.objs.size + 1) R)
   { s with heap := (s.heap.push emptyDict).push (instObj C s.heap.objs.size) }) :
  codeAny (model prog w) A (.call (.ref C) ⟨vs, kw⟩) R s := by
 obtain ⟨hh, g, d, t, os⟩ := s
 exact PySem.W.make_core (PySem.W.makes_of X hm) (PySem.W.looks_findIn X hi) (fun self => PySem.W.bind_fn X self hf) (.inl rfl) h
end
def JU (f : Str) (v : V) : List (Str × V) -> List (Str × V)
 | [] => [(f, v)]
 | (g, x) :: r => if g = f then (g, v) :: r else (g, x) :: JU f v r
theorem Zb3 (f g : Str) (v : V) : ∀ fs : List (Str × V), (JU f v fs).lookup g = if g = f then some v else fs.lookup g
 | [] => by
  show List.lookup g [(f, v)] = _
  by_cases h : g = f
  ·have hb : (g == f) = true := beq_iff_eq.mpr h
   simp only [List.lookup, hb, if_pos h]
  ·have hb : (g == f) = false := VG.mpr h
   simp only [List.lookup, hb, if_neg h]
 | (k, x) :: r => by
  have ih := Zb3 f g v r
  rw [show JU f v ((k, x) :: r) = (if k = f then (k, v) :: r else (k, x) :: JU f v r) from rfl]
  by_cases hk : k = f
  ·rw [if_pos hk]
   by_cases h : g = k
   ·have hb : (g == k) = true := beq_iff_eq.mpr h
    simp only [List.lookup, hb, if_pos (h.trans hk)]
   ·have hb : (g == k) = false := VG.mpr h
    simp only [List.lookup, hb, if_neg (fun e : g = f => h (e.trans hk.symm))]
  ·rw [if_neg hk]
   by_cases h : g = k
   ·have hb : (g == k) = true := beq_iff_eq.mpr h
    simp only [List.lookup, hb, if_neg (fun e : g = f => hk (h.symm.trans e))]
   ·have hb : (g == k) = false := VG.mpr h
    simp only [List.lookup, hb]
    exact ih
theorem Zcs (f : Str) (v : V) : ∀ fs : List (Str × V), f ∈ (JU f v fs).map (·.1) /\ ∀ g, g ∈ fs.map (·.1) -> g ∈ (JU f v fs).map (·.1)
 | [] => ⟨by simp [JU], fun g h => by simp at h⟩
 | (k, x) :: r => by
  obtain ⟨i1, i2⟩ := Zcs f v r
  rw [show JU f v ((k, x) :: r) = (if k = f then (k, v) :: r else (k, x) :: JU f v r) from rfl]
  by_cases hk : k = f
  ·rw [if_pos hk]
   subst hk
   exact ⟨by simp, fun g h => by simpa using h⟩
  ·rw [if_neg hk]
   refine ⟨?_, fun g h => ?_⟩
   ·rw [Yq]
    exact Y1 _ i1
   ·rw [Yq] at h ⊢
    rcases Yn.mp h with e | e
    ·exact Yn.mpr (.inl e)
    ·exact Y1 _ (i2 g e)
theorem ZcM (f : Str) (v : V) : ∀ fs : List (Str × V), (JU f v fs).length <= fs.length + 1
 | [] => by simp [JU]
 | (k, x) :: r => by
  have ih := ZcM f v r
  rw [show JU f v ((k, x) :: r) = (if k = f then (k, v) :: r else (k, x) :: JU f v r) from rfl]
  by_cases hk : k = f
  ·rw [if_pos hk, YN, YN]; omega
  ·rw [if_neg hk, YN, YN]; omega
theorem RelO.some_of {v : V} {o : Option Value} (r : RelO (some v) o) : ∃ u, o = some u /\ RelV v u := by
 cases o with
 | none => exact (show False from r).elim
 | some u => exact ⟨u, rfl, r⟩
theorem RelO.none_of {o : Option Value} (r : RelO none o) : o = none := by
 cases o with
 | none => rfl
 | some u => exact (show False from r).elim
theorem ZhN {v : V} {u : Value} (r : RelV v u) : handedIn u = true := by
 cases v with
 | non => cases (show u = Value.none from r); rfl
 | bl b => cases (show u = Value.bool b from r); rfl
 | int i => obtain ⟨t, e⟩ := (show ∃ t, u = Value.int i t from r); cases e; rfl
 | str x => obtain ⟨t, e⟩ := (show ∃ t, u = Value.str x t from r); cases e; rfl
 | byt b => obtain ⟨t, e⟩ := (show ∃ t, u = Value.bytes b t from r); cases e; rfl
 | flt b => obtain ⟨t, e⟩ := (show ∃ t, u = Value.float b t from r); cases e; rfl
 | ref a => cases (show u = Value.ref a from r); rfl
 | ty n => cases (show u = Value.type n from r); rfl
section
variable {P : Program} {w : World} {H H' : Hp} {h h' : Heap} {a C dx : Addr} {fs fs' : List (Str × V)}
theorem Zdc (hok : HOk P w H h) (e : H a = some (.ins C dx fs)) : ∃ mA, ObjM h a dx C mA /\ (∀ f, RelO (fs.lookup f) (mA f)) /\ PySem.Within mA (fs.map (·.1)) /\ fs.length <= 1000 /\ H dx = some (.own a) := by
 obtain ⟨d, z, ne, ob, mA, n, r, q⟩ := (show ObjOk P w H h a (.ins C dx fs) from hok a _ e)
 exact ⟨mA, ⟨ob, n, ne⟩, r, q, z, d⟩
end
structure Cls (K : PySem.W.Frag) (C : Addr) : Prop where
 pg : plainGet K C Str.empty = true
 hd : hasDictIn K C = true
 po : plainOver K C = true
 sa : PySem.W.findIn K (.ref C) "__setattr__" = some (some (.builtin "object.__setattr__"))
theorem Cls.get {K : PySem.W.Frag} {C : Addr} (c : Cls K C) (f : Str) : plainGet K C f = true := c.pg
def NoAttr (K : PySem.W.Frag) (C : Addr) (f : Str) : Prop := PySem.W.findIn K (.ref C) f = some none
theorem NoAttr.taker {K : PySem.W.Frag} {C : Addr} {f : Str} (n : NoAttr K C f) : takerIn K C f = some none := by
 unfold takerIn
 rw [show PySem.W.findIn K (.ref C) f = some none from n]
 rfl
structure Con (K : PySem.W.Frag) (C : Addr) (f : Str) (v : V) (u : Value) : Prop where
 at_ : PySem.W.findIn K (.ref C) f = some (some u)
 rel : RelV v u
 get : PySem.W.specialIn K u "__get__" = some none
 cp : PySem.W.copiedNames.contains f = false
structure Meth (K : PySem.W.Frag) (C : Addr) (m : Str) (f : Addr) : Prop where
 at_ : PySem.W.findIn K (.ref C) m = some (some (.ref f))
 fn : isFn K (.ref f) = true
 kp : keepIn K (.ref f) = true
section
variable {X : Cx} {pins : List (Addr × Obj)} {σ : St} {H : Hp} {s : Shared} {a C dx : Addr} {fs : List (Str × V)} {f : Str} {v : V} {A : Around} {E : Value -> Shared -> Prop}
theorem Zgt {b : Bool} {Q : Value -> Shared -> Prop} (I : Inv X pins σ H s) (e : H a = some (.ins C dx fs)) (c : Cls X.K C) (n : NoAttr X.K C f) (l : fs.lookup f = some v)
  (h : ∀ u s', Inv X pins σ H s' -> RelV v u -> Q u s') : wpAny (model X.prog X.w) A (getAttr (.ref a) f b) Q E s := by
 obtain ⟨mA, O, r, _, _, _⟩ := Zdc I.hok e
 obtain ⟨u, hu, ru⟩ := RelO.some_of (v := v) (o := mA f) (by rw [<- l]; exact r f)
 exact Znd I.kIn O (c.get f) c.hd n hu (ZhN ru) (h u _ (I.tok _) ru)
theorem ZcZ {m : Str} {g : Addr} {pl : Sem Bool} {Q : Value × List Value -> Shared -> Prop} (I : Inv X pins σ H s) (e : H a = some (.ins C dx fs)) (c : Cls X.K C) (k : Meth X.K C m g) (l : fs.lookup m = none)
  (h : Q (.ref g, [.ref a]) s) : wpAny (model X.prog X.w) A (getMethod (.ref a) m pl) Q E s := by
 obtain ⟨mA, O, r, _, _, _⟩ := Zdc I.hok e
 have hn : mA m = none := RelO.none_of (by rw [<- l]; exact r m)
 exact ZjR I.kIn O (c.get m) k.at_ k.fn hn h
theorem Zgc {y : V} {u : Value} {Q : Unit -> Shared -> Prop} (I : Inv X pins σ H s) (e : H a = some (.ins C dx fs)) (c : Cls X.K C) (n : NoAttr X.K C f) (hl : fs.length < 1000) (ry : RelV y u)
  (h : ∀ s', Inv X pins σ (upd H a (.ins C dx (JU f y fs))) s' -> Q () s') : wpAny (model X.prog X.w) A (setAttr (.ref a) f u) Q E s := by
 obtain ⟨mA, O, r, wi, _, ho⟩ := Zdc I.hok e
 have hz : (fs.map (·.1)).length <= sizeLine := by rw [Yi, YK]; omega
 refine ZlD I.kIn O c.sa c.po n.taker c.hd wi hz fun h' O' sb => h _ ?_
 have hd : ∃ o, h'.get? dx = some o := let ⟨o, _, _, e', _⟩ := O'.ns; ⟨o, e'⟩
 refine I.write (x := a) (e := dx) (by rw [e]; exact True.intro) (.inr ho) (fun b q hb z => (sb.2 b hb).trans z) hd ?_
 refine ⟨by rw [Zf O.ne]; exact ho, ?_, O.ne, O'.obj, _, O'.ns, fun g => ?_, fun g hg => ?_⟩
 ·have := ZcM f y fs; omega
 ·show RelO ((JU f y fs).lookup g) (if g = f then some u else mA g)
  rw [Zb3]
  by_cases q : g = f
  ·rw [if_pos q, if_pos q]; exact ry
  ·rw [if_neg q, if_neg q]; exact r g
 ·by_cases q : g = f
  ·rw [q]; exact (Zcs f y fs).1
  ·refine (Zcs f y fs).2 g (wi g fun z => hg ?_)
   show (if g = f then some u else mA g) = none
   rw [if_neg q]; exact z
theorem Inv.made (I : Inv X pins σ H s) : Inv X pins σ (upd (upd H s.heap.objs.size (.own (s.heap.objs.size + 1))) (s.heap.objs.size + 1) (.ins C s.heap.objs.size []))
  { s with heap := (s.heap.push emptyDict).push (instObj C s.heap.objs.size) } := by
 have e1 : (s.heap.push emptyDict).get? s.heap.objs.size = some emptyDict := Ym s.heap rfl
 have e2 : ((s.heap.push emptyDict).push (instObj C s.heap.objs.size)).get? (s.heap.objs.size + 1) = some (instObj C s.heap.objs.size) := by
  have := Ym (s.heap.push emptyDict) (o := instObj C s.heap.objs.size) rfl
  rwa [V5] at this
 have e3 : (s.heap.push emptyDict).Ns s.heap.objs.size (fun _ => none) := ⟨emptyDict, #[], _, e1, rfl, (fun e he => absurd he (by simp)), fun _ => rfl⟩
 have I1 := I.laid (a := s.heap.objs.size) (o := .own (s.heap.objs.size + 1)) (h' := s.heap.push emptyDict) (t' := s.toks) (fun b u q => Yf _ q) (Yd _) ⟨_, e1⟩
 refine I1.laid (a := s.heap.objs.size + 1) (o := .ins C s.heap.objs.size []) (t' := s.toks) (fun b u q => Yf _ q) (Vp (V5 _ _)) ?_
 have ne : s.heap.objs.size ≠ s.heap.objs.size + 1 := Yk (VN _)
 refine ⟨by rw [Zf ne, upd_same], YB _, ne, e2, fun _ => none, (Heap.Ns1.of_empty e3).at fun o q => Yf _ q, fun _ => True.intro, fun y hy => absurd rfl hy⟩
theorem ZmL {prog : Program} {w : World} {env : Env} {e : Expr} {f : Str} {pos : Pos} {s : Shared} {Q : Value -> Shared -> Prop} (hb : attributeBase e f env (eval e env) = eval e env)
  (h : wpAny (model prog w) A (eval e env) (fun o s₁ => wpAny (model prog w) A (getAttr o f true) Q E s₁) E s) : wpAny (model prog w) A (eval (.Attribute e f pos) env) Q E s :=
 Attribute_any_ h (by rw [arm_eval_Attribute, hb])
end
def ZnW (K : PySem.W.Frag) (ta : TE) (f : Str) : TE := fun σ H Q => ta σ H fun x H1 => ∃ a C dx fs v, x = .ref a /\ H1 a = some (.ins C dx fs) /\ Cls K C /\ NoAttr K C f /\ fs.lookup f = some v /\ Q v H1
def Zpf (K : PySem.W.Frag) (ta tv : TE) (f : Str) : TS := fun D σ H => tv σ H fun y H1 => ta σ H1 fun x H2 => ∃ a C dx fs, x = .ref a /\ H2 a = some (.ins C dx fs) /\ Cls K C /\ NoAttr K C f /\ fs.length < 1000 /\
 D.nx σ (upd H2 a (.ins C dx (JU f y fs)))
section
variable {X : Cx} {o e value : Expr} {f : Str} {pos pos' tpos : Pos} {ta tv : TE}
theorem Zla (he : PE X e ta) (hb : attributeBase e f X.env (eval e X.env) = eval e X.env) : PE X (.Attribute e f pos) (ZnW X.K ta f) := by
 intro pins s σ H Q I h
 refine ZmL hb (ZJ (he pins s σ H _ I h) fun u s1 ⟨x, H1, I1, rx, a, C, dx, fs, v, ex, ea, c, n, l, q⟩ => ?_)
 subst ex
 obtain rfl : u = Value.ref a := rx
 exact Zgt I1 ea c n l fun u' s2 I2 ru => ⟨v, H1, I2, ru, q⟩
theorem Zoi (ha : PE X o ta) (hv : PE X value tv) (hs : swapsWith value (some (.Attribute o f pos')) pos.line X.env = pure false) : PS X (.Assign [.Attribute o f pos'] value pos) (Zpf X.K ta tv f) := by
 intro pins s σ H D I h
 refine plainObj_wpAny_Assign_Attribute (ZJ (hv pins s σ H _ I h) fun u s1 ⟨y, H1, I1, ry, q⟩ => ZJ (ha pins s1 σ H1 _ I1 q) fun ov s2 ⟨x, H2, I2, rx, a, C, dx, fs, ex, ea, c, n, l, q2⟩ => ?_) hs
 subst ex
 obtain rfl : ov = Value.ref a := rx
 exact Zgc I2 ea c n l ry fun s3 I3 => ⟨σ, _, I3, q2⟩
end
section
variable {X : Cx} {pins : List (Addr × Obj)} {σ : St} {H : Hp} {s : Shared} {A : Around} {E : Value -> Shared -> Prop} {Q : Value -> Shared -> Prop} {c : Value} {b : Bool}
inductive TyOf (K : PySem.W.Frag) (H : Hp) : V -> Value -> Prop where
 | non : TyOf K H .non (.type "NoneType")
 | bl (x : Bool) : TyOf K H (.bl x) (.type "bool")
 | int (i : Int) : TyOf K H (.int i) (.type "int")
 | str (x : Str) : TyOf K H (.str x) (.type "str")
 | flt (x : UInt64) : TyOf K H (.flt x) (.type "float")
 | lst {a : Addr} {xs : List V} (e : H a = some (.lst xs)) : TyOf K H (.ref a) (.type "list")
 | frz {a : Addr} {o : Obj} {xs : List V} (e : H a = some (.frz o (.lst xs))) : TyOf K H (.ref a) (.type "list")
 | tup {a : Addr} {xs : List V} (e : H a = some (.tup xs)) : TyOf K H (.ref a) (.type "tuple")
 | dK {a : Addr} {kvs : List (ZA × V)} (e : H a = some (.dK kvs)) : TyOf K H (.ref a) (.type "dict")
 | dT {a : Addr} {kvs : List (List ZA × V)} (e : H a = some (.dT kvs)) : TyOf K H (.ref a) (.type "dict")
 | ins {a C dx : Addr} {fs : List (Str × V)} (e : H a = some (.ins C dx fs)) (cl : Cls K C) (ha : PySem.W.findIn K (.ref C) "__class__" = some (some (.builtin "object.__class__")))
   (hn : PySem.W.specialIn K (.builtin "object.__class__") "__get__" = some (some (.builtin "getset_descriptor.__get__"))) (htk : PySem.W.takesIn K (.builtin "object.__class__") = some true)
   (hm : PySem.W.mroIn K C (.type "object") = some true) : TyOf K H (.ref a) (.ref C)
theorem Zis {x : V} {u t : Value} (I : Inv X pins σ H s) (rx : RelV x u) (ty : TyOf X.K H x t) (e : kitOne X.K t c = some b) (h : ∀ tk, Q (.bool b) { s with toks := tk }) :
  wpAny (model X.prog X.w) A (call (.builtin "isinstance") [u, c]) Q E s := by
 cases ty with
 | non => cases (show u = Value.none from rx); exact kia_one PySem.W.kitx_none I.kIn True.intro e (fun z => nomatch z) h
 | bl y => cases (show u = Value.bool y from rx); exact kia_one PySem.W.kitx_bool I.kIn True.intro e (fun z => nomatch z) h
 | int i => obtain ⟨t, q⟩ := (show ∃ t, u = Value.int i t from rx); cases q; exact kia_one PySem.W.kitx_int I.kIn True.intro e (fun z => nomatch z) h
 | str y => obtain ⟨t, q⟩ := (show ∃ t, u = Value.str y t from rx); cases q; exact kia_one PySem.W.kitx_str I.kIn True.intro e (fun z => nomatch z) h
 | flt y => obtain ⟨t, q⟩ := (show ∃ t, u = Value.float y t from rx); cases q; exact kia_one PySem.W.kitx_float I.kIn True.intro e (fun z => nomatch z) h
 | @lst a xs ea =>
  cases (show u = Value.ref a from rx)
  obtain ⟨_, _, n, _, h1⟩ := (show ObjOk X.prog X.w H s.heap a (.lst xs) from I.hok a _ ea)
  exact kia_one kitx_list I.kIn ⟨_, h1, rfl⟩ e (fun z => nomatch z) h
 | @frz a ob xs ea =>
  cases (show u = Value.ref a from rx)
  obtain ⟨_, _, _, n, _, h1⟩ := (show ObjOk X.prog X.w H s.heap a (.frz ob (.lst xs)) from I.hok a _ ea)
  exact kia_one kitx_list I.kIn ⟨_, h1, rfl⟩ e (fun z => nomatch z) h
 | @tup a xs ea =>
  cases (show u = Value.ref a from rx)
  obtain ⟨_, _, _, p⟩ := (show ObjOk X.prog X.w H s.heap a (.tup xs) from I.hok a _ ea)
  obtain ⟨o, h1, h2, _⟩ := p
  exact kia_one PySem.W.kitx_tuple I.kIn ⟨o, h1, h2⟩ e (fun z => nomatch z) h
 | @dK a kvs ea =>
  cases (show u = Value.ref a from rx)
  obtain ⟨_, _, vs, _, p⟩ := (show ObjOk X.prog X.w H s.heap a (.dK kvs) from I.hok a _ ea)
  obtain ⟨o, es, ep, h1, h2, _⟩ := p
  exact kia_one kitx_dict I.kIn ⟨o, h1, h2.1⟩ e (fun z => nomatch z) h
 | @dT a kvs ea =>
  cases (show u = Value.ref a from rx)
  obtain ⟨_, _, xs, _, o, es, ep, h1, h2, _⟩ := (show ObjOk X.prog X.w H s.heap a (.dT kvs) from I.hok a _ ea)
  exact kia_one kitx_dict I.kIn ⟨o, h1, h2.1⟩ e (fun z => nomatch z) h
 | @ins a C dx fs ea cl ha hn htk hm =>
  cases (show u = Value.ref a from rx)
  obtain ⟨mA, O, _⟩ := Zdc I.hok ea
  obtain ⟨od, J, _⟩ := O.look
  exact kia_one (PySem.W.kitx_own (cl.get _) cl.hd ha hn htk hm) I.kIn J e (fun z => nomatch z) h
end
end L2
namespace L2
open PySem PySem.Spec PyProof.Rows
structure Room (k : Nat) (A : Around) : Prop where
 hd : A.handled = none
 dp : A.depth + 3 * k + 5 < recursionLimit
 un : A.units + 16 * k + 200 < cLine
theorem Room.mono {j k : Nat} {A : Around} (r : Room k A) (h : j <= k) : Room j A := ⟨r.hd, by have := r.dp; omega, by have := r.un; omega⟩
theorem Room.deeper {k : Nat} {A : Around} (r : Room (k + 1) A) (env : Env) : Room k (A.deeper env) :=
 ⟨r.hd, by have := r.dp; show A.depth + 1 + 3 * k + 5 < _; omega, by have := r.un; show A.units + 3 + 16 * k + 200 < _; omega⟩
theorem Room.in1 {k : Nat} {A : Around} (r : Room (k + 1) A) : Room k A.in1 :=
 ⟨r.hd, by have := r.dp; show A.depth + 3 * k + 5 < _; omega, by have := r.un; show A.units + 1 + 16 * k + 200 < _; omega⟩
theorem Zf6 {A : Around} {C : Addr} {us : List Value} {kw : List (Str × Value)} : (A.under (.builtin "type.__call__" ⟨.ref C :: us, kw⟩)).depth = A.depth + 1 := by
 first | rfl | simp [Around.under, Code.weight, Code.isCreation, Code.isGuard, Code.isCaller, Code.frames, Code.isFrame, guardIds]
theorem ZgT {A : Around} {C : Addr} {us : List Value} {kw : List (Str × Value)} : (A.under (.builtin "type.__call__" ⟨.ref C :: us, kw⟩)).units = A.units + 1 := by
 first | rfl | simp [Around.under, Code.cUnits, Code.frames, Code.isFrame]
theorem Room.make {k : Nat} {A : Around} (r : Room (k + 1) A) (C : Addr) (us : List Value) (kw : List (Str × Value)) : Room k (A.under (.builtin "type.__call__" ⟨.ref C :: us, kw⟩)) :=
 ⟨r.hd, by have := r.dp; rw [Zf6]; omega, by have := r.un; rw [ZgT]; omega⟩
theorem Room.depth {k : Nat} {A : Around} (r : Room k A) : A.depth < recursionLimit := by have := r.dp; omega
theorem Room.units {k : Nat} {A : Around} (r : Room k A) : A.units + 64 < cLine := by have := r.un; omega
def Zmu : TA := fun _ H Q => Q [] H
def ZgI (ta : TE) (tr : TA) : TA := fun σ H Q => ta σ H fun x H1 => tr σ H1 fun xs H2 => Q (x :: xs) H2
section
variable {X : Cx} {e : Expr} {es : List Expr} {te : TE} {t : TA} {pos : Pos}
theorem Zln : PA X [] Zmu := fun _ _ _ _ H Q I h => Calls.spliced_nil ⟨[], H, I, .nil, h⟩
theorem ZhO (ha : PE X e te) (hr : PA X es t) (hs : starEach (e :: es) X.env = (false, eval e X.env) :: starEach es X.env := by rfl) : PA X (e :: es) (ZgI te t) := by
 intro pos pins s σ H Q I h
 rw [hs]
 show wpAny _ _ (spliced ((false, eval e X.env) :: backTo pos (starEach es X.env))) _ _ s
 refine Calls.spliced_cons (ZJ (ha pins s σ H _ I h) fun u s1 ⟨x, H1, I1, r1, q1⟩ => ?_)
 exact ZJ (hr pos pins s1 σ H1 _ I1 q1) fun us s2 ⟨xs, H2, I2, r2, q2⟩ => ⟨x :: xs, H2, I2, .cons r1 r2, q2⟩
end
abbrev Sp := List V -> Hp -> VK -> XK -> Prop
abbrev CXT := List Env -> Hp -> Shared -> XK -> Value -> Shared -> Prop
structure Env0 (P : Program) (w : World) (K : PySem.W.Frag) (mg : Str -> Option Value) (base : Heap) (A : Around) (outer : List Env) (s : Shared) (H : Hp) : Prop where
 frames : A.frames = some outer
 mod : Mod K mg base
 bs : ∀ b o, base.get? b = some o -> s.heap.get? b = some o /\ H b = none
 bsz : base.objs.size <= s.heap.objs.size
 funs : s.heap.FunFrames base outer
 frf : ∀ b ∈ frs outer, H b = none
 hok : HOk P w H s.heap
 bare : AllBare s.gens
def CE (outer : List Env) (P : Program) (w : World) (H : Hp) (s : Shared) (Q : VK) (u : Value) (s' : Shared) : Prop :=
 ∃ v H', s'.os = s.os /\ AllBare s'.gens /\ Un (frs outer) [] H H' s.heap s'.heap /\ HOk P w H' s'.heap /\ RelV v u /\ Q v H'
def CR (CX : CXT) (outer : List Env) (P : Program) (w : World) (H : Hp) (s : Shared) (Q : VK) (E : XK) (r : Result) (s' : Shared) : Prop :=
 match r with
 | .ok (.ret u) => CE outer P w H s Q u s'
 | .ok _ => False
 | .error e => CX outer H s E e s'
structure FnOk (P : Program) (w : World) (K : PySem.W.Frag) (mg : Str -> Option Value) (base : Heap) (CX : CXT) (k : Nat) (f : Addr) (fd : FuncData) (ps : List Str) (sp : Sp) : Prop where
 len : ∀ vs H Q E, sp vs H Q E -> vs.length = ps.length
 run : ∀ (A : Around) (outer : List Env) (s : Shared) (H : Hp) (args : Args) (us : List Value) (vs : List V) (Q : VK) (E : XK), Room k A -> Env0 P w K mg base A outer s H -> BindsTo s fd args (ps.zip us) -> Vals vs us -> sp vs H Q E ->
  codeAny (model P w) A (.call (.ref f) args) (CR CX outer P w H s Q E) s
theorem FnOk.mono {P : Program} {w : World} {K : PySem.W.Frag} {mg : Str -> Option Value} {base : Heap} {CX : CXT} {j k : Nat} {f : Addr} {fd : FuncData} {ps : List Str} {sp : Sp} (F : FnOk P w K mg base CX j f fd ps sp) (h : j <= k) :
  FnOk P w K mg base CX k f fd ps sp := ⟨F.len, fun A outer s H args us vs Q E hr => F.run A outer s H args us vs Q E (hr.mono h)⟩
theorem FnOk.imp {P : Program} {w : World} {K : PySem.W.Frag} {mg : Str -> Option Value} {base : Heap} {CX : CXT} {k : Nat} {f : Addr} {fd : FuncData} {ps : List Str} {sp sp' : Sp} (F : FnOk P w K mg base CX k f fd ps sp)
  (h : ∀ vs H Q E, sp' vs H Q E -> sp vs H Q E) : FnOk P w K mg base CX k f fd ps sp' :=
 ⟨fun vs H Q E q => F.len vs H Q E (h _ _ _ _ q), fun A outer s H args us vs Q E hr he hb hv hs => F.run A outer s H args us vs Q E hr he hb hv (h _ _ _ _ hs)⟩
theorem Env0.make {P : Program} {w : World} {K : PySem.W.Frag} {mg : Str -> Option Value} {base : Heap} {A : Around} {outer : List Env} {s : Shared} {H : Hp} (e : Env0 P w K mg base A outer s H) (C : Addr) (us : List Value) (kw : List (Str × Value)) :
  Env0 P w K mg base (A.under (.builtin "type.__call__" ⟨.ref C :: us, kw⟩)) outer s H := ⟨by first | exact e.frames | (simpa [Around.under, Code.envs, Code.isFrame, pushEnvs] using e.frames), e.mod, e.bs, e.bsz, e.funs, e.frf, e.hok, e.bare⟩
theorem Env0.in1 {P : Program} {w : World} {K : PySem.W.Frag} {mg : Str -> Option Value} {base : Heap} {A : Around} {outer : List Env} {s : Shared} {H : Hp} (e : Env0 P w K mg base A outer s H) :
  Env0 P w K mg base A.in1 outer s H := ⟨e.frames, e.mod, e.bs, e.bsz, e.funs, e.frf, e.hok, e.bare⟩
section
variable {X : Cx} {pins : List (Addr × Obj)} {σ : St} {H : Hp} {s s' : Shared}
theorem Inv.env0 (I : Inv X pins σ H s) : Env0 X.prog X.w X.K X.mg X.base X.A X.stack s H :=
 ⟨I.ok.frames, I.ok.mod, I.bs, Yj I.ok.bsz I.sz, I.stack, I.stkFree, I.hok, I.bare⟩
theorem Inv.after {Q : VK} {u : Value} (I : Inv X pins σ H s) (h : CE X.stack X.prog X.w H s Q u s') : EP X pins σ Q u s' := by
 obtain ⟨v, H', os, bare, un, hok, r, q⟩ := h
 obtain ⟨hh, g, d, t, os'⟩ := s'
 obtain rfl : os' = s.os := os
 exact ⟨v, H', I.call (h' := hh) (g' := g) (d' := d) (t' := t) (ch := []) un hok bare (fun b z => absurd z (by simp)), r, q⟩
end
def ZeX (sp : Sp) (dvs : List V) (E : XK) (t : TA) : TE := fun σ H Q => t σ H fun vs H1 => sp (vs ++ dvs) H1 Q E
def ZgJ (C : Addr) (m : Str) (sp : Sp) (dvs : List V) (E : XK) (ta : TE) (t : TA) : TE := fun σ H Q => ta σ H fun x H1 => ∃ a dx fs, x = .ref a /\ H1 a = some (.ins C dx fs) /\ fs.lookup m = none /\
 t σ H1 fun vs H2 => sp (x :: (vs ++ dvs)) H2 Q E
def Zke (C : Addr) (sp : Sp) (dvs : List V) (E : XK) (t : TA) : TE := fun σ H Q => t σ H fun vs H1 => ∀ x dx, H1 x = none -> H1 dx = none -> dx ≠ x ->
 sp (.ref x :: (vs ++ dvs)) (upd (upd H1 dx (.own x)) x (.ins C dx [])) (fun v H2 => v = .non /\ Q (.ref x) H2) E
def Binds (K : PySem.W.Frag) (fd : FuncData) (ps : List Str) (ds : List Value) : Prop :=
 ∀ (s : Shared) (us : List Value), K.In s.heap -> (us ++ ds).length = ps.length -> BindsTo s fd ⟨us, []⟩ (ps.zip (us ++ ds))
theorem Binds.all {K : PySem.W.Frag} {fd : FuncData} {ps : List Str} (h : ∀ us : List Value, us.length = ps.length -> bindArgs fd ⟨us, []⟩ = pure (ps.zip us)) : Binds K fd ps [] := fun s us _ hl => by
 rw [Y5] at hl ⊢
 exact .of_eq (h us hl)
def ZcL (CX : CXT) (X : Cx) (E : XK) : Prop := ∀ (pins : List (Addr × Obj)) (σ : St) (H : Hp) (s : Shared) (e : Value) (s' : Shared), Inv X pins σ H s -> CX X.stack H s E e s' -> X.xe e s'
section
variable {X : Cx} {CX : CXT} {k : Nat} {f C : Addr} {fd : FuncData} {ps : List Str} {sp : Sp} {dvs : List V} {ds : List Value} {E : XK} {x m : Str} {p pos apos : Pos} {e o : Expr} {es : List Expr} {ta : TE} {t : TA}
theorem Zim {pins : List (Addr × Obj)} {σ : St} {H : Hp} {s : Shared} {Q : VK} {us : List Value} {vs : List V} (F : FnOk X.prog X.w X.K X.mg X.base CX k f fd ps sp) (hr : Room k X.A) (hb : Binds X.K fd ps ds) (hd : Vals dvs ds) (hx : ZcL CX X E)
  (I : Inv X pins σ H s) (r : Vals vs us) (h : sp (vs ++ dvs) H Q E) : wpAny (model X.prog X.w) X.A (call (.ref f) us) (EP X pins σ Q) X.xe s := by
 have r2 : Vals (vs ++ dvs) (us ++ ds) := r.append hd
 have hl : (us ++ ds).length = ps.length := by rw [<- r2.length]; exact F.len _ _ _ _ h
 refine wpAny_call (YV (F.run X.A X.stack s H ⟨us, []⟩ (us ++ ds) (vs ++ dvs) Q E hr I.env0 (hb s us I.kIn hl) r2 h) fun r s' hq => ?_)
 cases r with
 | error e => exact hx pins σ H s e s' I hq
 | ok fl =>
  cases fl with
  | ret u => exact I.after hq
  | next => exact False.elim hq
  | brk => exact False.elim hq
  | cont => exact False.elim hq
theorem Zhg (F : FnOk X.prog X.w X.K X.mg X.base CX k f fd ps sp) (hr : Room k X.A) (hg : Gl X x) (hm : X.mg x = some (.ref f)) (hk : keepIn X.K (.ref f) = true) (hb : Binds X.K fd ps ds) (hd : Vals dvs ds) (hx : ZcL CX X E)
  (ha : PA X (e :: es) t) (hdb : (x == ("__debug__" : Str)) = false := by decide) (he : starEach (e :: es) X.env = (false, eval e X.env) :: starEach es X.env := by rfl) (hpl : (backTo pos (starEach es X.env)).any (·.1) = false := by rfl) :
  PE X (.Call (.Name x p) (e :: es) [] pos) (ZeX sp dvs E t) := by
 intro pins s σ H Q I h
 refine Vd (ZeO I hg hm ?_ hdb)
 refine callWith_K (h₀ := X.base) I.ok.mod.kin hk (ZJ (ha pos pins s σ H _ I h) fun us s1 ⟨vs, H1, I1, r, q⟩ => ⟨I1.kIn, ?_⟩) he hpl
 exact Zim F hr hb hd hx I1 r q
theorem ZmW {pl : Sem Bool} (he : PE X o ta) (c : Cls X.K C) (hm : Meth X.K C m f) (F : FnOk X.prog X.w X.K X.mg X.base CX k f fd ps sp) (hr : Room k X.A) (hb : Binds X.K fd ps ds) (hd : Vals dvs ds) (hx : ZcL CX X E) (ha : PA X (e :: es) t)
  (hst : starEach (e :: es) X.env = (false, eval e X.env) :: starEach es X.env := by rfl) (hpl : (backTo pos (starEach es X.env)).any (·.1) = false := by rfl)
  (ht : eval (.Call (.Attribute o m apos) (e :: es) [] pos) X.env = (do
   let ov <- eval o X.env
   standAt apos.atName
   let (f, first) <- holding [ov] (getMethod ov m pl)
   callWith pos f first (backTo pos (starEach (e :: es) X.env)) (backToKw pos (keywordEach [] X.env))) := by rfl) :
  PE X (.Call (.Attribute o m apos) (e :: es) [] pos) (ZgJ C m sp dvs E ta t) := by
 intro pins s σ H Q I h
 refine methodCall_KW (pl := pl) (ZJ (he pins s σ H _ I h) fun u s1 ⟨x, H1, I1, rx, a, dx, fs, ex, ea, l, q⟩ => ?_) ht
 subst ex
 obtain rfl : u = Value.ref a := rx
 refine ZcZ I1 ea c hm l ?_
 refine callWith_K (first := [.ref a]) (h₀ := X.base) I.ok.mod.kin hm.kp (ZJ (ha pos pins s1 σ H1 _ I1 q) fun us s2 ⟨vs, H2, I2, r, q2⟩ => ⟨I2.kIn, ?_⟩) hst hpl
 exact Zim (us := .ref a :: us) (vs := .ref a :: vs) F hr hb hd hx I2 (.cons rfl r) q2
theorem ZjJ {pl : Sem Bool} (he : PE X o ta) (c : Cls X.K C) (hm : Meth X.K C m f) (F : FnOk X.prog X.w X.K X.mg X.base CX k f fd ps sp) (hr : Room k X.A) (hb : Binds X.K fd ps ds) (hd : Vals dvs ds) (hx : ZcL CX X E)
  (ht : eval (.Call (.Attribute o m apos) [] [] pos) X.env = (do
   let ov <- eval o X.env
   standAt apos.atName
   let (f, first) <- holding [ov] (getMethod ov m pl)
   callWith pos f first (backTo pos (starEach [] X.env)) (backToKw pos (keywordEach [] X.env))) := by rfl) :
  PE X (.Call (.Attribute o m apos) [] [] pos) (ZgJ C m sp dvs E ta Zmu) := by
 intro pins s σ H Q I h
 refine methodCall_KW (pl := pl) (ZJ (he pins s σ H _ I h) fun u s1 ⟨x, H1, I1, rx, a, dx, fs, ex, ea, l, q⟩ => ?_) ht
 subst ex
 obtain rfl : u = Value.ref a := rx
 refine ZcZ I1 ea c hm l ?_
 exact PySem.W.callWith_K0 (first := [.ref a]) I1.kIn hm.kp (Zim (us := [.ref a]) (vs := [.ref a]) F hr hb hd hx I1 (.cons rfl .nil) q)
structure Mk (K : PySem.W.Frag) (C f : Addr) : Prop where
 makes : makesIn K C = true
 init : PySem.W.findIn K (.ref C) "__init__" = some (some (.ref f))
 fn : isFn K (.ref f) = true
 kp : keepIn K (.ref C) = true
theorem ZjC {pins : List (Addr × Obj)} {σ : St} {H : Hp} {s : Shared} {Q : VK} {us : List Value} {vs : List V} (M : Mk X.K C f) (F : FnOk X.prog X.w X.K X.mg X.base CX k f fd ps sp) (hr : Room (k + 1) X.A) (hb : Binds X.K fd ps ds) (hd : Vals dvs ds)
  (hx : ZcL CX X E) (I : Inv X pins σ H s) (r : Vals vs us)
  (h : ∀ x dx, H x = none -> H dx = none -> dx ≠ x -> sp (.ref x :: (vs ++ dvs)) (upd (upd H dx (.own x)) x (.ins C dx [])) (fun v H2 => v = .non /\ Q (.ref x) H2) E) :
  wpAny (model X.prog X.w) X.A (call (.ref C) us) (EP X pins σ Q) X.xe s := by
 have hq := h (s.heap.objs.size + 1) s.heap.objs.size (I.hok.fresh (Vr _)) (I.hok.fresh (Yd _)) (Yk (VN _))
 have I2 := Inv.made (C := C) I
 have r2 : Vals (V.ref (s.heap.objs.size + 1) :: (vs ++ dvs)) (Value.ref (s.heap.objs.size + 1) :: (us ++ ds)) := .cons rfl (r.append hd)
 have hl : (Value.ref (s.heap.objs.size + 1) :: us ++ ds).length = ps.length := by
  have e := r2.length
  rw [F.len _ _ _ _ hq] at e
  exact e.symm
 refine wpAny_call (Zjj (f := f) I.kIn M.makes M.init (beq_iff_eq.mp M.fn) (YV (F.run _ X.stack _ _ ⟨Value.ref (s.heap.objs.size + 1) :: us, []⟩ (Value.ref (s.heap.objs.size + 1) :: (us ++ ds)) _ _ E (hr.make C us [])
  (I2.env0.make C us []) (hb _ (Value.ref (s.heap.objs.size + 1) :: us) I2.kIn hl) r2 hq) fun r s' hq' => ?_))
 cases r with
 | error e => exact hx pins σ _ _ e s' I2 hq'
 | ok fl =>
  cases fl with
  | ret u =>
   obtain ⟨v, H', I3, rv, ev, q3⟩ := I2.after hq'
   subst ev
   exact ⟨rv, ⟨V.ref (s.heap.objs.size + 1), H', I3, rfl, q3⟩⟩
  | next => exact False.elim hq'
  | brk => exact False.elim hq'
  | cont => exact False.elim hq'
theorem ZlH (M : Mk X.K C f) (F : FnOk X.prog X.w X.K X.mg X.base CX k f fd ps sp) (hr : Room (k + 1) X.A) (hg : Gl X x) (hm : X.mg x = some (.ref C)) (hb : Binds X.K fd ps ds) (hd : Vals dvs ds) (hx : ZcL CX X E)
  (ha : PA X (e :: es) t) (hdb : (x == ("__debug__" : Str)) = false := by decide) (he : starEach (e :: es) X.env = (false, eval e X.env) :: starEach es X.env := by rfl) (hpl : (backTo pos (starEach es X.env)).any (·.1) = false := by rfl) :
  PE X (.Call (.Name x p) (e :: es) [] pos) (Zke C sp dvs E t) := by
 intro pins s σ H Q I h
 refine Vd (ZeO I hg hm ?_ hdb)
 refine callWith_K (h₀ := X.base) I.ok.mod.kin M.kp (ZJ (ha pos pins s σ H _ I h) fun us s1 ⟨vs, H1, I1, r, q⟩ => ⟨I1.kIn, ?_⟩) he hpl
 exact ZjC M F hr hb hd hx I1 r q
end
def PK (X : Cx) (kws : List Keyword) (t : TA) : Prop :=
 ∀ (pos : Pos) (pins : List (Addr × Obj)) (s : Shared) (σ : St) (H : Hp) (Q : List V -> Hp -> Prop), Inv X pins σ H s -> t σ H Q -> wpAny (model X.prog X.w) X.A (evalAll ((backToKw pos (keywordEach kws X.env)).map (·.2))) (AP X pins σ Q) X.xe s
section
variable {X : Cx} {CX : CXT} {k : Nat} {f C : Addr} {fd : FuncData} {ps ks : List Str} {sp : Sp} {E : XK} {x m : Str} {p pos apos kpos : Pos} {e o : Expr} {es : List Expr} {kws : List Keyword} {te ta : TE} {t tk : TA} {nm : Option Str}
theorem ZoB : PK X [] Zmu := fun _ _ _ _ H Q I h => wpAny_evalAll_nil ⟨[], H, I, .nil, h⟩
theorem ZiL (ha : PE X e te) (hr : PK X kws t) : PK X (⟨nm, e, kpos⟩ :: kws) (ZgI te t) := by
 intro pos pins s σ H Q I h
 show wpAny _ _ (evalAll ((do let v <- eval e X.env; standAt pos; pure v) :: (backToKw pos (keywordEach kws X.env)).map (·.2))) _ _ s
 refine wpAny_evalAll_cons (Ya (ZJ (ha pins s σ H _ I h) fun u s1 ⟨x, H1, I1, r1, q1⟩ => Ya (V9 (Yb ?_))))
 exact ZJ (hr pos pins s1 σ H1 _ I1 q1) fun us s2 ⟨xs, H2, I2, r2, q2⟩ => ⟨x :: xs, H2, I2, .cons r1 r2, q2⟩
structure KBinds (K : PySem.W.Frag) (fd : FuncData) (ps ks : List Str) (g : List Value -> List Value -> List Value) (gV : List V -> List V -> List V) : Prop where
 to : ∀ (s : Shared) (us ws : List Value), K.In s.heap -> (g us ws).length = ps.length -> BindsTo s fd ⟨us, ks.zip ws⟩ (ps.zip (g us ws))
 rel : ∀ {vs : List V} {us : List Value} {zs : List V} {ws : List Value}, Vals vs us -> Vals zs ws -> Vals (gV vs zs) (g us ws)
variable {g : List Value -> List Value -> List Value} {gV : List V -> List V -> List V}
end
structure FnScope (N P : List Str) (sc : Scope) : Prop where
 kind : sc.kind = .function
 co : sc.isCoroutine = false
 gen : sc.isGenerator = false
 nd : N.Nodup
 pre : N.take P.length = P
 par : ∀ x ∈ P, sc.names.lookup x = some .local \/ sc.names.lookup x = some .cell
 nofree : ∀ y ∈ sc.names, y.2 ≠ .free
theorem Zea {kindOf : Str -> Option NameKind} {x : Str} : ∀ {binds : List (Str × Value)} {m : Str -> Option Value}, (∀ v, (x, v) ∉ binds) -> bindL kindOf binds m x = m x
 | [], _, _ => rfl
 | (n, v) :: r, m, h => by
  unfold bindL
  rw [Zea fun w hw => h w (Y1 _ hw)]
  split
  ·have : x ≠ n := by rintro rfl; exact h v Vc
   simp [this]
  ·rfl
theorem Zeg {kindOf : Str -> Option NameKind} {x : Str} : ∀ {binds : List (Str × Value)} {m : Str -> Option Value}, (∀ v, (x, v) ∉ binds) -> bindC kindOf binds m x = m x
 | [], _, _ => rfl
 | (n, v) :: r, m, h => by
  unfold bindC
  rw [Zeg fun w hw => h w (Y1 _ hw)]
  split
  ·rfl
  ·have : x ≠ n := by rintro rfl; exact h v Vc
   simp [this]
theorem Zd7 {kindOf : Str -> Option NameKind} {x : Str} {v : Value} : ∀ {P : List Str} {vs : List Value} {i : Nat} {m : Str -> Option Value}, P.Nodup -> P[i]? = some x -> vs[i]? = some v -> kindOf x = some .local ->
  bindL kindOf (P.zip vs) m x = some v
 | [], _, _, _, _, h, _, _ => by simp at h
 | _ :: _, [], _, _, _, _, h, _ => by simp at h
 | p :: P, w :: vs, 0, m, nd, h1, h2, hk => by
  simp at h1 h2; subst h1; subst h2
  show bindL kindOf ((p, w) :: P.zip vs) m p = _
  unfold bindL
  rw [Zea fun v hv => (Y4.mp nd).1 (VO hv).1, if_pos hk]
  simp
 | p :: P, w :: vs, i + 1, m, nd, h1, h2, hk => by
  show bindL kindOf ((p, w) :: P.zip vs) m x = _
  unfold bindL
  exact Zd7 (i := i) (List.nodup_cons.mp nd).2 (by simpa using h1) (by simpa using h2) hk
theorem Zd0 {kindOf : Str -> Option NameKind} {x : Str} {v : Value} : ∀ {P : List Str} {vs : List Value} {i : Nat} {m : Str -> Option Value}, P.Nodup -> P[i]? = some x -> vs[i]? = some v -> kindOf x ≠ some .local ->
  bindC kindOf (P.zip vs) m x = some v
 | [], _, _, _, _, h, _, _ => by simp at h
 | _ :: _, [], _, _, _, _, h, _ => by simp at h
 | p :: P, w :: vs, 0, m, nd, h1, h2, hk => by
  simp at h1 h2; subst h1; subst h2
  show bindC kindOf ((p, w) :: P.zip vs) m p = _
  unfold bindC
  rw [Zeg fun v hv => (Y4.mp nd).1 (VO hv).1, if_neg hk]
  simp
 | p :: P, w :: vs, i + 1, m, nd, h1, h2, hk => by
  show bindC kindOf ((p, w) :: P.zip vs) m x = _
  unfold bindC
  exact Zd0 (i := i) (List.nodup_cons.mp nd).2 (by simpa using h1) (by simpa using h2) hk
def Zu (N : List Str) (vs : List V) : St := vs.map some ++ List.replicate (N.length - vs.length) none
def J0 (CX : CXT) (P : Program) (w : World) (K : PySem.W.Frag) (mg : Str -> Option Value) (base : Heap) (N : List Str) (qual : Str) (scope : Scope) (f : Addr) (cd : Value) (A : Around) (outer : List Env) (s : Shared) (H : Hp) (E : XK) : Cx where
 prog := P
 w := w
 K := K
 mg := mg
 base := base
 A := A.deeper (envOfC qual scope s.heap.objs.size f cd)
 N := N
 s₀ := s
 H₀ := H
 env := envOfC qual scope s.heap.objs.size f cd
 outer := outer
 stack := envOfC qual scope s.heap.objs.size f cd :: outer
 ex := []
 calm := true
 fn := fun _ => true
 pn := []
 xe := fun e s' => wpAny (model P w) (A.deeper (envOfC qual scope s.heap.objs.size f cd)) (leaving (envOfC qual scope s.heap.objs.size f cd) e) (fun _ s'' => CX outer H s E e s'') (fun e' s'' => CX outer H s E e' s'') s'
theorem ZfQ {sc : Scope} {n : Nat} {x : Str} (h : sc.names.lookup x = some .cell) : ∃ c, (cellsFrom n sc.names []).lookup x = some c := by
 have q := cellsFrom_some sc.names n [] (.inl h)
 exact Option.isSome_iff_exists.mp q
theorem ZiI {CX : CXT} {P : Program} {w : World} {K : PySem.W.Frag} {mg : Str -> Option Value} {base : Heap} {N ps : List Str} {qual : Str} {scope : Scope} {f : Addr} {cd : Value} {A : Around} {outer : List Env} {s s1 : Shared} {H : Hp} {E : XK} {us : List Value} {vs : List V}
  (S : FnScope N ps scope) (hd : A.handled = none) (e0 : Env0 P w K mg base A outer s H) (hl : vs.length = ps.length) (r : Vals vs us)
  (x : InCallC s s.heap.objs.size (bindL (envOfC qual scope s.heap.objs.size f cd).kindOf (ps.zip us) fun _ => none) (cellsFrom (s.heap.objs.size + 1) scope.names []) (bindC (envOfC qual scope s.heap.objs.size f cd).kindOf (ps.zip us) fun _ => none) s1) :
  Inv (J0 CX P w K mg base N qual scope f cd A outer s H E) [] (Zu N vs) H s1 := by
 have hpl : ps.length <= N.length := by have := congrArg List.length S.pre; rw [YM] at this; omega
 obtain ⟨h1, tk, rfl, hk⟩ := x.done
 have noA : ∀ b : Addr, b ∉ (J0 CX P w K mg base N qual scope f cd A outer s H E).ex := fun b z => absurd (show b ∈ ([] : List Addr) from z) (by simp)
 refine ⟨⟨e0.mod, S.kind, rfl, rfl, Yd _, fun y z c h1 h2 => ?_, fun y hy => ?_, fun y c _ h => ?_, fun _ => hd, Around.frames_deeper e0.frames, .inr ⟨rfl, rfl⟩, fun b z => absurd z (noA b), e0.bs, e0.bsz, fun b _ _ => noA b, fun b z => absurd z (noA b), e0.funs, e0.frf⟩,
  rfl, e0.bare, Un.kept hk, ⟨_, x.toInCall.ns, fun i y v h1 h2 h3 => ?_⟩, fun y c h => ⟨_, x.cell y c h⟩, e0.hok.fresh (Nat.le_refl _), fun y c h => ?_, fun p hp => absurd (show p ∈ ([] : List (Addr × Obj)) from hp) (by simp), e0.hok.kept hk, ?_⟩
 ·exact name_of_addr x.apart (Vb h1) (Vb h2)
 ·have hy : scope.names.lookup y = some .cell \/ scope.names.lookup y = some .free := hy
  rcases hy with hy | hy
  ·exact ZfQ hy
  ·exact absurd rfl (S.nofree _ (Vb hy))
 ·exact Yr (x.above y c (Vb h))
 ·have hi : i < vs.length := by
   unfold Zu at h2
   by_cases hi : i < vs.length
   ·exact hi
   ·rw [List.getElem?_append_right (by simpa using hi)] at h2
    rw [List.getElem?_replicate] at h2
    split at h2 <;> cases h2
  have ha : vs[i]? = some v := by
   unfold Zu at h2
   rw [List.getElem?_append_left (by simpa using hi), List.getElem?_map] at h2
   cases e : vs[i]? with
   | none => rw [e] at h2; cases h2
   | some a => rw [e] at h2; cases h2; rfl
  obtain ⟨u, hu, rv⟩ := r.get ha
  have hp : ps[i]? = some y := by
   rw [<- S.pre, List.getElem?_take_of_lt (by omega)]; exact h1
  have ndP : ps.Nodup := by rw [<- S.pre]; exact S.nd.sublist (Vn _ _)
  refine ⟨u, rv, ?_⟩
  rcases S.par y (Yo hp) with k | k
  ·exact .inl ⟨k, Zd7 ndP hp hu k⟩
  ·obtain ⟨c, e⟩ := ZfQ (n := s.heap.objs.size + 1) k
   refine .inr ⟨.inl k, c, e, ?_⟩
   have q := x.cell y c e
   rw [Zd0 ndP hp hu (by show scope.names.lookup y ≠ _; rw [k]; decide)] at q
   exact q
 ·exact e0.hok.fresh (Yr (x.above y c (Vb h)))
 ·unfold Zu
  show _ = N.length
  rw [YS, Yi, List.length_replicate]
  omega
theorem ZlS {CX : CXT} {P : Program} {w : World} {K : PySem.W.Frag} {mg : Str -> Option Value} {base : Heap} {k : Nat} {f : Addr} {name qual : Str} {params : Arguments} {body : List Stmt} {scope : Scope} {dV kV doc pm cdv ct oc : Value} {an od : Option Addr}
  {osl : Array (Option Value)} {N ps : List Str} {sp : Sp} (lk : K.lookup f = some ⟨oc, od, .func (fnOf name qual params body scope dV kV doc pm an cdv ct), osl⟩) (hcd : codeIn K cdv qual = true) (S : FnScope N ps scope)
  (len : ∀ vs H Q E, sp vs H Q E -> vs.length = ps.length)
  (hbody : ∀ (A : Around) (outer : List Env) (s : Shared) (H : Hp) (vs : List V) (Q : VK) (E : XK), Room k (A.deeper (envOfC qual scope s.heap.objs.size f cdv)) -> sp vs H Q E ->
   ∃ t, PSs (J0 CX P w K mg base N qual scope f cdv A outer s H E) body t /\ t { nx := fun _ H' => Q .non H', rt := Q } (Zu N vs) H) :
  FnOk P w K mg base CX (k + 1) f (fnOf name qual params body scope dV kV doc pm an cdv ct) ps sp := by
 refine ⟨len, fun A outer s H args us vs Q E hr e0 hb r hsp => ?_⟩
 have hl := len _ _ _ _ hsp
 have KX : K.In s.heap := e0.mod.kin.keeps fun b o e => (e0.bs b o e).1
 have lim : s.heap.NoLimit := e0.mod.nolimit.keeps fun b o e => (e0.bs b o e).1
 have hkind : ∀ y ∈ ps.zip us, scope.names.lookup y.1 = some .local \/ (scope.names.lookup y.1 = some .cell /\ ((cellsFrom (s.heap.objs.size + 1) scope.names []).lookup y.1).isSome = true) := fun ⟨n, v⟩ hy => by
  rcases S.par n (VO hy).1 with q | q
  ·exact .inl q
  ·exact .inr ⟨q, cellsFrom_some _ _ _ (.inl q)⟩
 refine codeAny_call_function hr.depth (KX _ _ lk) rfl S.co S.gen rfl (PySem.W.codeRec_of KX hcd) (hb _ _ _ _ ?_)
 refine wpAny_newFunctionEnv_cells S.kind hkind fun env he s1 x => ?_
 subst he
 refine ⟨lim.keeps x.toInCall.keep, codeAny_func ?_⟩
 obtain ⟨t, ht, hq⟩ := hbody A outer s H vs Q E (hr.deeper _) hsp
 have I : Inv (J0 CX P w K mg base N qual scope f cdv A outer s H E) [] (Zu N vs) H s1 := ZiI S hr.hd e0 hl r x
 refine Yu (ht [] s1 (Zu N vs) H _ I hq) (fun fl s' hs => ?_) fun e s' hs => hs
 have fin : ∀ {σ' : St} {H' : Hp} {v : V} {u : Value}, Inv (J0 CX P w K mg base N qual scope f cdv A outer s H E) [] σ' H' s' -> RelV v u -> Q v H' -> CE outer P w H s Q u s' :=
  fun {σ' H' v u} J rv q => ⟨v, H', J.os, J.bare, J.base, J.hok, rv, q⟩
 cases fl with
 | ret u =>
  obtain ⟨v, σ', H', J, rv, q⟩ := hs
  exact fin J rv q
 | next =>
  obtain ⟨σ', H', J, q⟩ := hs
  exact fin (v := V.non) (u := Value.none) J rfl q
 | brk =>
  obtain ⟨_, _, _, q⟩ := hs
  exact False.elim q
 | cont =>
  obtain ⟨_, _, _, q⟩ := hs
  exact False.elim q
end L2
namespace L2
open PySem PySem.Spec PyProof.Rows
section
variable {X : Cx} {x : Str} {p pos : Pos} {e : Expr} {es : List Expr} {t : TA} {id T : String} {r : List V -> Hp -> VK -> Prop}
def tCB (r : List V -> Hp -> VK -> Prop) (t : TA) : TE := fun σ H Q => t σ H fun vs H1 => r vs H1 Q
theorem ZaC (hc : CallR X (.builtin id) r) (hg : Gl X x) (hm : X.mg x = none) (hv : bootBuiltins x = some (.builtin id)) (ha : PA X (e :: es) t) (hn : x ≠ "__name__" := by decide) (hdb : (x == ("__debug__" : Str)) = false := by decide)
  (he : starEach (e :: es) X.env = (false, eval e X.env) :: starEach es X.env := by rfl) (hpl : (backTo pos (starEach es X.env)).any (·.1) = false := by rfl) : PE X (.Call (.Name x p) (e :: es) [] pos) (tCB r t) := by
 intro pins s σ H Q I h
 refine Vd (Jm I hg hm hv ?_ hn hdb)
 exact PyProof.Rows.callWith_builtin1 (ZJ (ha pos pins s σ H _ I h) fun us s1 ⟨vs, H1, I1, r1, q1⟩ => hc pins s1 σ H1 vs us Q I1 r1 q1) he hpl
theorem Za0 (hc : CallR X (.type T) r) (hg : Gl X x) (hm : X.mg x = none) (hv : bootBuiltins x = some (.type T)) (ha : PA X (e :: es) t) (hn : x ≠ "__name__" := by decide) (hdb : (x == ("__debug__" : Str)) = false := by decide)
  (he : starEach (e :: es) X.env = (false, eval e X.env) :: starEach es X.env := by rfl) (hpl : (backTo pos (starEach es X.env)).any (·.1) = false := by rfl) : PE X (.Call (.Name x p) (e :: es) [] pos) (tCB r t) := by
 intro pins s σ H Q I h
 refine Vd (Jm I hg hm hv ?_ hn hdb)
 exact Y7 (ZJ (ha pos pins s σ H _ I h) fun us s1 ⟨vs, H1, I1, r1, q1⟩ => hc pins s1 σ H1 vs us Q I1 r1 q1) he hpl
end
end L2
namespace HT
open PySem PyProof.Rows
section
open PySem.SeqAt
open PySem.AutoSeq1 (wpAny_loadPart')
open PySem.MeetsSeq PySem.MeetsSeq2 PySem.MeetsSeq3
end
section
variable {prog : Program} {w : World} {A : Around} {E : Value -> Shared -> Prop} {s : Shared}
def sIx (n d : Nat) : Option Int -> Nat
 | none => d
 | some v => if v < 0 then (v + (n : Int)).toNat else min v.toNat n
theorem Zox (n d : Nat) (hd : d <= n) (o : Option Int) : sIx n d o <= n := by
 cases o with
 | none => exact hd
 | some v =>
  show (if v < 0 then (v + (n : Int)).toNat else min v.toNat n) <= n
  by_cases hv : v < 0
  ·rw [if_pos hv]; omega
  ·rw [if_neg hv]; exact Nat.min_le_right _ _
theorem Zip (v : Int) (n d : Nat) : (if v < 0 then max (v + (n : Int)) 0 else min v (n : Int)) = ((sIx n d (some v) : Nat) : Int) := by
 show (if v < 0 then max (v + (n : Int)) 0 else min v (n : Int)) = (((if v < 0 then (v + (n : Int)).toNat else min v.toNat n) : Nat) : Int)
 by_cases hv : v < 0
 ·simp only [if_pos hv]; omega
 ·simp only [if_neg hv]; omega
theorem ZgQ (lo hi : Option Int) (n : Nat) : Builtin.Slice.sliceAdjust lo hi 1 (n : Int) = (((sIx n 0 lo : Nat) : Int), ((sIx n n hi : Nat) : Int)) := by
 have h1 : ¬ ((1 : Int) < 0) := by omega
 unfold Builtin.Slice.sliceAdjust
 simp only [h1, if_false]
 refine Prod.ext ?_ ?_
 ·cases lo with
  | none => rfl
  | some v => exact Zip v n 0
 ·cases hi with
  | none => rfl
  | some v => exact Zip v n n
theorem ZgG (i j : Nat) : Builtin.Slice.slicePlaces (i : Int) (j : Int) 1 = j - i := by
 unfold Builtin.Slice.slicePlaces
 have h1 : (1 : Int) > 0 := by omega
 simp only [h1, if_true, Int.ediv_one]
 split <;> omega
theorem Zc0 {v : Value} {o : Option Int} {Q : Option Int -> Shared -> Prop} (p : IsPart v o) (h : Q o s) : wpAny (model prog w) A (Builtin.Slice.slicePartIndex v) Q E s := by
 cases p with
 | none => exact slicePart_none h
 | int i t => exact slicePart_int h
theorem ZbS {sl : Addr} {vl vu : Value} {lo hi : Option Int} {n : Nat} {Q : Int × Int × Nat -> Shared -> Prop} (hs : s.heap.IsSliceOf sl vl vu .none) (pl : IsPart vl lo) (pu : IsPart vu hi)
  (h : Q (((sIx n 0 lo : Nat) : Int), 1, sIx n n hi - sIx n 0 lo) s) : wpAny (model prog w) A (Builtin.Slice.sliceApplied (.ref sl) (pure (n : Int))) Q E s := by
 obtain ⟨os, hos, hcs, hds⟩ := id hs
 unfold Builtin.Slice.sliceApplied Builtin.Slice.sliceFields
 refine Ya (Ya (wpAny_field hos hds (x := vl) rfl (Ya (wpAny_field hos hds (x := vu) rfl (Ya (wpAny_field hos hds (x := .none) rfl (Yb ?_)))))))
 refine Ya (slicePart_none ?_)
 show wpAny _ _ (if ((1 : Int) == 0) = true then _ else _) _ _ s
 rw [if_neg (by decide)]
 refine Ya (Zc0 pl (Ya (Zc0 pu (Ya (Yb ?_)))))
 show wpAny _ _ (match Builtin.Slice.sliceAdjust lo hi 1 (n : Int) with | (lo, hi) => pure (lo, (1 : Int), Builtin.Slice.slicePlaces lo hi 1)) _ _ s
 rw [ZgQ lo hi n]
 show wpAny _ _ (pure (((sIx n 0 lo : Nat) : Int), (1 : Int), Builtin.Slice.slicePlaces ((sIx n 0 lo : Nat) : Int) ((sIx n n hi : Nat) : Int) 1)) _ _ s
 rw [ZgG]
 exact Yb h
theorem ZkB (xs : Array Value) (i k : Nat) : ((List.range k).filterMap fun (m : Nat) => xs[((i : Int) + (m : Int) * 1).toNat]?).toArray = ((xs.toList.drop i).take k).toArray := by
 have e : (fun (m : Nat) => xs[((i : Int) + (m : Int) * 1).toNat]?) = fun m => xs[i + m]? := by
  funext m
  have : ((i : Int) + (m : Int) * 1).toNat = i + m := by omega
  rw [this]
 rw [e]
 have := pick_run xs i k
 rw [List.filterMap_map] at this
 have e2 : ((fun x => xs[x]?) ∘ fun x => i + x) = fun m => xs[i + m]? := rfl
 rw [e2] at this
 rw [this]
theorem getItem_tuple_cut {t sl : Addr} {items : Array Value} {vl vu : Value} {lo hi : Option Int} {Q : Value -> Shared -> Prop} (ht : IsTup s.heap t items) (hs : s.heap.IsSliceOf sl vl vu .none) (pl : IsPart vl lo) (pu : IsPart vu hi)
  (hw : ¬ (sIx items.size 0 lo = 0 /\ sIx items.size items.size hi = items.size))
  (h : Q (.ref s.heap.objs.size) { s with heap := s.heap.push { cls := .type "tuple", data := .seq ((items.toList.drop (sIx items.size 0 lo)).take (sIx items.size items.size hi - sIx items.size 0 lo)).toArray } })
  (hsz : items.size <= sizeLine) : wpAny (model prog w) A (getItem (.ref t) (.ref sl)) Q E s := by
 have htake : sizeOk (.seq ((items.toList.drop (sIx items.size 0 lo)).take (sIx items.size items.size hi - sIx items.size 0 lo)).toArray) := by
  show ((items.toList.drop (sIx items.size 0 lo)).take (sIx items.size items.size hi - sIx items.size 0 lo)).toArray.size <= sizeLine
  rw [YE, YM, List.length_drop, YG]
  omega
 have hj : sIx items.size items.size hi <= items.size := Zox _ _ (Yd _) hi
 obtain ⟨os, hos, hcs, hds⟩ := id hs
 have hTs : s.TypeIs (.ref sl) "slice" := ⟨os, hos, hcs⟩
 unfold getItem
 try with_reducible refine YJ ?_
 first | refine Ya (Yb ?_) | skip
 refine Ya (wpAny_sequenceKey ht.typeIs (by decide) ?_)
 refine Ya (VX (name := Str.ofString "__getitem__") ht.typeIs PyProof.Rows.slot_tuple_getitem
  (YU PyProof.Rows.slot_tuple_getitem ht.typeIs entry_tuple_getitem ?_ (args_tuple_getitem _ _)))
 show wpAny _ _ (Builtin.Tuple.tupleItemsOf (.ref t) >>= _) _ _ s
 refine Ya (tupleItemsOf_ ht ?_)
 refine Ya (wpAny_typeOf hTs ?_)
 rw [if_pos (by decide)]
 refine Ya (ZbS hs pl pu ?_)
 have hno : ¬ ((((sIx items.size 0 lo : Nat) : Int) == 0 && (1 : Int) == 1 && (sIx items.size items.size hi - sIx items.size 0 lo) == items.size) = true) := by
  intro q
  rw [Vz, Vz] at q
  have q1 : ((sIx items.size 0 lo : Nat) : Int) = 0 := eq_of_beq q.1.1
  have q2 : sIx items.size items.size hi - sIx items.size 0 lo = items.size := eq_of_beq q.2
  exact hw ⟨by omega, by omega⟩
 show wpAny _ _ (if (((sIx items.size 0 lo : Nat) : Int) == 0 && (1 : Int) == 1 && (sIx items.size items.size hi - sIx items.size 0 lo) == items.size) = true then _ else _) _ _ s
 rw [if_neg hno, ZkB]
 first
  | exact Ya (m := Builtin.Tuple.tupleExact _) (YT (Yb ⟨_, rfl, Yb h⟩) htake)
  | exact Ya (m := Builtin.Tuple.tupleExact _) (YT (Ya (Yb (Yb ⟨_, rfl, Yb h⟩))) htake)
  | exact Ya (Ya (m := Builtin.Tuple.tupleExact _) (YT (Yb (Yb ⟨_, rfl, Yb h⟩)) htake))
  | exact Ya (Ya (m := Builtin.Tuple.tupleExact _) (YT (Yb ⟨_, rfl, Yb h⟩) htake))
end
end HT
namespace L2
open PySem PySem.Spec PyProof.Rows
abbrev TO := St -> Hp -> (Option Int -> Hp -> Prop) -> Prop
def PO (X : Cx) (e : Option Expr) (t : TO) : Prop :=
 ∀ (pins : List (Addr × Obj)) (s : Shared) (σ : St) (H : Hp) (Q : Option Int -> Hp -> Prop), Inv X pins σ H s -> t σ H Q ->
  wpAny (model X.prog X.w) X.A (evalPart e X.env) (fun u s' => ∃ o H', Inv X pins σ H' s' /\ IsPart u o /\ Q o H') X.xe s
def Zcd : TO := fun _ H Q => Q none H
def Zh8 (t : TE) : TO := fun σ H Q => t σ H fun x H1 => ∃ i, x = .int i /\ Q (some i) H1
section
variable {X : Cx} {e : Expr} {te : TE} {lo hi : Option Expr} {tl th : TO} {pos p2 : Pos}
theorem Zhi : PO X none Zcd := by
 intro pins s σ H Q I h
 rw [evalPart_none]
 exact Yb ⟨none, H, I, .none, h⟩
theorem ZiO (h : PE X e te) : PO X (some e) (Zh8 te) := by
 intro pins s σ H Q I hw
 rw [evalPart_some]
 refine ZJ (h pins s σ H _ I hw) fun u s1 ⟨x, H1, I1, r1, q1⟩ => ?_
 obtain ⟨i, rfl, q⟩ := q1
 obtain ⟨t, rfl⟩ := r1
 exact ⟨some i, H1, I1, .int i t, q⟩
def SlR (X : Cx) (r : V -> Option Int -> Option Int -> Hp -> VK -> Prop) : Prop :=
 ∀ (pins : List (Addr × Obj)) (s : Shared) (σ : St) (H : Hp) (x : V) (v vl vu : Value) (lo hi : Option Int) (sl : Addr) (Q : VK), Inv X pins σ H s -> RelV x v -> s.heap.IsSliceOf sl vl vu .none -> IsPart vl lo -> IsPart vu hi -> r x lo hi H Q ->
  ∃ T id, typeLookup (.type T) "__getitem__" = pure (some (.builtin id)) /\ s.TypeIs v T /\ wpAny (model X.prog X.w) X.A (getItem v (.ref sl)) (EP X pins σ Q) X.xe s
theorem SlR.or {r r' : V -> Option Int -> Option Int -> Hp -> VK -> Prop} (h : SlR X r) (h' : SlR X r') : SlR X (fun x lo hi H Q => r x lo hi H Q \/ r' x lo hi H Q) := by
 intro pins s σ H x v vl vu lo hi sl Q I rx hs pl pu q
 rcases q with q | q
 ·exact h pins s σ H x v vl vu lo hi sl Q I rx hs pl pu q
 ·exact h' pins s σ H x v vl vu lo hi sl Q I rx hs pl pu q
def tSl (r : V -> Option Int -> Option Int -> Hp -> VK -> Prop) (te : TE) (tl th : TO) : TE := fun σ H Q => te σ H fun x H1 => tl σ H1 fun l H2 => th σ H2 fun u H3 => r x l u H3 Q
theorem ZfV {r : V -> Option Int -> Option Int -> Hp -> VK -> Prop} (hr : SlR X r) (he : PE X e te) (hl : PO X lo tl) (hu : PO X hi th) : PE X (.Subscript e (.Slice lo hi none p2) pos) (tSl r te tl th) := by
 intro pins s σ H Q I h
 refine Subscript_ (ZJ (he pins s σ H _ I h) fun v s1 ⟨x, H1, I1, r1, q1⟩ => ?_)
 refine wpAny_Slice (ZJ (hl pins s1 σ H1 _ I1 q1) fun vl s2 ⟨l, H2, I2, pl, q2⟩ => ZJ (hu pins s2 σ H2 _ I2 q2) fun vu s3 ⟨u, H3, I3, pu, q3⟩ => ?_)
 rw [evalPart_none]
 refine Yb ?_
 have I4 : Inv X pins σ H3 { s3 with heap := s3.heap.push { cls := .type "slice", data := .fields #[vl, vu, .none] } } := I3.kept (t' := s3.toks) fun b ob q => Yf _ q
 obtain ⟨T, id, hT, ht, hg⟩ := hr pins { s3 with heap := s3.heap.push { cls := .type "slice", data := .fields #[vl, vu, .none] } } σ H3 x v vl vu l u s3.heap.objs.size Q I4 r1 (Heap.IsSliceOf.new ..) pl pu q3
 show wpAny (model X.prog X.w) X.A (subscriptTail e (.Slice lo hi none p2) v (.ref s3.heap.objs.size)) (EP X pins σ Q) X.xe { s3 with heap := s3.heap.push { cls := .type "slice", data := .fields #[vl, vu, .none] } }
 exact tail_any (ops := [.ref s3.heap.objs.size, v]) ht hT hg (by with_unfolding_all rfl)
def Zoz (xs : List V) (lo hi : Option Int) : List V := (xs.drop (HT.sIx xs.length 0 lo)).take (HT.sIx xs.length xs.length hi - HT.sIx xs.length 0 lo)
theorem ZeY (xs : List V) (lo hi : Option Int) : (Zoz xs lo hi).length <= xs.length := by
 unfold Zoz
 rw [YM, List.length_drop]
 omega
def Zpd (K : PySem.W.Frag) : V -> Option Int -> Option Int -> Hp -> VK -> Prop := fun x lo hi H Q => ∃ a xs, x = .ref a /\ SqT K H a xs /\
 ¬ (HT.sIx xs.length 0 lo = 0 /\ HT.sIx xs.length xs.length hi = xs.length) /\ ∀ p, H p = none -> Q (.ref p) (upd H p (.tup (Zoz xs lo hi)))
theorem ZnO : SlR X (Zpd X.K) := by
 intro pins s σ H x v vl vu lo hi sl Q I rx hs pl pu h
 obtain ⟨a, xs, rfl, hx, hw, q⟩ := h
 cases rx
 obtain ⟨its, r, ht, hz⟩ := I.tuple hx
 have hlen : its.toArray.size = xs.length := by rw [YE]; exact r.length.symm
 refine ⟨"tuple", _, PyProof.Rows.slot_tuple_getitem.lookup, ht.typeIs, ?_⟩
 refine HT.getItem_tuple_cut ht hs pl pu (by rw [hlen]; exact hw) ?_ (by rw [hlen]; exact hz)
 rw [hlen]
 refine ⟨.ref s.heap.objs.size, _, I.laid (t' := s.toks) (o := .tup (Zoz xs lo hi)) (fun b ob q => Yf _ q) (Yd _) ?_, rfl, q _ (I.hok.fresh (Yd _))⟩
 exact ⟨Yj (ZeY xs lo hi) hz, _, (r.drop (HT.sIx xs.length 0 lo)).take (HT.sIx xs.length xs.length hi - HT.sIx xs.length 0 lo), IsTup.new _ _⟩
end
end L2
namespace L2
open PySem PySem.Spec PyProof.Rows
def ixN (n : Nat) (i : Int) : Option Nat := if 0 <= i then (if i < n then some i.toNat else none) else if -(n : Int) <= i then some (i + n).toNat else none
def atI {α : Type} (xs : List α) (i : Int) : Option α := (ixN xs.length i).bind fun j => xs[j]?
theorem ZiM {n : Nat} {i : Int} {j : Nat} (h : ixN n i = some j) : seqIndex? i n = some j /\ j < n /\ -(n : Int) <= i /\ i < n := by
 unfold ixN at h
 by_cases h0 : 0 <= i
 ·rw [if_pos h0] at h
  by_cases h1 : i < n
  ·rw [if_pos h1] at h
   have e : i.toNat = j := YO h
   exact ⟨by rw [seqIndex_of h0 h1, e], by omega, by omega, h1⟩
  ·rw [if_neg h1] at h; cases h
 ·rw [if_neg h0] at h
  by_cases h1 : -(n : Int) <= i
  ·rw [if_pos h1] at h
   have e : (i + n).toNat = j := YO h
   exact ⟨by rw [seqIndex_neg (by omega) h1, e], by omega, h1, by omega⟩
  ·rw [if_neg h1] at h; cases h
theorem Ze0 {α : Type} {xs : List α} {i : Int} {v : α} (h : atI xs i = some v) : ∃ j, seqIndex? i xs.length = some j /\ xs[j]? = some v /\ j < xs.length /\ -(xs.length : Int) <= i /\ i < xs.length := by
 unfold atI at h
 cases e : ixN xs.length i with
 | none => rw [e] at h; cases h
 | some j =>
  rw [e] at h
  obtain ⟨h1, h2, h3, h4⟩ := ZiM e
  exact ⟨j, h1, h, h2, h3, h4⟩
theorem ZE {α : Type} {xs : List α} {j : Nat} {v : α} (h : xs[j]? = some v) : atI xs (j : Int) = some v := by
 have hj : j < xs.length := (Yg.mp h).1
 have e : ixN xs.length (j : Int) = some j := by
  unfold ixN
  rw [if_pos (by omega), if_pos (by omega)]; simp
 unfold atI; rw [e]; exact h
def Zcl (b : Expr) : Prop := ∀ o i, subscripted b false o i = operate [o, i] (getItem o i)
def IxR (X : Cx) (r : R2) : Prop :=
 ∀ (value slice : Expr) (pins : List (Addr × Obj)) (s : Shared) (σ : St) (H : Hp) (x y : V) (v u : Value) (Q : VK), Inv X pins σ H s -> RelV x v -> RelV y u -> r x y H Q ->
  subscripted slice false v u = operate [v, u] (getItem v u) -> wpAny (model X.prog X.w) X.A (subscriptTail value slice v u) (EP X pins σ Q) X.xe s
def MtR (X : Cx) (id : String) (r : V -> List V -> Hp -> VK -> Prop) : Prop :=
 ∀ (pins : List (Addr × Obj)) (s : Shared) (σ : St) (H : Hp) (x : V) (xs : List V) (v : Value) (us : List Value) (Q : VK), Inv X pins σ H s -> RelV x v -> Vals xs us -> r x xs H Q ->
  wpAny (model X.prog X.w) X.A (call (.builtin id) (v :: us)) (EP X pins σ Q) X.xe s
section
variable {X : Cx} {a b : Expr} {ta tb : TE} {pos : Pos}
theorem IxR.or {r r' : R2} (h : IxR X r) (h' : IxR X r') : IxR X (fun x y H Q => r x y H Q \/ r' x y H Q) := by
 intro value slice pins s σ H x y v u Q I rx ry q hs
 rcases q with q | q
 ·exact h value slice pins s σ H x y v u Q I rx ry q hs
 ·exact h' value slice pins s σ H x y v u Q I rx ry q hs
theorem MtR.or {id : String} {r r' : V -> List V -> Hp -> VK -> Prop} (h : MtR X id r) (h' : MtR X id r') : MtR X id (fun x xs H Q => r x xs H Q \/ r' x xs H Q) := by
 intro pins s σ H x xs v us Q I rx rs q
 rcases q with q | q
 ·exact h pins s σ H x xs v us Q I rx rs q
 ·exact h' pins s σ H x xs v us Q I rx rs q
theorem Zkq {r : R2} (hr : IxR X r) (ha : PE X a ta) (hb : PE X b tb) (hs : Zcl b) : PE X (.Subscript a b pos) (tOp r ta tb) := by
 intro pins s σ H Q I h
 exact Subscript_ (ZpO ha hb I h fun v u s2 x y H2 I2 rx ry q => hr a b pins s2 σ H2 x y v u Q I2 rx ry q (hs _ _))
def Zo9 (K : PySem.W.Frag) : R2 := fun x y H Q => ∃ p xs i v, x = .ref p /\ y = .int i /\ SqL K H p xs /\ atI xs i = some v /\ Q v H
def Zqr (K : PySem.W.Frag) : R2 := fun x y H Q => ∃ p xs i v, x = .ref p /\ y = .int i /\ SqT K H p xs /\ atI xs i = some v /\ Q v H
def Zpj : R2 := fun x y H Q => ∃ z i c, x = .str z /\ y = .int i /\ z.length <= sizeLine /\ atI z.cps.toList i = some c /\ Q (.str ⟨#[c]⟩) H
theorem ZiN : IxR X (Zo9 X.K) := by
 intro value slice pins s σ H x y v u Q I rx ry h hs
 obtain ⟨p, xs, i, z, rfl, rfl, hq, he, q⟩ := h
 cases rx
 obtain ⟨t, rfl⟩ := ry
 obtain ⟨its, r, pl, hz⟩ := I.list hq
 obtain ⟨j, h1, h2, h3, h4, h5⟩ := Ze0 he
 obtain ⟨w, ew, rw'⟩ := r.get h2
 have hl := r.length
 have hn := Zer
 have fin : EP X pins σ Q w s := ⟨z, H, I, rw', q⟩
 by_cases h0 : 0 <= i
 ·have hj : i.toNat = j := by
   rw [seqIndex_of h0 h5] at h1
   exact YO h1
  exact item_listR pl.isList h0 (by omega) (by rw [hj]; simpa using ew) fin hs
 ·have hj : (i + (its.toArray.size : Int)).toNat = j := by
   rw [seqIndex_neg (by omega) h4] at h1
   rw [YE, <- hl]
   exact YO h1
  exact subscriptTail_builtinR (x := w) pl.isList.typeIs slot_list_getitem.lookup
   (wpAny_getItem_list_neg (Q := fun r s' => r = w /\ EP X pins σ Q r s') pl.isList (by omega) (by rw [List.size_toArray] <;> omega) (by omega) (by rw [hj]; simpa using ew) ⟨rfl, fin⟩) hs
theorem ZnQ : IxR X (Zqr X.K) := by
 intro value slice pins s σ H x y v u Q I rx ry h hs
 obtain ⟨p, xs, i, z, rfl, rfl, hq, he, q⟩ := h
 cases rx
 obtain ⟨t, rfl⟩ := ry
 obtain ⟨its, r, pl, hz⟩ := I.tuple hq
 obtain ⟨j, h1, h2, h3, h4, h5⟩ := Ze0 he
 obtain ⟨w, ew, rw'⟩ := r.get h2
 have hl := r.length
 have hn := Zer
 have fin : EP X pins σ Q w s := ⟨z, H, I, rw', q⟩
 exact subscriptTail_builtinR (x := w) pl.typeIs slot_tuple_getitem.lookup
  (getItem_tuple (j := j) (Q := fun r s' => r = w /\ EP X pins σ Q r s') pl (by omega) (by omega) (by rw [List.size_toArray, <- hl]; exact h1) (by simpa using ew) ⟨rfl, fin⟩) hs
theorem ZoS : IxR X Zpj := by
 intro value slice pins s σ H x y v u Q I rx ry h hs
 obtain ⟨z, i, c, rfl, rfl, hz, he, q⟩ := h
 obtain ⟨t, rfl⟩ := rx
 obtain ⟨t', rfl⟩ := ry
 obtain ⟨j, h1, h2, h3, h4, h5⟩ := Ze0 he
 have hl : z.cps.toList.length = z.length := by simp [Str.length]
 rw [hl] at h1 h4 h5
 have hn := Zer
 exact tail_any (typeIs_str s z t) slot_str_getitem.lookup (getItem_str (c := c) (by
  have e1 : decide (i < -(2 ^ 63 : Int)) = false := YX (by omega)
  have e2 : decide (i >= 2 ^ 63) = false := YX (by omega)
  rw [e1, e2, Bool.or_false]) (by rw [h1]; simpa using h2) ⟨.str ⟨#[c]⟩, H, I.tok _, ⟨_, rfl⟩, q⟩) hs
theorem Zgh (its : List Value) (n j : Nat) (u : Value) : Obj.mapSeq (·.setIfInBounds j u) { cls := .type "list", data := .seq its.toArray n } = { cls := .type "list", data := .seq (its.set j u).toArray n } := by
 simp [Obj.mapSeq]
theorem Inv.lst {pins : List (Addr × Obj)} {σ : St} {H : Hp} {s : Shared} {p : Addr} {xs : List V} (I : Inv X pins σ H s) (h : H p = some (.lst xs)) :
  ∃ (its : List Value) (n : Nat), Vals xs its /\ s.heap.get? p = some { cls := .type "list", data := .seq its.toArray n } /\ xs.length <= sizeLine := by
 obtain ⟨z, its, n, r, e⟩ := I.hok p _ h
 exact ⟨its, n, r, e, z⟩
theorem Inv.lstUpd {pins : List (Addr × Obj)} {σ : St} {H : Hp} {s : Shared} {p : Addr} {xs ys : List V} {its its' : List Value} {n n' : Nat} {f : Obj -> Obj} (I : Inv X pins σ H s) (h : H p = some (.lst xs))
  (ho : s.heap.get? p = some { cls := .type "list", data := .seq its.toArray n }) (hf : f { cls := .type "list", data := .seq its.toArray n } = { cls := .type "list", data := .seq its'.toArray n' }) (r : Vals ys its') (hz : ys.length <= sizeLine) (t : Nat) :
  Inv X pins σ (upd H p (.lst ys)) { s with heap := s.heap.update p f, toks := t } := by
 have e : (s.heap.update p f).get? p = some { cls := .type "list", data := .seq its'.toArray n' } := by
  rw [Yan f ho (by rw [hf] <;> rfl), hf]
 refine I.write (x := p) (e := p) (by rw [h]; trivial) (.inl rfl) (fun b u hb q => (Vm _ _ (Ne.symm hb)).trans q) ⟨_, e⟩ ?_
 exact ⟨hz, its', n', r, e⟩
def ZkE : V -> V -> V -> Hp -> (Hp -> Prop) -> Prop := fun o i v H Q => ∃ p xs k j, o = .ref p /\ i = .int k /\ H p = some (.lst xs) /\ ixN xs.length k = some j /\ Q (upd H p (.lst (xs.set j v)))
theorem ZkJ : Zqe X ZkE := by
 intro pins s σ H o i v ov iv u Q I ro ri rv h
 obtain ⟨p, xs, k, j, rfl, rfl, hp, hj, q⟩ := h
 cases ro
 obtain ⟨t, rfl⟩ := ri
 obtain ⟨its, n, r, ho, hz⟩ := I.lst hp
 obtain ⟨h1, h2, h3, h4⟩ := ZiM hj
 have hl := r.length
 have hn := Zer
 have I' : Inv X pins σ (upd H p (.lst (xs.set j v))) { s with heap := s.heap.update p (Obj.mapSeq (·.setIfInBounds j u)) } :=
  I.lstUpd hp ho (Zgh its n j u) (r.set rv j) (by rw [List.length_set]; exact hz) s.toks
 by_cases h0 : 0 <= k
 ·have hk : k.toNat = j := by
   rw [seqIndex_of h0 h4] at h1
   exact YO h1
  exact PySem.W.ki_setAt ho h0 (by omega) (by rw [YE, <- hl]; exact h4) (by rw [hk]; exact ⟨_, I', q⟩)
 ·have hk : (k + (its.toArray.size : Int)).toNat = j := by
   rw [seqIndex_neg (by omega) h3] at h1
   rw [YE, <- hl]
   exact YO h1
  exact PySem.W.ki_setBack ho (by omega) (by rw [YE, <- hl]; exact h3) (by omega) (by rw [hk]; exact ⟨_, I', q⟩)
def JN : V -> Bool
 | .non => true
 | .bl _ => true
 | .int _ => true
 | .str _ => true
 | _ => false
def eqV : V -> V -> Bool
 | .non, .non => true
 | .bl a, .bl b => a == b
 | .bl a, .int b => (if a then 1 else 0) == b
 | .int a, .bl b => a == (if b then 1 else 0)
 | .int a, .int b => a == b
 | .str a, .str b => a == b
 | _, _ => false
theorem ZlA {A : Around} {s : Shared} {y x : V} {u v : Value} (ry : RelV y u) (rx : RelV x v) (fy : JN y = true) (fx : JN x = true) : SeqAt.EqAt A s u v (eqV y x) := by
 cases y with
 | non =>
  cases ry
  cases x with
  | non => cases rx; exact SeqAt.EqAt.same _
  | bl b => cases rx; exact SeqAt.EqAt.none_bool b
  | int b => obtain ⟨t, rfl⟩ := rx; exact SeqAt.EqAt.none_int b t
  | str b => obtain ⟨t, rfl⟩ := rx; exact SeqAt.EqAt.none_str b t
  | _ => exact absurd (show false = true from fx) Yz
 | bl a =>
  cases ry
  cases x with
  | non => cases rx; exact SeqAt.EqAt.bool_none a
  | bl b => cases rx; exact SeqAt.EqAt.bool_bool a b
  | int b => obtain ⟨t, rfl⟩ := rx; exact SeqAt.EqAt.bool_int a b t
  | str b => obtain ⟨t, rfl⟩ := rx; exact SeqAt.EqAt.bool_str a b t
  | _ => exact absurd (show false = true from fx) Yz
 | int a =>
  obtain ⟨t', rfl⟩ := ry
  cases x with
  | non => cases rx; exact SeqAt.EqAt.int_none a t'
  | bl b => cases rx; exact SeqAt.EqAt.int_bool a t' b
  | int b => obtain ⟨t, rfl⟩ := rx; exact SeqAt.EqAt.int_int a t' b t
  | str b => obtain ⟨t, rfl⟩ := rx; exact SeqAt.EqAt.int_str a t' b t
  | _ => exact absurd (show false = true from fx) Yz
 | str a =>
  obtain ⟨t', rfl⟩ := ry
  cases x with
  | non => cases rx; exact SeqAt.EqAt.str_none a t'
  | bl b => cases rx; exact SeqAt.EqAt.str_bool a t' b
  | int b => obtain ⟨t, rfl⟩ := rx; exact SeqAt.EqAt.str_int a t' b t
  | str b => obtain ⟨t, rfl⟩ := rx; exact SeqAt.EqAt.str_str a t' b t
  | _ => exact absurd (show false = true from fx) Yz
 | _ => exact absurd (show false = true from fy) Yz
def eqU (x : V) (u : Value) : Bool := match u with
 | .none => eqV .non x
 | .bool b => eqV (.bl b) x
 | .int i _ => eqV (.int i) x
 | .str z _ => eqV (.str z) x
 | _ => false
theorem Zlh {x y : V} {u : Value} (r : RelV y u) (f : JN y = true) : eqU x u = eqV y x := by
 cases y with
 | non => cases r; rfl
 | bl b => cases r; rfl
 | int i => obtain ⟨t, rfl⟩ := r; rfl
 | str z => obtain ⟨t, rfl⟩ := r; rfl
 | _ => exact absurd (show false = true from f) Yz
theorem Zb9 {x : V} : ∀ {xs : List V} {us : List Value}, Vals xs us -> xs.all JN = true -> us.any (eqU x) = xs.any fun y => eqV y x
 | _, _, .nil, _ => rfl
 | y :: xs, u :: us, .cons r t, f => by
  rw [List.all_cons, Vz] at f
  rw [VT, VT, Zlh r f.1, Zb9 t f.2]
theorem Zbl {A : Around} {s : Shared} {x : V} {v : Value} (rx : RelV x v) (fx : JN x = true) : ∀ {xs : List V} {us : List Value}, Vals xs us -> xs.all JN = true -> ∀ u ∈ us, SeqAt.EqAt A s u v (eqU x u)
 | _, _, .nil, _ => fun u hu => by cases hu
 | y :: xs, u :: us, .cons r t, f => fun u' hu => by
  rw [List.all_cons, Vz] at f
  rcases Yn.mp hu with rfl | hu
  ·rw [Zlh r f.1]; exact ZlA r rx f.1 fx
  ·exact Zbl rx fx t f.2 u' hu
def inV (x : V) (xs : List V) : Bool := xs.any fun y => eqV y x
def rIn (K : PySem.W.Frag) (neg : Bool) : R2 := fun x y H Q => ∃ p xs, y = .ref p /\ (SqL K H p xs \/ SqT K H p xs) /\ JN x = true /\ xs.all JN = true /\ Q (.bl (if neg then !inV x xs else inV x xs)) H
theorem ZiG : OpR X (compareOp .In) (rIn X.K false) := by
 intro pins s σ H x y v u Q I rx ry h
 obtain ⟨p, xs, rfl, hq, fx, fs, q⟩ := h
 cases ry
 rcases hq with hq | hq
 ·obtain ⟨its, r, pl, hz⟩ := I.list hq
  refine SeqAt.in_listAt (eqU x) pl.isList (fun w hw => Zbl rx fx r fs w (by simpa using hw)) ⟨.bl _, H, I, rfl, ?_⟩
  rw [show its.toArray.any (eqU x) = its.any (eqU x) by simp, Zb9 r fs]
  exact q
 ·obtain ⟨its, r, pl, hz⟩ := I.tuple hq
  refine SeqAt.in_tupleAt (eqU x) pl (fun w hw => Zbl rx fx r fs w (by simpa using hw)) ⟨.bl _, H, I, rfl, ?_⟩
  rw [show its.toArray.any (eqU x) = its.any (eqU x) by simp, Zb9 r fs]
  exact q
theorem ZbN : OpR X (compareOp .NotIn) (rIn X.K true) := by
 intro pins s σ H x y v u Q I rx ry h
 obtain ⟨p, xs, rfl, hq, fx, fs, q⟩ := h
 cases ry
 rcases hq with hq | hq
 ·obtain ⟨its, r, pl, hz⟩ := I.list hq
  refine SeqAt.notIn_listAt (eqU x) pl.isList (fun w hw => Zbl rx fx r fs w (by simpa using hw)) ⟨.bl _, H, I, rfl, ?_⟩
  rw [show its.toArray.any (eqU x) = its.any (eqU x) by simp, Zb9 r fs]
  exact q
 ·obtain ⟨its, r, pl, hz⟩ := I.tuple hq
  refine SeqAt.notIn_tupleAt (eqU x) pl (fun w hw => Zbl rx fx r fs w (by simpa using hw)) ⟨.bl _, H, I, rfl, ?_⟩
  rw [show its.toArray.any (eqU x) = its.any (eqU x) by simp, Zb9 r fs]
  exact q
theorem ZbJ : CallR X (.builtin "len") (fun xs H Q => ∃ p ys, xs = [.ref p] /\ (SqL X.K H p ys \/ SqT X.K H p ys) /\ Q (.int ys.length) H) := by
 intro pins s σ H xs us Q I r h
 obtain ⟨p, ys, rfl, hq, q⟩ := h
 obtain ⟨u, rfl, rx⟩ := Jn r
 cases rx
 have hn := Zer
 rcases hq with hq | hq
 ·obtain ⟨its, r', pl, hz⟩ := I.list hq
  have hlen := r'.length
  exact Calls.call_len_list pl.isList (by simp only [List.size_toArray] <;> omega) ⟨.int ys.length, H, I.tok _, ⟨s.toks + 1, by rw [List.size_toArray, hlen]⟩, q⟩
 ·obtain ⟨its, r', pl, hz⟩ := I.tuple hq
  have hlen := r'.length
  exact len_tuple pl (by simp only [List.size_toArray] <;> omega) ⟨.int ys.length, H, I.tok _, ⟨s.toks + 1, by rw [List.size_toArray, hlen]⟩, q⟩
theorem CallR.or {f : Value} {r r' : List V -> Hp -> VK -> Prop} (h : CallR X f r) (h' : CallR X f r') : CallR X f (fun xs H Q => r xs H Q \/ r' xs H Q) := by
 intro pins s σ H xs us Q I rs q
 rcases q with q | q
 ·exact h pins s σ H xs us Q I rs q
 ·exact h' pins s σ H xs us Q I rs q
theorem ZbI : CallR X (.type "list") (fun xs H Q => ∃ p ys, xs = [.ref p] /\ (SqL X.K H p ys \/ SqT X.K H p ys) /\ ∀ l, H l = none -> Q (.ref l) (upd H l (.lst ys))) := by
 intro pins s σ H xs us Q I r h
 obtain ⟨p, ys, rfl, hq, q⟩ := h
 obtain ⟨u, rfl, rx⟩ := Jn r
 cases rx
 have fin : ∀ (its : List Value), Vals ys its -> ys.length <= sizeLine -> ∀ (h' : Heap) (c' : Nat), (∀ b o', s.heap.get? b = some o' -> h'.get? b = some o') ->
   h'.get? s.heap.objs.size = some { cls := .type "list", dict := none, data := .seq its.toArray c', slots := #[] } -> EP X pins σ Q (.ref s.heap.objs.size) { s with heap := h' } := fun its r' hz h' c' kp e =>
  ⟨.ref s.heap.objs.size, _, I.laid (t' := s.toks) kp (Yd _) (show ObjOk X.prog X.w _ h' _ (.lst ys) from ⟨hz, its, c', r', e⟩), rfl, q _ (I.hok.fresh (Yd _))⟩
 rcases hq with hq | hq
 ·obtain ⟨its, r', pl, hz⟩ := I.list hq
  have hlen := r'.length
  obtain ⟨o, ho, hc, n, hd⟩ := pl.isList
  exact call_list_seq p (.inl rfl) ho hc hd (fun h' c' kp e => fin its r' hz h' c' kp e) (by simp only [List.size_toArray] <;> omega)
 ·obtain ⟨its, r', pl, hz⟩ := I.tuple hq
  have hlen := r'.length
  obtain ⟨o, ho, hc, n, hd⟩ := pl
  exact call_list_seq p (.inr rfl) ho hc hd (fun h' c' kp e => fin its r' hz h' c' kp e) (by simp only [List.size_toArray] <;> omega)
def tyV (K : PySem.W.Frag) (T : String) (x : V) (H : Hp) : Prop := match x with
 | .str _ => T = "str"
 | .int _ => T = "int"
 | .ref p => (T = "list" /\ ∃ xs, SqL K H p xs) \/ (T = "tuple" /\ ∃ o, K.lookup p = some o /\ o.cls = .type "tuple" /\ o.dict = none) \/
   (T = "dict" /\ ((∃ kvs, H p = some (.dK kvs)) \/ ∃ kvs, H p = some (.dT kvs))) \/ (T = "set" /\ ∃ S n, H p = some (.set S n))
 | _ => False
theorem Zhd {pins : List (Addr × Obj)} {σ : St} {H : Hp} {s : Shared} {T : String} {x : V} {v : Value} (I : Inv X pins σ H s) (r : RelV x v) (ty : tyV X.K T x H) :
  s.TypeIs v T /\ ∀ a, v = .ref a -> ∃ ob, s.heap.get? a = some ob /\ ob.dict = none := by
 cases x with
 | str z =>
  obtain ⟨t, rfl⟩ := r
  cases (show T = "str" from ty)
  exact ⟨typeIs_str s z t, fun _ e => nomatch e⟩
 | int i =>
  obtain ⟨t, rfl⟩ := r
  cases (show T = "int" from ty)
  exact ⟨typeIs_int s i t, fun _ e => nomatch e⟩
 | ref p =>
  cases r
  rcases ty with ⟨rfl, xs, hq⟩ | ⟨rfl, o, hk, hc, hd⟩ | ⟨rfl, hk⟩ | ⟨rfl, S, n, hk⟩
  ·obtain ⟨its, _, pl, _⟩ := I.list hq
   refine ⟨pl.isList.typeIs, fun a e => ?_⟩
   cases e
   obtain ⟨o, n, e, c, hd, _⟩ := pl
   exact ⟨o, e, hd⟩
  ·refine ⟨⟨o, I.kIn p o hk, hc⟩, fun a e => ?_⟩
   cases e
   exact ⟨o, I.kIn _ o hk, hd⟩
  ·have z : ∃ o, s.heap.get? p = some o /\ o.ExactDict := by
    rcases hk with ⟨kvs, hk⟩ | ⟨kvs, hk⟩
    ·obtain ⟨_, _, _, _, o, _, _, e, ex, _⟩ := I.hok p _ hk
     exact ⟨o, e, ex⟩
    ·obtain ⟨_, _, _, _, o, _, _, e, ex, _⟩ := I.hok p _ hk
     exact ⟨o, e, ex⟩
   obtain ⟨o, e, ex⟩ := z
   refine ⟨⟨o, e, ex.1⟩, fun a e2 => ?_⟩
   cases e2
   exact ⟨o, e, ex.2.1⟩
  ·obtain ⟨o, _, _, _, e, ex, _⟩ := I.hok p _ hk
   refine ⟨⟨o, e, ex.1⟩, fun a e2 => ?_⟩
   cases e2
   exact ⟨o, e, ex.2.1⟩
 | _ => exact False.elim ty
def tBM (K : PySem.W.Frag) (T : String) (r : V -> List V -> Hp -> VK -> Prop) (to : TE) (t : TA) : TE := fun σ H Q => to σ H fun x H1 => tyV K T x H1 /\ t σ H1 fun xs H2 => r x xs H2 Q
variable {o e : Expr} {es : List Expr} {to : TE} {t : TA} {name : Str} {apos cpos : Pos} {T id : String} {r : V -> List V -> Hp -> VK -> Prop}
end
end L2
namespace L2
open PySem PySem.Spec PyProof.Rows
def MtM (X : Cx) (id : String) (r : V -> List V -> Hp -> VK -> Prop) : Prop :=
 ∀ (pins : List (Addr × Obj)) (s : Shared) (σ : St) (H : Hp) (x : V) (xs : List V) (v : Value) (us : List Value) (Q : VK), Inv X pins σ H s -> RelV x v -> Vals xs us -> r x xs H Q ->
  wpAny (model X.prog X.w) X.A (call (.builtin id) (v :: us)) (EP X pins σ Q) X.xe s
theorem Vals.one : ∀ {x : V} {us : List Value}, Vals [x] us -> ∃ u, us = [u] /\ RelV x u
 | _, _, .cons r .nil => ⟨_, rfl, r⟩
theorem Vals.zero : ∀ {us : List Value}, Vals [] us -> us = []
 | _, .nil => rfl
theorem Vals.dropLast {xs : List V} {us : List Value} (h : Vals xs us) : Vals xs.dropLast us.dropLast := by
 induction h with
 | nil => exact .nil
 | cons r t ih =>
  cases t with
  | nil => exact .nil
  | cons q t' => exact .cons r ih
theorem Vals.eraseIdx : ∀ {xs : List V} {us : List Value} (i : Nat), Vals xs us -> Vals (xs.eraseIdx i) (us.eraseIdx i)
 | _, _, _, .nil => .nil
 | _, _, 0, .cons _ t => t
 | _, _, i + 1, .cons r t => .cons r (Vals.eraseIdx i t)
theorem Vals.reverse {xs : List V} {us : List Value} (h : Vals xs us) : Vals xs.reverse us.reverse := by
 induction h with
 | nil => exact .nil
 | cons r t ih => rw [List.reverse_cons, List.reverse_cons]; exact Vals.append ih (.cons r .nil)
theorem ZgM {α : Type} (l : List α) : l.eraseIdx (l.length - 1) = l.dropLast := by
 induction l with
 | nil => rfl
 | cons a r ih =>
  cases r with
  | nil => rfl
  | cons b r =>
   have e : (a :: b :: r).length - 1 = ((b :: r).length - 1) + 1 := by
    have h1 : (a :: b :: r).length = r.length + 2 := rfl
    have h2 : (b :: r).length = r.length + 1 := rfl
    omega
   rw [e, List.eraseIdx_cons_succ, ih]
   all_goals rfl
section
variable {X : Cx} {pins : List (Addr × Obj)} {σ : St} {H : Hp} {s : Shared} {l b : Addr} {xs ys zs : List V}
theorem Inv.lset {its its' : List Value} {n : Nat} {f : Array Value -> Array Value} {t' : Nat} (I : Inv X pins σ H s) (hH : H l = some (.lst xs))
  (e : s.heap.get? l = some { cls := .type "list", data := .seq its.toArray n }) (hf : f its.toArray = its'.toArray) (hv : Vals ys its') (hz : ys.length <= sizeLine) :
  Inv X pins σ (upd H l (.lst ys)) { s with heap := s.heap.update l (Obj.mapSeq f), toks := t' } := by
 have q := PySem.IsL.update e f
 rw [hf] at q
 refine I.write (x := l) (e := l) (by rw [hH]; exact trivial) (.inl rfl) (fun b' u hb hu => (Vm s.heap (Obj.mapSeq f) (Ne.symm hb)).trans hu) ⟨_, q⟩ ?_
 exact ⟨hz, its', _, hv, q⟩
theorem Inv.lnew {its : List Value} {t' : Nat} (I : Inv X pins σ H s) (hv : Vals ys its) (hz : ys.length <= sizeLine) :
  Inv X pins σ (upd H s.heap.objs.size (.lst ys)) { s with heap := s.heap.push { cls := .type "list", data := .seq its.toArray }, toks := t' } :=
 I.laid (fun _ _ q => Yf _ q) (Yd _) ⟨hz, its, 0, hv, Ym _ rfl⟩
theorem Inv.fresh (I : Inv X pins σ H s) : H s.heap.objs.size = none := I.hok.fresh (Yd _)
theorem Inv.lstM (I : Inv X pins σ H s) (hH : H l = some (.lst xs)) : xs.length <= sizeLine /\ ∃ (its : List Value) (n : Nat), Vals xs its /\ xs.length = its.length /\ s.heap.get? l = some { cls := .type "list", data := .seq its.toArray n } := by
 obtain ⟨z, its, n, r, e⟩ := I.hok l _ hH
 exact ⟨z, its, n, r, r.length, e⟩
theorem Zj9 {n : Nat} (h : n <= sizeLine) : Builtin.List.listTooLong n = false := by
 unfold Builtin.List.listTooLong
 exact YX (by omega)
end
section
variable {X : Cx}
def ZeQ : V -> List V -> Hp -> VK -> Prop := fun x vs H Q => ∃ l xs y, x = .ref l /\ vs = [y] /\ H l = some (.lst xs) /\ xs.length < sizeLine /\ Q .non (upd H l (.lst (xs ++ [y])))
theorem Zel : MtM X "list.append" ZeQ := by
 intro pins s σ H x vs v us Q I rx rv h
 obtain ⟨l, xs, y, rfl, rfl, hH, hz, q⟩ := h
 cases rx
 obtain ⟨u, rfl, ru⟩ := rv.one
 obtain ⟨z, its, n, r, hl, e⟩ := I.lstM hH
 refine call_meets F.slot_list_append ⟨_, e, rfl⟩ F.entry_list_append (F.args_list_append_2 _ _) (PySem.list_append l its.toArray n u (by rw [YE]; omega)) ⟨e, ?_⟩
 refine ⟨.non, _, I.lset (its' := its ++ [u]) hH e (by simp) (r.append (.cons ru .nil)) ?_, rfl, q⟩
 rw [YS, List.length_singleton]
 omega
def Zdd : V -> List V -> Hp -> VK -> Prop := fun x vs H Q => ∃ l b xs zs, x = .ref l /\ vs = [.ref b] /\ H l = some (.lst xs) /\ H b = some (.lst zs) /\ xs.length + zs.length <= sizeLine /\ Q .non (upd H l (.lst (xs ++ zs)))
theorem ZhX : MtM X "list.extend" Zdd := by
 intro pins s σ H x vs v us Q I rx rv h
 obtain ⟨l, b, xs, zs, rfl, rfl, hH, hB, hz, q⟩ := h
 cases rx
 obtain ⟨u, rfl, ru⟩ := rv.one
 cases ru
 obtain ⟨z, its, n, r, hl, e⟩ := I.lstM hH
 obtain ⟨z2, its2, n2, r2, hl2, e2⟩ := I.lstM hB
 have hsz : its.toArray.size + its2.toArray.size <= sizeLine := by rw [YE, YE]; omega
 have hlong : ¬ (!its.toArray.isEmpty && Builtin.List.listTooLong (its.toArray.size + its2.toArray.size)) = true := by
  rw [Zj9 hsz, Bool.and_false]
  exact Yz
 refine call_meets F.slot_list_extend ⟨_, e, rfl⟩ F.entry_list_extend (F.args_list_extend_2 _ _)
  (AutoSeq1.list_extend_list_list_0 l its.toArray n b its2.toArray n2 hlong (by rw [YE]; omega) (by omega)) ⟨e, e2, ?_⟩
 refine ⟨.non, _, I.lset (its' := its ++ its2) hH e (by simp) (r.append r2) ?_, rfl, q⟩
 rw [YS]
 omega
def Zpg : V -> List V -> Hp -> VK -> Prop := fun x vs H Q => ∃ l xs y, x = .ref l /\ vs = [] /\ H l = some (.lst xs) /\ xs[xs.length - 1]? = some y /\ Q y (upd H l (.lst xs.dropLast))
theorem Znh : MtM X "list.pop" Zpg := by
 intro pins s σ H x vs v us Q I rx rv h
 obtain ⟨l, xs, y, rfl, rfl, hH, hy, q⟩ := h
 cases rx
 have hus := rv.zero
 subst hus
 obtain ⟨z, its, n, r, hl, e⟩ := I.lstM hH
 obtain ⟨u, hu, ru⟩ := r.get hy
 have hy' : its.toArray[its.toArray.size - 1]? = some u := by
  show its.toArray[its.length - 1]? = some u
  rw [<- YF, <- hl]
  exact hu
 refine call_meets F.slot_list_pop ⟨_, e, rfl⟩ F.entry_list_pop (F.args_list_pop_1 _) (MeetsSeq.list_pop_last l its.toArray n u hy' (by rw [YE]; omega)) ⟨e, ?_⟩
 refine ⟨y, _, I.lset (its' := its.dropLast) hH e ?_ r.dropLast ?_, ru, q⟩
 ·show its.toArray.eraseIdxIfInBounds (its.toArray.size - 1) = its.dropLast.toArray
  rw [YE, List.eraseIdxIfInBounds_toArray, ZgM]
 ·rw [List.length_dropLast]
  omega
def Zfw : V -> List V -> Hp -> VK -> Prop := fun x vs H Q => ∃ l xs, x = .ref l /\ vs = [] /\ H l = some (.lst xs) /\ Q .non (upd H l (.lst xs.reverse))
def Zld : V -> List V -> Hp -> VK -> Prop := fun x vs H Q => ∃ l xs, x = .ref l /\ vs = [] /\ H l = some (.lst xs) /\ Q .non (upd H l (.lst []))
def Zpl : R2 := fun x y H Q => ∃ l b xs zs, x = .ref l /\ y = .ref b /\ H l = some (.lst xs) /\ H b = some (.lst zs) /\ xs.length + zs.length <= sizeLine /\ ∀ p, H p = none -> Q (.ref p) (upd H p (.lst (xs ++ zs)))
theorem Zn6 : OpR X (binaryOp .Add) Zpl := by
 intro pins s σ H x y v u Q I rx ry h
 obtain ⟨l, b, xs, zs, rfl, rfl, hH, hB, hz, q⟩ := h
 cases rx
 cases ry
 obtain ⟨z, its, n, r, hl, e⟩ := I.lstM hH
 obtain ⟨z2, its2, n2, r2, hl2, e2⟩ := I.lstM hB
 refine PySem.P.add_list e e2 ?_ (by rw [YE, YE]; omega)
 have ea : its.toArray ++ its2.toArray = (its ++ its2).toArray := by simp
 rw [ea]
 exact ⟨.ref _, _, I.lnew (t' := s.toks) (r.append r2) (by rw [YS]; omega), rfl, q _ I.fresh⟩
end
section
variable {prog : Program} {w : World} {A : Around} {E : Value -> Shared -> Prop} {s : Shared}
end
section
variable {X : Cx}
end
end L2
namespace Att
open PySem PySem.W PySem.Calls PyProof.Rows
theorem Zcr {P : Params} {h : Heap} : ∀ (ns : List Int) (vs : List Value), WellAll P h vs (ns.map WData.int) -> IntsAre vs ns := by
 intro ns
 induction ns with
 | nil =>
  intro vs w
  rw [List.map_nil] at w
  cases w
  exact .nil
 | cons n ns ih =>
  intro vs w
  rw [Yq] at w
  cases w with
  | cons a b =>
   cases a
   exact .cons _ _ (ih _ b)
theorem ZgX {l : OpenLaw} {n : Nat} (hn : l.most = some n) {P : Params} {h : Heap} {args : List WData} {vals : List Value}
  (hpre : l.row.toRowW.claim.pre args = true) (hwl : WellAll P h vals args) :
  ∃ a vs ns, vals = [Value.ref a] /\ args = [WData.list (ns.map WData.int)] /\ h.get? a = some { cls := .type "list", data := .seq vs.toArray } /\ IntsAre vs ns /\ ns.length <= n := by
 have hsh : WShape.hasAll [] args [.list .int] = true := (pre_splitW hpre).1
 have hc : l.pre.holds [] { args := args } = true := (pre_splitW hpre).2
 obtain ⟨d, r, rfl, h1, h2⟩ := hasAllW_cons hsh
 obtain rfl := hasAllW_nil h2
 obtain ⟨xs, rfl, h3⟩ := hasW_list h1
 obtain ⟨ns, rfl⟩ := items_int h3
 have hlen : ns.length <= n := by
  unfold OpenLaw.pre at hc
  have h4 : (WTm.not (.lt (.lit (.int (n : Int))) (.len (.arg 0)))).holds [] { args := [.list (ns.map .int)] } = true := by
   have h4 := (holds_andW hc).1
   rw [hn] at h4
   exact h4
  have h5 := condW_of h4 (w_not (w_lt w_lit (w_len_list (w_arg rfl))))
  rw [Yi] at h5
  refine Nat.le_of_not_lt fun q => ?_
  have q' : (n : Int) < ((ns.length : Nat) : Int) := by omega
  first
   | (rw [YQ q'] at h5; exact absurd h5 (by decide))
   | (simp at h5; omega)
 cases hwl with
 | cons w1 w2 =>
  cases w2
  cases w1 with
  | list ho hall => exact ⟨_, _, ns, rfl, rfl, ho, Zcr ns _ hall, hlen⟩
theorem ZhE (l : OpenLaw) (args : List WData) : l.row.toRowW.claim.post args (.bool true) args = true :=
 postW_of (r := l.row.toRowW) (X := (true == true))
  (show WShape.has [] (.bool true) .bool = true by first | rfl | decide | simp [WShape.has, WShape.arms, WShape.armsAll])
  (show (WTm.eq .res (.lit (.bool true))).value [] { args := args, res := some (.bool true), after := args } = some (.bool (true == true)) from w_eq_bool (w_res rfl) w_lit) rfl
theorem attach_call {l : OpenLaw} {n : Nat} {q : Program} {loose : List Str} {XP : (Str -> Option Value) -> Heap -> Prop} {YP : World -> Heap -> Prop} {d : DefRec}
  (hn : l.most = some n) (hdf : d.params.defaults = [])
  (call : ∀ (w : World) (s₀ s₁ : Shared) (mg mb : Str -> Option Value) (fa : Addr) (o : Obj) (pm cd doc : Value) (a : Addr) (vs : List Value) (ns : List Int),
   Ground q loose [] XP w s₀ mg mb s₁.heap -> YP w s₁.heap ->
   s₁.heap.get? fa = some o -> o.data = .func (docDef d.name d.params d.body d.scope pm cd doc) -> s₁.heap.CodeRec cd d.name -> mg d.name = some (.ref fa) ->
   s₁.heap.get? a = some { cls := .type "list", data := .seq vs.toArray } -> IntsAre vs ns -> ns.length <= n -> s₁.gens = #[] ->
   codeAny (model l.prog w) callerA (.call (.ref fa) ⟨[.ref a], []⟩) (fun r s' => r = .ok (.ret (.bool true)) /\ OldK s₁.heap s'.heap /\ s'.os = s₁.os /\ AllBare s'.gens) s₁) :
  WalkO q loose XP YP l.row.toRowW d [] (fun f vs => PySem.call f vs) := by
 intro w s₀ s₁ mg mb G Y fa o pm cd doc dV kV ho hd hcd hD hmg hg args vals as hpre hlay hrd hwl hlo
 obtain rfl : dV = .none := Dflts.none hD hdf
 obtain rfl : kV = .none := Dflts.noKw hD
 obtain ⟨a, vs, ns, rfl, rfl, hobj, hints, hlen⟩ := ZgX hn hpre hwl
 refine enter_call (YV (call w s₀ s₁ mg mb fa o pm cd doc a vs ns G Y ho (fd_plain hd) hcd hmg hobj hints hlen hg) fun r s' hq => ?_)
 obtain ⟨rfl, h2, h3, h4⟩ := hq
 exact ⟨.inl ⟨.bool true, .bool true, [], rfl, fun _ => rfl, .bool true, ZhE l _, fun _ => ⟨List.Pairwise.nil, fun _ hm => (nomatch hm)⟩⟩, h2, h3, h4⟩
section
variable {prog : Program} {w : World} {A : Around} {E : Value -> Shared -> Prop} {s : Shared} {K : Frag}
def noObjs (h : Heap) : Heap := { h with objs := #[] }
theorem noObjs_get (h : Heap) (b : Addr) : (noObjs h).get? b = none := by
 cases e : (noObjs h).get? b with
 | none => rfl
 | some o => exact absurd (Ye e) (V1 _)
theorem fr_all {h : Heap} {L : Addr} {m : Str -> Option Value} (n : h.Ns L m) : Fr (noObjs h) L h m :=
 ⟨n, fun b o e => (by rw [noObjs_get] at e; cases e), YB _⟩
end
end Att
namespace L2
open PySem PySem.Spec PyProof.Rows
theorem ZaY : ∀ {vs : List Value} {ns : List Int}, IntsAre vs ns -> Vals (ns.map V.int) vs
 | _, _, .nil => .nil
 | _, _, .cons n t h => .cons ⟨t, rfl⟩ (ZaY h)
end L2
namespace L2
open PySem PySem.Spec PyProof.Rows
end L2
namespace L2
open PySem PySem.Spec PyProof.Rows
def ZaX (s : Stmt) (j : Nat) : Stmt := match s with
 | .ClassDef _ _ _ body _ _ _ _ _ _ _ => body.getD j (.Pass ⟨0, 0, 0, 0⟩)
 | _ => .Pass ⟨0, 0, 0, 0⟩
def Zv (s : Stmt) : Arguments := match s with
 | .FunctionDef _ a _ _ _ _ _ _ _ _ => a
 | _ => { posonlyargs := [], args := [], vararg := none, kwonlyargs := [], kw_defaults := [], kwarg := none, defaults := [] }
def Zq (s : Stmt) : List Stmt := match s with
 | .FunctionDef _ _ b _ _ _ _ _ _ _ => b
 | _ => []
def Zb (s : Stmt) : Scope := match s with
 | .FunctionDef _ _ _ _ _ _ sc _ _ _ => sc
 | _ => { kind := .function, names := [], isGenerator := false, isCoroutine := false }
abbrev Zw : CXT := fun _ _ _ _ _ _ => False
abbrev E0 : XK := fun _ _ _ => False
theorem ZhS {X : Cx} : ZcL Zw X E0 := fun _ _ _ _ _ _ _ h => h.elim
structure Fun (K : PySem.W.Frag) (x qual : Str) (st : Stmt) (f : Addr) (fd : FuncData) : Prop where
 ex : ∃ (oc : Value) (od : Option Addr) (kV doc pm : Value) (an : Option Addr) (cdv ct : Value) (osl : Array (Option Value)),
  fd = fnOf x qual (Zv st) (Zq st) (Zb st) .none kV doc pm an cdv ct /\ K.lookup f = some ⟨oc, od, .func fd, osl⟩ /\ codeIn K cdv qual = true
 kp : keepIn K (.ref f) = true
section
variable {P : Program} {w : World} {K : PySem.W.Frag} {mg : Str -> Option Value} {base : Heap}
theorem Fun.ok {x qual : Str} {st : Stmt} {f : Addr} {fd : FuncData} {N ps : List Str} {k : Nat} {sp : Sp} (F : Fun K x qual st f fd) (S : FnScope N ps (Zb st)) (len : ∀ vs H Q E, sp vs H Q E -> vs.length = ps.length)
  (hbody : ∀ (cdv : Value) (A : Around) (outer : List Env) (s : Shared) (H : Hp) (vs : List V) (Q : VK) (E : XK), Room k (A.deeper (envOfC qual (Zb st) s.heap.objs.size f cdv)) -> sp vs H Q E ->
   ∃ t, PSs (J0 Zw P w K mg base N qual (Zb st) f cdv A outer s H E).nox (Zq st) t /\ t { nx := fun _ H' => Q .non H', rt := Q } (Zu N vs) H) : FnOk P w K mg base Zw (k + 1) f fd ps sp := by
 obtain ⟨oc, od, kV, doc, pm, an, cdv, ct, osl, rfl, lk, hcd⟩ := F.ex
 refine ZlS lk hcd S len fun A outer s H vs Q E hr hsp => ?_
 obtain ⟨t, h, q⟩ := hbody cdv A outer s H vs Q E hr hsp
 exact ⟨t, h.nox, q⟩
theorem Fun.binds {x qual : Str} {st : Stmt} {f : Addr} {fd : FuncData} {ps : List Str} (F : Fun K x qual st f fd)
  (h : ∀ (kV doc pm : Value) (an : Option Addr) (cdv ct : Value) (us : List Value), us.length = ps.length -> bindArgs (fnOf x qual (Zv st) (Zq st) (Zb st) .none kV doc pm an cdv ct) ⟨us, []⟩ = pure (ps.zip us)) : Binds K fd ps [] := by
 obtain ⟨oc, od, kV, doc, pm, an, cdv, ct, osl, rfl, lk, hcd⟩ := F.ex
 exact .all (h kV doc pm an cdv ct)
theorem JD {x qual : Str} {st : Stmt} {f : Addr} {oc : Value} {od an : Option Addr} {osl : Array (Option Value)} {kV doc pm cdv ct : Value} (l : K.lookup f = some ⟨oc, od, .func (fnOf x qual (Zv st) (Zq st) (Zb st) .none kV doc pm an cdv ct), osl⟩)
  (c : codeIn K cdv qual = true) (k : keepIn K (.ref f) = true) : Fun K x qual st f (fnOf x qual (Zv st) (Zq st) (Zb st) .none kV doc pm an cdv ct) := ⟨⟨oc, od, kV, doc, pm, an, cdv, ct, osl, rfl, l, c⟩, k⟩
end
theorem Jh {A : Around} {k : Nat} (hr : Room k A) : A.units + 1 < cLine := Yy (Nat.add_le_add_left (by decide : 1 <= 64) _) hr.units
theorem Zew {n : Nat} (h : n <= 1000) : n < sizeLine := Yy h (by decide)
section
variable {X : Cx}
theorem pv (i : Nat) {x : Str} {pos : Pos} (hN : X.N[i]? = some x := by rfl) (hv : Vis X.env.scope x := by first | exact Or.inl rfl | exact Or.inr (Or.inl rfl) | exact Or.inr (Or.inr rfl)) (hd : (x == ("__debug__" : Str)) = false := by decide)
  (hcd : (x == ("__classdict__" : Str)) = false := by decide) : PE X (.Name x pos) (ZmD i) := Zk9 hN hv hd hcd
end
theorem JR {c A B : Prop} [Decidable c] (h1 : c -> A) (h2 : ¬ c -> B) : if c then A else B := by
 by_cases h : c
 ·rw [if_pos h]
  exact h1 h
 ·rw [if_neg h]
  exact h2 h
def Same (H H' : Hp) : Prop := ∀ b o, H b = some o -> H' b = some o
theorem Same.refl (H : Hp) : Same H H := fun _ _ h => h
theorem Same.trans {H H1 H2 : Hp} (a : Same H H1) (b : Same H1 H2) : Same H H2 := fun c o h => b c o (a c o h)
theorem Same.free {H H' : Hp} (e : Same H H') {l : Addr} (h : H' l = Option.none) : H l = Option.none := by
 cases q : H l with
 | none => rfl
 | some o =>
  rw [e l o q] at h
  cases h
theorem Same.seq {K : PySem.W.Frag} {H H' : Hp} {a : Addr} {xs : List V} (e : Same H H') (h : SqL K H a xs) : SqL K H' a xs := by
 rcases h with (h | ⟨o, h⟩) | h
 ·exact .inl (.inl (e _ _ h))
 ·exact .inl (.inr ⟨o, e _ _ h⟩)
 ·exact .inr h
end L2
namespace L2
open PySem PySem.Spec PyProof.Rows
section
variable {κ : Type} [DecidableEq κ]
def Jx (kvs : List (κ × V)) (k : κ) : Option V := (kvs.find? fun kv => decide (kv.1 = k)).map (·.2)
def Je (kvs : List (κ × V)) (k : κ) (v : V) : List (κ × V) :=
 if (kvs.any fun kv => decide (kv.1 = k)) = true then kvs.map (fun kv => if kv.1 = k then (kv.1, v) else kv) else kvs ++ [(k, v)]
def ZnG (kvs : List (κ × V)) (k : κ) : List (κ × V) := kvs.filter fun kv => decide (kv.1 ≠ k)
theorem ZbW {p : κ × V} {r : List (κ × V)} {k : κ} (e : p.1 = k) : Jx (p :: r) k = some p.2 := by simp [Jx, List.find?_cons, e]
theorem ZbZ {p : κ × V} {r : List (κ × V)} {k : κ} (e : ¬ p.1 = k) : Jx (p :: r) k = Jx r k := by simp [Jx, List.find?_cons, e]
theorem ZfJ (k : κ) : ∀ kvs : List (κ × V), (kvs.any fun kv => decide (kv.1 = k)) = (Jx kvs k).isSome
 | [] => rfl
 | p :: r => by
  rw [VT]
  by_cases e : p.1 = k
  ·simp only [ZbW e, decide_eq_true e, Bool.true_or, Option.isSome_some]
  ·rw [ZbZ e, YX e, Bool.false_or]; exact ZfJ k r
theorem Zbb (kvs : List (κ × V)) (k : κ) (v : V) : (Je kvs k v).length <= kvs.length + 1 := by
 unfold Je
 split
 ·rw [Yi]; omega
 ·rw [YS, YN, List.length_nil]; omega
theorem RelO.isSome_eq {o : Option V} {u : Option Value} (r : RelO o u) : o.isSome = u.isSome := by
 cases o with
 | none => cases u with
  | none => rfl
  | some _ => exact (show False from r).elim
 | some _ => cases u with
  | none => exact (show False from r).elim
  | some _ => rfl
theorem RelO.getD {o : Option V} {u : Option Value} {d : V} {d' : Value} (r : RelO o u) (rd : RelV d d') : RelV (o.getD d) (u.getD d') := by
 cases o with
 | none => cases u with
  | none => exact rd
  | some _ => exact (show False from r).elim
 | some _ => cases u with
  | none => exact (show False from r).elim
  | some _ => exact r
theorem KV.val {kvs : List (κ × V)} {vs : List (κ × Value)} (r : KV kvs vs) (k : κ) : RelO (Jx kvs k) (valueAt vs k) := by
 unfold KV at r
 induction r with
 | nil => exact True.intro
 | @cons p q ps qs h t ih =>
  obtain ⟨h1, h2⟩ := h
  by_cases e : p.1 = k
  ·have e' : q.1 = k := h1.symm.trans e
   have b : valueAt (q :: qs) k = some q.2 := by simp [valueAt, List.find?_cons, e']
   rw [ZbW e, b]; exact h2
  ·have e' : ¬ q.1 = k := fun z => e (h1.trans z)
   have b : valueAt (q :: qs) k = valueAt qs k := by simp [valueAt, List.find?_cons, e']
   rw [ZbZ e, b]; exact ih
theorem KV.any {kvs : List (κ × V)} {vs : List (κ × Value)} (r : KV kvs vs) (k : κ) : (kvs.any fun kv => decide (kv.1 = k)) = vs.any fun kv => decide (kv.1 = k) := by
 unfold KV at r
 induction r with
 | nil => rfl
 | cons h t ih => rw [VT, VT, ih, h.1]
theorem KV.repl {kvs : List (κ × V)} {vs : List (κ × Value)} (r : KV kvs vs) (k : κ) {y : V} {u : Value} (ry : RelV y u) :
  KV (kvs.map fun kv => if kv.1 = k then (kv.1, y) else kv) (vs.map fun kv => if kv.1 = k then (kv.1, u) else kv) := by
 unfold KV at r ⊢
 induction r with
 | nil => exact .nil
 | @cons p q ps qs h t ih =>
  rw [Yq, Yq]
  refine .cons ?_ ih
  obtain ⟨h1, h2⟩ := h
  by_cases e : p.1 = k
  ·rw [if_pos e, if_pos (h1.symm.trans e)]; exact ⟨h1, ry⟩
  ·rw [if_neg e, if_neg (fun z => e (h1.trans z))]; exact ⟨h1, h2⟩
theorem KV.put {kvs : List (κ × V)} {vs : List (κ × Value)} (r : KV kvs vs) (k : κ) {y : V} {u : Value} (ry : RelV y u) : KV (Je kvs k y) (stored vs k u) := by
 unfold Je stored
 rw [r.any k]
 by_cases e : (vs.any fun kv => decide (kv.1 = k)) = true
 ·rw [if_pos e, if_pos e]; exact r.repl k ry
 ·rw [if_neg e, if_neg e]; exact Paired.snoc r ⟨rfl, ry⟩
theorem KV.drop {kvs : List (κ × V)} {vs : List (κ × Value)} (r : KV kvs vs) (k : κ) : KV (ZnG kvs k) (without vs k) := by
 unfold KV at r ⊢
 unfold ZnG without
 induction r with
 | nil => exact .nil
 | @cons p q ps qs h t ih =>
  obtain ⟨h1, h2⟩ := h
  rw [List.filter_cons, List.filter_cons]
  by_cases e : p.1 = k
  ·have a : ¬ decide (p.1 ≠ k) = true := by simp [e]
   have b : ¬ decide (q.1 ≠ k) = true := by simp [h1.symm.trans e]
   rw [if_neg a, if_neg b]; exact ih
  ·have e' : ¬ q.1 = k := fun z => e (h1.trans z)
   have a : decide (p.1 ≠ k) = true := by simp [e]
   have b : decide (q.1 ≠ k) = true := by simp [e']
   rw [if_pos a, if_pos b]; exact .cons ⟨h1, h2⟩ ih
theorem KV.keys {kvs : List (κ × V)} {vs : List (κ × Value)} (r : KV kvs vs) : kvs.map (·.1) = vs.map (·.1) := by
 unfold KV at r
 induction r with
 | nil => rfl
 | cons h t ih => rw [Yq, Yq, ih, h.1]
theorem KV.length {kvs : List (κ × V)} {vs : List (κ × Value)} (r : KV kvs vs) : kvs.length = vs.length := Paired.length r
end
theorem ZjS {P : Program} {w : World} {k : ZA} {u : Value} (r : RelV (kV k) u) : (ZI P w).is k u = true := by
 cases k with
 | inl i => obtain ⟨t, e⟩ := (show ∃ t, u = Value.int i t from r); subst e; exact ZeU P w i t
 | inr x => obtain ⟨t, e⟩ := (show ∃ t, u = Value.str x t from r); subst e; exact Ze2 P w x t
theorem Zem {P : Program} {w : World} : ∀ {ks : List ZA} {us : List Value}, Vals (ks.map kV) us -> ItemsAre (ZI P w) ks us
 | [], _, r => by rw [List.map_nil] at r; cases r; exact .nil
 | k :: ks, _, r => by
  rw [Yq] at r
  cases r with
  | cons h t => exact .cons (ZjS h) (Zem t)
abbrev KT (H : Hp) : List (List ZA × V) -> List (List ZA × Addr × Value) -> Prop := Paired fun p q => p.1 = q.1 /\ H q.2.1 = some (.tup (p.1.map kV)) /\ RelV p.2 q.2.2
theorem KT.val {H : Hp} {kvs : List (List ZA × V)} {xs : List (List ZA × Addr × Value)} (r : KT H kvs xs) (k : List ZA) : RelO (Jx kvs k) ((atKey xs k).map (·.2)) := by
 induction r with
 | nil => exact True.intro
 | @cons p q ps qs h t ih =>
  obtain ⟨h1, _, h2⟩ := h
  by_cases e : p.1 = k
  ·have e' : q.1 = k := h1.symm.trans e
   have b : atKey (q :: qs) k = some q.2 := by simp [atKey, List.find?_cons, e']
   rw [ZbW e, b]; exact h2
  ·have e' : ¬ q.1 = k := fun z => e (h1.trans z)
   have b : atKey (q :: qs) k = atKey qs k := by simp [atKey, List.find?_cons, e']
   rw [ZbZ e, b]; exact ih
theorem KT.repl {H : Hp} {kvs : List (List ZA × V)} {xs : List (List ZA × Addr × Value)} (r : KT H kvs xs) (k : List ZA) {y : V} {u : Value} (ry : RelV y u) :
  KT H (kvs.map fun kv => if kv.1 = k then (kv.1, y) else kv) (xs.map (putAt k u)) := by
 induction r with
 | nil => exact .nil
 | @cons p q ps qs h t ih =>
  rw [Yq, Yq]
  refine .cons ?_ ih
  obtain ⟨h1, h2, h3⟩ := h
  unfold putAt
  by_cases e : p.1 = k
  ·rw [if_pos e, if_pos (h1.symm.trans e)]; exact ⟨h1, h2, ry⟩
  ·rw [if_neg e, if_neg (fun z => e (h1.trans z))]; exact ⟨h1, h2, h3⟩
theorem KT.put {H : Hp} {kvs : List (List ZA × V)} {xs : List (List ZA × Addr × Value)} (r : KT H kvs xs) (k : List ZA) {b : Addr} {y : V} {u : Value} (hb : H b = some (.tup (k.map kV))) (ry : RelV y u) :
  KT H (Je kvs k y) (storedH xs k b u) := by
 have e : (kvs.any fun kv => decide (kv.1 = k)) = (atKey xs k).isSome := by
  rw [ZfJ, (r.val k).isSome_eq, Option.isSome_map]
 unfold Je storedH
 rw [e]
 by_cases q : (atKey xs k).isSome = true
 ·rw [if_pos q, if_pos q]; exact r.repl k ry
 ·rw [if_neg q, if_neg q]; exact Paired.snoc r ⟨rfl, hb, ry⟩
theorem KT.keeps {H H' : Hp} {kvs : List (List ZA × V)} {xs : List (List ZA × Addr × Value)} (r : KT H kvs xs) (ht : ∀ b ys, H b = some (.tup ys) -> H' b = some (.tup ys)) : KT H' kvs xs :=
 Paired.mapP r fun _ _ z => ⟨z.1, ht _ _ z.2.1, z.2.2⟩
section
variable {P : Program} {w : World} {H : Hp} {h : Heap} {a : Addr}
theorem ZnE {u : HO} (ok : HOk P w H h) (e : Rd H a u) : ObjOk P w H h a u := e.ok ok
theorem JI {kvs : List (ZA × V)} (ok : HOk P w H h) (e : Rd H a (.dK kvs)) : kvs.length <= sizeLine /\ (a == sysModules) = false /\ ∃ vs, KV kvs vs /\ h.DictOf (ZI P w) a vs :=
 show ObjOk P w H h a (.dK kvs) from ZnE ok e
theorem ZoH {kvs : List (ZA × V)} (ok : HOk P w H h) (e : H a = some (.dK kvs)) : kvs.length <= sizeLine /\ (a == sysModules) = false /\ ∃ vs, KV kvs vs /\ h.DictOf (ZI P w) a vs := JI ok (.inl e)
theorem Zfz {ks : List ZA} (ok : HOk P w H h) (e : H a = some (.tup (ks.map kV))) : (tupleKind (ZI P w)).is h ks a := by
 obtain ⟨_, its, r, o, h1, h2, n, h3⟩ := (show ObjOk P w H h a (.tup (ks.map kV)) from ok a _ e)
 exact ⟨o, its.toArray, n, h1, h2, h3, by simpa using Zem r⟩
theorem Zhe {kvs : List (List ZA × V)} (ok : HOk P w H h) (e : Rd H a (.dT kvs)) : kvs.length <= sizeLine /\ (a == sysModules) = false /\
  ∃ xs, KT H kvs xs /\ h.DictOfH (tupleKind (ZI P w)) a xs := by
 obtain ⟨z, y, xs, r, o, es, ep, h1, h2, h3, h4, h5⟩ := (show ObjOk P w H h a (.dT kvs) from ZnE ok e)
 refine ⟨z, y, xs, r, o, es, ep, h1, h2, h3, h4, fun x hx => ?_, h5⟩
 have all : ∀ {l : List (List ZA × V)} {m : List (List ZA × Addr × Value)}, KT H l m -> ∀ x ∈ m, (tupleKind (ZI P w)).is h x.1 x.2.1 := by
  intro l m q
  induction q with
  | nil => intro x hx; exact nomatch hx
  | @cons p q ps qs hq t ih =>
   intro x hx
   rcases Yn.mp hx with e | hx
   ·subst e
    exact Zfz ok (by rw [<- hq.1]; exact hq.2.1)
   ·exact ih x hx
 exact all r x hx
theorem ZpB {kvs : List (List ZA × V)} (ok : HOk P w H h) (e : H a = some (.dT kvs)) : kvs.length <= sizeLine /\ (a == sysModules) = false /\
  ∃ xs, KT H kvs xs /\ h.DictOfH (tupleKind (ZI P w)) a xs := Zhe ok (.inl e)
end
def DGet (H : Hp) (a : Addr) (y : V) (r : Option V) : Prop :=
 (∃ kvs k, Rd H a (.dK kvs) /\ y = kV k /\ r = Jx kvs k) \/ ∃ kvs k b, Rd H a (.dT kvs) /\ y = .ref b /\ H b = some (.tup (k.map kV)) /\ r = Jx kvs k
def DPut (H : Hp) (a : Addr) (y v : V) (H' : Hp) : Prop :=
 (∃ kvs k, H a = some (.dK kvs) /\ y = kV k /\ kvs.length < sizeLine /\ H' = upd H a (.dK (Je kvs k v))) \/
 ∃ kvs k b, H a = some (.dT kvs) /\ y = .ref b /\ H b = some (.tup (k.map kV)) /\ kvs.length < sizeLine /\ H' = upd H a (.dT (Je kvs k v))
theorem DGet.k {H : Hp} {a : Addr} {kvs : List (ZA × V)} {k : ZA} (e : H a = some (.dK kvs)) : DGet H a (kV k) (Jx kvs k) := .inl ⟨kvs, k, .inl e, rfl, rfl⟩
theorem DGet.t {H : Hp} {a b : Addr} {kvs : List (List ZA × V)} {k : List ZA} (e : H a = some (.dT kvs)) (eb : H b = some (.tup (k.map kV))) : DGet H a (.ref b) (Jx kvs k) := .inr ⟨kvs, k, b, .inl e, rfl, eb, rfl⟩
theorem DPut.k {H : Hp} {a : Addr} {kvs : List (ZA × V)} {k : ZA} {v : V} (e : H a = some (.dK kvs)) (hl : kvs.length < sizeLine) : DPut H a (kV k) v (upd H a (.dK (Je kvs k v))) := .inl ⟨kvs, k, e, rfl, hl, rfl⟩
theorem DPut.t {H : Hp} {a b : Addr} {kvs : List (List ZA × V)} {k : List ZA} {v : V} (e : H a = some (.dT kvs)) (eb : H b = some (.tup (k.map kV))) (hl : kvs.length < sizeLine) :
  DPut H a (.ref b) v (upd H a (.dT (Je kvs k v))) := .inr ⟨kvs, k, b, e, rfl, eb, hl, rfl⟩
section
variable {X : Cx} {pins : List (Addr × Obj)} {σ : St} {H : Hp} {s : Shared} {a : Addr} {y v : V} {u r : Value} {o : Option V} {A : Around} {E : Value -> Shared -> Prop}
theorem Inv.big (I : Inv X pins σ H s) : sysModules < s.heap.objs.size := by
 have h : mainGlobals < s.heap.objs.size := (I.mod.glob.keeps I.bk).lt
 exact Nat.lt_trans (by decide) h
theorem ZhK {Q : Value -> Shared -> Prop} (hu : A.units + 1 < cLine) (I : Inv X pins σ H s) (g : DGet H a y (some v)) (ry : RelV y u) (h : ∀ w' s', Inv X pins σ H s' -> RelV v w' -> Q w' s') :
  wpAny (model X.prog X.w) A (getItem (.ref a) u) Q E s := by
 rcases g with ⟨kvs, k, e, ey, l⟩ | ⟨kvs, k, b, e, ey, eb, l⟩
 ·subst ey
  obtain ⟨z, hd, vs, rel, dd⟩ := JI I.hok e
  obtain ⟨w', hw, rw'⟩ := RelO.some_of (v := v) (o := valueAt vs k) (by rw [l]; exact rel.val k)
  exact wpAny_getItem_of (ZjS ry) dd.mapOf hw (h w' _ (I.tok _) rw')
 ·subst ey
  cases (show u = Value.ref b from ry)
  obtain ⟨z, hd, xs, rel, dd⟩ := Zhe I.hok e
  obtain ⟨w', hw, rw'⟩ := RelO.some_of (v := v) (o := (atKey xs k).map (·.2)) (by rw [l]; exact rel.val k)
  obtain ⟨p, hp, hp2⟩ := YD.mp hw
  refine wpAny_getItem_heap (tupleKind_room_in1 hu) (Zfz I.hok eb) dd hp ?_
  rw [hp2]
  exact h w' _ (I.tok _) rw'
theorem Zmt {Q : Value -> Shared -> Prop} (hu : A.units + 1 < cLine) (I : Inv X pins σ H s) (g : DGet H a y o) (ry : RelV y u) (h : ∀ s', Inv X pins σ H s' -> Q (.bool (!o.isSome)) s') :
  wpAny (model X.prog X.w) A (compareOp .NotIn u (.ref a)) Q E s := by
 rcases g with ⟨kvs, k, e, ey, l⟩ | ⟨kvs, k, b, e, ey, eb, l⟩
 ·subst ey
  obtain ⟨z, hd, vs, rel, dd⟩ := JI I.hok e
  refine wpAny_notIn_of (ZjS ry) hd dd.mapOf ?_
  rw [<- (rel.val k).isSome_eq, <- l]
  exact h _ (I.tok _)
 ·subst ey
  cases (show u = Value.ref b from ry)
  obtain ⟨z, hd, xs, rel, dd⟩ := Zhe I.hok e
  refine wpAny_notIn_heap (tupleKind_room_in1 hu) (Zfz I.hok eb) hd dd ?_
  have q := (rel.val k).isSome_eq
  rw [Option.isSome_map] at q
  rw [<- q, <- l]
  exact h _ (I.tok _)
theorem Ziv {h' : Heap} {t' : Nat} {ob : HO} (I : Inv X pins σ H s) (mu : Mut (H a)) (hs : Heap.SameBut a s.heap h') (he : ∃ q, h'.get? a = some q) (new : ObjOk X.prog X.w (upd H a ob) h' a ob) :
  Inv X pins σ (upd H a ob) { s with heap := h', toks := t' } :=
 I.write (x := a) (e := a) mu (.inl rfl) (fun b q hb z => (hs.2 b hb).trans z) he new
theorem ZlB {P : Program} {w : World} {H' : Hp} {h' : Heap} {kvs : List (ZA × V)} {vs : List (ZA × Value)} (z : kvs.length <= sizeLine) (hd : (a == sysModules) = false) (rel : KV kvs vs) (dd : h'.DictOf (ZI P w) a vs) :
  ObjOk P w H' h' a (.dK kvs) := ⟨z, hd, vs, rel, dd⟩
theorem Zio {H' : Hp} {Q : Unit -> Shared -> Prop} (hu : A.units + 1 < cLine) (I : Inv X pins σ H s) (g : DPut H a y v H') (ry : RelV y u) (rv : RelV v r) (h : ∀ s', Inv X pins σ H' s' -> Q () s') :
  wpAny (model X.prog X.w) A (setItem (.ref a) u r) Q E s := by
 rcases g with ⟨kvs, k, e, ey, l, eH⟩ | ⟨kvs, k, b, e, ey, eb, l, eH⟩
 ·subst ey eH
  obtain ⟨z, hd, vs, rel, dd⟩ := ZoH I.hok e
  have hz : vs.length <= sizeLine := by rw [<- rel.length]; exact z
  have hl : (Je kvs k v).length <= sizeLine := by have := Zbb kvs k v; omega
  refine wpAny_setItem_pairs (hsz := hz) (ZjS ry) dd fun h' dd' hs => h _ ?_
  have he : ∃ q, h'.get? a = some q := let ⟨q, _, _, hq, _⟩ := dd'; ⟨q, hq⟩
  exact Ziv I (by rw [e]; exact True.intro) hs he (ZlB hl hd (rel.put k rv) dd')
 ·subst ey eH
  cases (show u = Value.ref b from ry)
  obtain ⟨z, hd, xs, rel, dd⟩ := ZpB I.hok e
  have hz : xs.length <= sizeLine := by rw [<- Paired.length rel]; exact z
  have hl : (Je kvs k v).length <= sizeLine := by have := Zbb kvs k v; omega
  refine wpAny_setItem_heap (hsz := hz) (tupleKind_room_in1 hu) (Zfz I.hok eb) dd fun h' dd' hs => h _ ?_
  obtain ⟨q, es, ep, hq, h2, h3, h4, _, h5⟩ := dd'
  refine Ziv I (by rw [e]; exact True.intro) hs ⟨q, hq⟩ ⟨hl, hd, _, (rel.put k eb rv).keeps fun c ys ec => ?_, q, es, ep, hq, h2, h3, h4, h5⟩
  rw [Zf (ZZ ec e (fun z => nomatch z))]
  exact ec
end
section
variable {X : Cx} {pins : List (Addr × Obj)} {σ : St} {H : Hp} {s : Shared} {a : Addr} {kvs : List (ZA × V)} {k : ZA} {u : Value} {A : Around} {E : Value -> Shared -> Prop}
theorem ZpW {Q : Value -> Shared -> Prop} (I : Inv X pins σ H s) (e : Rd H a (.dK kvs)) (h : ∀ t s', Inv X pins σ H s' -> Q (.int kvs.length t) s') : wpAny (model X.prog X.w) A (call (.builtin "len") [.ref a]) Q E s := by
 obtain ⟨z, hd, vs, rel, dd⟩ := JI I.hok e
 refine call_len_dict hd dd (by rw [<- rel.length]; rw [YK] at z; omega) ?_
 rw [<- rel.length]
 exact h _ _ (I.tok _)
end
def Zp6 (i : Expr) : Prop := ∀ ov iv, subscripted i false ov iv = operate [ov, iv] (getItem ov iv)
theorem ZlQ {prog : Program} {w : World} {A : Around} {E : Value -> Shared -> Prop} {s : Shared} {env : Env} {value slice : Expr} {pos : Pos} {T id : String} {Q : Value -> Shared -> Prop}
  (hl : typeLookup (.type T) "__getitem__" = pure (some (.builtin id))) (hs : Zp6 slice)
  (h : wpAny (model prog w) A (eval value env) (fun o s₁ => wpAny (model prog w) A (eval slice env) (fun i s₂ => s₂.TypeIs o T /\ wpAny (model prog w) A (getItem o i) Q E s₂) E s₁) E s) :
  wpAny (model prog w) A (eval (.Subscript value slice pos) env) Q E s := by
 refine Subscript_ (Yu h (fun o s₁ h₁ => Yu h₁ (fun i s₂ h₂ => ?_) fun _ _ x => x) fun _ _ x => x)
 obtain ⟨hT, h₂⟩ := h₂
 unfold subscriptTail
 refine Ya ?_
 rw [getitemInPython_of_ne hT.not_modules]
 refine Ya (wpAny_specialOf hT hl ?_)
 have fin : wpAny (model prog w) A (subscripted slice false o i) (fun r s₃ => wpAny (model prog w) A (letTemporaryGo value o r >>= fun _ => pure r) Q E s₃) E s₂ := by
  rw [hs o i]
  exact wpAny_operating (Yu h₂ (fun r s₃ h₃ => Ya (wpAny_letTemporaryGo (Yb h₃))) fun _ _ x => x)
 first
  | exact Yb (Ya fin)
  | exact Ya (Yb (Ya fin))
  | exact Ya fin
theorem ZeK {X : Cx} {pins : List (Addr × Obj)} {σ : St} {H : Hp} {s : Shared} {a : Addr} {y : V} {o : Option V} (I : Inv X pins σ H s) (g : DGet H a y o) : s.TypeIs (.ref a) "dict" := by
 rcases g with ⟨kvs, k, e, _, _⟩ | ⟨kvs, k, b, e, _, _, _⟩
 ·obtain ⟨_, _, vs, _, dd⟩ := JI I.hok e
  exact dd.typeIs
 ·obtain ⟨_, _, xs, _, dd⟩ := Zhe I.hok e
  exact dd.typeIs
section
variable {X : Cx} {o i e value : Expr} {pos pos' tpos : Pos} {td ty tv : TE}
end
theorem ZjN {P : Program} {w : World} {H : Hp} (h : Heap) (hb : sysModules < h.objs.size) : ObjOk P w H (h.push { cls := .type "dict", data := .dict #[] }) h.objs.size (.dK []) :=
 ⟨YB _, VG.mpr (Ne.symm (Yk hb)), [], .nil, Heap.DictOf.new h⟩
def ZnU : TE := fun _ H Q => ∀ p, H p = none -> Q (.ref p) (upd H p (.dK []))
section
variable {X : Cx} {pos : Pos}
theorem Zkj : PE X (.Dict [] [] pos) ZnU := fun pins s σ H Q I h =>
 wpAny_Dict_empty ⟨.ref s.heap.objs.size, _, I.laid (a := s.heap.objs.size) (o := .dK []) (t' := s.toks) (fun _ _ q => Yf _ q) (Yd _) (ZjN s.heap I.big), rfl, h _ (I.hok.fresh (Yd _))⟩
end
structure M1 (X : Cx) (o : Expr) (m : Str) (apos : Pos) (e : Expr) (cpos : Pos) : Prop where
 base : attributeBase o m X.env (eval o X.env) = eval o X.env
 few : ((backTo cpos (starEach [e] X.env)).all (fun x => !x.1) && (backToKw cpos (keywordEach [] X.env)).all (fun x => x.1.isSome)
  && decide (([e] : List Expr).length + ([] : List Keyword).length + (if ([] : List Keyword).isEmpty then 0 else 1) < 30)) = true
 line : (apos.endLine == cpos.line) = true
 trees : backTo cpos (starEach [e] X.env) = [(false, eval e X.env)]
structure M2 (X : Cx) (o : Expr) (m : Str) (apos : Pos) (e f : Expr) (cpos : Pos) : Prop where
 base : attributeBase o m X.env (eval o X.env) = eval o X.env
 few : ((backTo cpos (starEach [e, f] X.env)).all (fun x => !x.1) && (backToKw cpos (keywordEach [] X.env)).all (fun x => x.1.isSome)
  && decide (([e, f] : List Expr).length + ([] : List Keyword).length + (if ([] : List Keyword).isEmpty then 0 else 1) < 30)) = true
 line : (apos.endLine == cpos.line) = true
 trees : backTo cpos (starEach [e, f] X.env) = [(false, eval e X.env), (false, eval f X.env)]
def IsD (H : Hp) (a : Addr) : Prop := (∃ kvs, Rd H a (.dK kvs)) \/ ∃ kvs, Rd H a (.dT kvs)
theorem Zn9 {X : Cx} {pins : List (Addr × Obj)} {σ : St} {H : Hp} {s : Shared} {a : Addr} (I : Inv X pins σ H s) (d : IsD H a) :
  s.TypeIs (.ref a) "dict" /\ (∀ b, Value.ref a = .ref b -> ∃ ob, s.heap.get? b = some ob /\ ob.dict = none) /\ (a == sysModules) = false := by
 rcases d with ⟨kvs, e⟩ | ⟨kvs, e⟩
 ·obtain ⟨_, hd, vs, _, dd⟩ := JI I.hok e
  refine ⟨dd.typeIs, fun b q => ?_, hd⟩
  cases q
  obtain ⟨ob, _, _, h1, h2, _⟩ := dd
  exact ⟨ob, h1, h2.2.1⟩
 ·obtain ⟨_, hd, xs, _, dd⟩ := Zhe I.hok e
  refine ⟨dd.typeIs, fun b q => ?_, hd⟩
  cases q
  obtain ⟨ob, _, _, h1, h2, _⟩ := dd
  exact ⟨ob, h1, h2.2.1⟩
section
variable {X : Cx} {pins : List (Addr × Obj)} {σ : St} {H : Hp} {s : Shared} {a : Addr} {y d : V} {u r : Value} {o : Option V} {A : Around} {E : Value -> Shared -> Prop}
end
def Zlr (td ty tx : TE) : TE := fun σ H Q => td σ H fun x H1 => ∃ a, x = .ref a /\ IsD H1 a /\ ty σ H1 fun y H2 => tx σ H2 fun z H3 => ∃ o, DGet H3 a y o /\ Q (o.getD z) H3
section
variable {X : Cx} {o e f : Expr} {apos cpos : Pos} {td ty tx : TE}
end
section
variable {X : Cx} {pins : List (Addr × Obj)} {σ : St} {H : Hp} {s : Shared} {a : Addr} {kvs : List (ZA × V)} {A : Around} {E : Value -> Shared -> Prop}
theorem ZfR {Q : Value -> Shared -> Prop} (I : Inv X pins σ H s) (e : Rd H a (.dK kvs)) (h : ∀ p s', H p = none -> Inv X pins σ (upd H p (.dK kvs)) s' -> Q (.ref p) s') : wpAny (model X.prog X.w) A (call (.type "dict") [.ref a]) Q E s := by
 obtain ⟨z, hd, vs, rel, dd⟩ := JI I.hok e
 refine kt_call_dict hd dd (by rw [<- rel.length]; exact z) fun h' dd' hs => ?_
 refine h _ _ (I.hok.fresh (Yd _)) (I.laid (a := s.heap.objs.size) (o := .dK kvs) (t' := s.toks) (fun b q hq => ?_) (Yd _) (ZlB z (VG.mpr (Ne.symm (Yk I.big))) rel dd'))
 exact (hs.2 b (Yk (Ye hq))).trans (Yf _ hq)
end
section
variable {X : Cx} {pins : List (Addr × Obj)} {σ : St} {H : Hp} {s : Shared} {a : Addr} {y : V} {u : Value} {A : Around} {E : Value -> Shared -> Prop}
end
end L2
namespace My
theorem ZfD {a b : Int} : Int.gcd b (a % b) = Int.gcd a b := by
 rw [Int.emod_def, Int.gcd_comm a b]
 exact Int.gcd_sub_mul_left_right b a (a / b)
theorem Zcj {a b : Int} (hb : 0 < b) : (a % b).toNat < b.toNat := by
 have h1 := Y6 a (Int.ne_of_gt hb)
 have h2 := Vh a hb
 omega
theorem Zi3 (i : Int) : (if i < 0 then -i else i) = (i.natAbs : Int) := by
 split <;> omega
theorem ZhQ (a b : Int) : Int.gcd (a.natAbs : Int) (b.natAbs : Int) = Int.gcd a b := by
 simp [Int.gcd]
def ZQ (t b : Int) : Int := if b < 0 then -(Int.gcd t b : Int) else (Int.gcd t b : Int)
theorem Ze8 {t b : Int} (hb : b ≠ 0) : ZQ t b ≠ 0 := by
 have h := Yab t hb
 unfold ZQ
 split <;> omega
theorem Zav (t b : Int) : ZQ t b ∣ t := by
 unfold ZQ
 split
 ·exact Int.neg_dvd.mpr (Int.gcd_dvd_left t b)
 ·exact Int.gcd_dvd_left t b
theorem Zak (t b : Int) : ZQ t b ∣ b := by
 unfold ZQ
 split
 ·exact Int.neg_dvd.mpr (Int.gcd_dvd_right t b)
 ·exact Int.gcd_dvd_right t b
theorem Zfk (t b : Int) : (ZQ t b).natAbs = Int.gcd t b := by
 unfold ZQ
 split <;> simp
theorem ZaM {a d : Int} (h : d ∣ a) : a.fdiv d = a / d := by
 rw [Int.fdiv_eq_ediv_of_dvd h]
theorem Zj6 {t b : Int} (hb : b ≠ 0) : 0 < b / ZQ t b := by
 have hg := Yab t hb
 obtain ⟨k, hk⟩ := Zak t b
 have e : b / ZQ t b = k := Int.ediv_eq_of_eq_mul_right (Ze8 hb) hk
 rw [e]
 unfold ZQ at hk
 generalize hG : (Int.gcd t b : Int) = g at hk
 have hg' : 0 < g := by omega
 by_cases h : 0 < k
 ·exact h
 ·exfalso
  have h2 : 0 <= g * (-k) := Int.mul_nonneg (by omega) (by omega)
  have h3 : g * (-k) = -(g * k) := Int.mul_neg g k
  split at hk
  ·have h4 : -g * k = -(g * k) := Int.neg_mul g k
   omega
  ·omega
theorem ZqD {t b : Int} (hb : b ≠ 0) : Int.gcd (t / ZQ t b) (b / ZQ t b) = 1 := by
 rw [Int.gcd_ediv (Zav t b) (Zak t b), Zfk]
 exact Nat.div_self (Yab t hb)
theorem Zaz {t b : Int} (hb : b ≠ 0) : t / ZQ t b = (Rat.divInt t b).num /\ b / ZQ t b = ((Rat.divInt t b).den : Int) := by
 have hp := Zj6 (t := t) hb
 have hc := ZqD (t := t) hb
 have hn := Ze8 (t := t) hb
 have e1 : t = ZQ t b * (t / ZQ t b) := (Int.mul_ediv_cancel' (Zav t b)).symm
 have e2 : b = ZQ t b * (b / ZQ t b) := (Int.mul_ediv_cancel' (Zak t b)).symm
 have hden : (b / ZQ t b).toNat ≠ 0 := by omega
 have hcop : (t / ZQ t b).natAbs.Coprime (b / ZQ t b).toNat := by
  have : (b / ZQ t b).natAbs = (b / ZQ t b).toNat := by omega
  rw [<- this]; exact hc
 have key : Rat.divInt t b = ⟨t / ZQ t b, (b / ZQ t b).toNat, hden, hcop⟩ := by
  have : Rat.divInt (t / ZQ t b) (((b / ZQ t b).toNat : Nat) : Int) = ⟨t / ZQ t b, (b / ZQ t b).toNat, hden, hcop⟩ := by
   rw [Rat.divInt_ofNat]
   exact Rat.mkRat_self ⟨t / ZQ t b, (b / ZQ t b).toNat, hden, hcop⟩
  rw [<- this]
  rw [Rat.divInt_eq_divInt_iff hb (by omega)]
  have e3 : (((b / ZQ t b).toNat : Nat) : Int) = b / ZQ t b := by omega
  rw [e3]
  conv => lhs; rw [e1]
  conv => rhs; rw [e2]
  grind
 constructor
 ·rw [key]
 ·rw [key]; show b / ZQ t b = (((b / ZQ t b).toNat : Nat) : Int); omega
theorem Zaq {x y : Int} {a b : Nat} (hx : x.natAbs < 2 ^ a) (hy : y.natAbs < 2 ^ b) : (x * y).natAbs < 2 ^ (a + b) := by
 rw [Int.natAbs_mul, Vq]
 exact Nat.mul_lt_mul'' hx hy
theorem ZL {a c n : Nat} (h : n < 2 ^ a) (hac : a <= c) : n < 2 ^ c := Yt h (Va (by decide) hac)
theorem ZgK {x y : Int} {a b c : Nat} (hx : x.natAbs < 2 ^ a) (hy : y.natAbs < 2 ^ b) (ha : a <= c) (hb : b <= c) : (x + y).natAbs < 2 ^ (c + 1) := by
 have h1 := ZL hx ha
 have h2 := ZL hy hb
 rw [Nat.pow_succ]
 omega
theorem Zdu {t b : Int} (hb : b ≠ 0) : (Rat.divInt t b).num.natAbs <= t.natAbs := by
 rw [<- (Zaz hb).1]
 exact Int.natAbs_ediv_le_natAbs _ _
theorem Zdg {t b : Int} (hb : b ≠ 0) : (Rat.divInt t b).den <= b.natAbs := by
 have h : ((Rat.divInt t b).den : Int).natAbs <= b.natAbs := by
  rw [<- (Zaz (t := t) hb).2]
  exact Int.natAbs_ediv_le_natAbs _ _
 simpa using h
theorem ZaI {n k : Nat} (h : n < 2 ^ k) (hk : 0 < k) : n.log2 < k := by
 by_cases h0 : n = 0
 ·rw [h0]; simpa using hk
 ·exact (Nat.log2_lt h0).mpr h
theorem Zc1 {t b : Int} (hb : b ≠ 0) : Int.gcd t b <= b.natAbs := Nat.le_of_dvd (by omega) (Nat.gcd_dvd_right _ _)
def SzQ (n : Nat) (q : Rat) : Prop := q.num.natAbs < 2 ^ n /\ q.den < 2 ^ n
theorem SzQ.mono {n m : Nat} {q : Rat} (h : SzQ n q) (hm : n <= m) : SzQ m q := ⟨ZL h.1 hm, ZL h.2 hm⟩
theorem SzQ.of {n : Nat} {t b : Int} (hb : b ≠ 0) (ht : t.natAbs < 2 ^ n) (hb2 : b.natAbs < 2 ^ n) : SzQ n (Rat.divInt t b) :=
 ⟨Yy (Zdu hb) ht, Yy (Zdg hb) hb2⟩
theorem Za6 (q : Rat) : (q.den : Int) ≠ 0 := by have := q.den_pos; omega
theorem Zc4 (p q : Rat) : p + q = Rat.divInt (p.num * q.den + q.num * p.den) (p.den * q.den) := by
 conv => lhs; rw [<- Vg p, <- Vg q]
 exact Rat.divInt_add_divInt _ _ (Za6 p) (Za6 q)
theorem Zda (p q : Rat) : (p.den : Int) * q.den ≠ 0 := Int.mul_ne_zero (Za6 p) (Za6 q)
end My
set_option Elab.async false
set_option maxRecDepth 100000
namespace My
open PySem PySem.Spec L2
open PyProof.Rows hiding St
def Zn : Expr -> Bool
 | .Starred .. => false
 | _ => true
theorem Zl {e : Expr} {es : List Expr} {env : Env} (h : Zn e = true) : starEach (e :: es) env = (false, eval e env) :: starEach es env := by
 cases e <;> first | rfl | cases h
theorem Zb8 {env : Env} {pos : Pos} : ∀ {es : List Expr}, es.all Zn = true -> (backTo pos (starEach es env)).any (·.1) = false
 | [], _ => rfl
 | e :: es, h => by
  rw [List.all_cons, Vz] at h
  rw [Zl h.1]
  have := Zb8 (env := env) (pos := pos) h.2
  unfold backTo at this ⊢
  simpa using this
section
variable {X : Cx} {e : Expr} {es : List Expr} {te : TE} {t : TA} {pos p : Pos} {x : Str} {id T : String} {r : List V -> Hp -> VK -> Prop}
theorem Zqs (ha : PE X e te) (hr : PA X es t) (hp : Zn e = true := by rfl) : PA X (e :: es) (ZgI te t) := ZhO ha hr (Zl hp)
theorem ZW {e : Expr} {es : List Expr} (h : (e :: es).all Zn = true) : Zn e = true /\ es.all Zn = true := by
 rw [List.all_cons, Vz] at h
 exact h
theorem ZkU (hc : CallR X (.builtin id) r) (hg : Gl X x) (hm : X.mg x = none) (hv : bootBuiltins x = some (.builtin id)) (ha : PA X (e :: es) t) (hp : (e :: es).all Zn = true := by rfl) (hn : x ≠ "__name__" := by decide) (hdb : (x == ("__debug__" : Str)) = false := by decide) :
  PE X (.Call (.Name x p) (e :: es) [] pos) (tCB r t) := ZaC hc hg hm hv ha hn hdb (Zl (ZW hp).1) (Zb8 (ZW hp).2)
theorem ZnC (hc : CallR X (.type T) r) (hg : Gl X x) (hm : X.mg x = none) (hv : bootBuiltins x = some (.type T)) (ha : PA X (e :: es) t) (hp : (e :: es).all Zn = true := by rfl) (hn : x ≠ "__name__" := by decide) (hdb : (x == ("__debug__" : Str)) = false := by decide) :
  PE X (.Call (.Name x p) (e :: es) [] pos) (tCB r t) := Za0 hc hg hm hv ha hn hdb (Zl (ZW hp).1) (Zb8 (ZW hp).2)
end
structure Fn (P : Program) (w : World) (K : PySem.W.Frag) (mg : Str -> Option Value) (base : Heap) (CX : CXT) (k : Nat) (x : Str) (ps : List Str) (sp : Sp) : Prop where
 ex : ∃ (f : Addr) (fd : FuncData), FnOk P w K mg base CX k f fd ps sp /\ Binds K fd ps [] /\ keepIn K (.ref f) = true /\ mg x = some (.ref f)
section
variable {X : Cx} {CX : CXT} {j k : Nat} {x : Str} {ps : List Str} {sp : Sp} {p pos : Pos} {e : Expr} {es : List Expr} {t : TA}
theorem Zps (F : Fn X.prog X.w X.K X.mg X.base Zw j x ps sp) (hr : Room k X.A) (hj : j <= k) (hg : Gl X x) (ha : PA X (e :: es) t) (hp : (e :: es).all Zn = true := by rfl) (hdb : (x == ("__debug__" : Str)) = false := by decide) :
  PE X (.Call (.Name x p) (e :: es) [] pos) (ZeX sp [] E0 t) := by
 obtain ⟨f, fd, G, b, kp, m⟩ := F.ex
 exact Zhg G (hr.mono hj) hg m kp b .nil ZhS ha hdb (Zl (ZW hp).1) (Zb8 (ZW hp).2)
end
section
variable {X : Cx}
theorem ZkM : OpR X (binaryOp .FloorDiv) (rI (fun _ j => j ≠ 0 /\ j.natAbs.log2 < 9000) fun i j => .int (i.fdiv j)) :=
 opI fun _ _ _ _ _ _ _ hc q => floordiv_int hc.1 q (.inl (PyProof.noPylong_of_log2 hc.2))
theorem ZkS : OpR X (binaryOp .FloorDiv) (rI (fun _ j => 0 < j /\ j.natAbs.log2 < 9000) fun i j => .int (i / j)) :=
 opI fun i j _ _ _ _ _ hc q => floordiv_int (Int.ne_of_gt hc.1) (by rw [Yac i (Int.le_of_lt hc.1)]; exact q) (.inl (PyProof.noPylong_of_log2 hc.2))
theorem Zl6 : OpR X (binaryOp .Mult) (rI IntMulOk fun i j => .int (i * j)) := opI fun _ _ _ _ _ _ _ hc q => mul_int q hc
end
def Js (H : Hp) : V -> Option String
 | .non => some "NoneType"
 | .bl _ => some "bool"
 | .int _ => some "int"
 | .str _ => some "str"
 | .ref a => match H a with
  | some (.lst _) => some "list"
  | some (.tup _) => some "tuple"
  | some (.dK _) => some "dict"
  | _ => none
 | _ => none
def ZlZ : List String := ["NoneType", "bool", "int", "str", "list", "tuple", "dict"]
def J1 : List String := ["bool", "int", "str", "list", "tuple", "dict"]
def isA (t n : String) : Bool := t == n || (t == "bool" && n == "int")
theorem ZlF (H : Hp) (x : Bool) : Js H (.bl x) = some "bool" := rfl
theorem ZkC (H : Hp) (i : Int) : Js H (.int i) = some "int" := rfl
theorem Zfl {H : Hp} {a : Addr} {xs : List V} (h : H a = some (.tup xs)) : Js H (.ref a) = some "tuple" := by unfold Js; dsimp only; rw [h]
theorem Zjk {H : Hp} {a : Addr} {xs : List V} (h : H a = some (.lst xs)) : Js H (.ref a) = some "list" := by unfold Js; dsimp only; rw [h]
theorem ZlV : ("int" ∈ J1) = True := eq_true (by decide)
theorem ZjG : ("bool" ∈ J1) = True := eq_true (by decide)
theorem Zhq : ("tuple" ∈ J1) = True := eq_true (by decide)
theorem Zj8 : ("list" ∈ J1) = True := eq_true (by decide)
theorem Zmm : ("str" ∈ J1) = True := eq_true (by decide)
theorem Zop : isA "bool" "bool" = true := by decide
theorem ZnV : isA "bool" "int" = true := by decide
theorem Zow : isA "int" "int" = true := by decide
theorem Znj : isA "int" "bool" = false := by decide
theorem Zos : isA "tuple" "tuple" = true := by decide
theorem Zog : isA "list" "list" = true := by decide
theorem ZkX {K : PySem.W.Frag} {H : Hp} {x : V} {t : String} (e : Js H x = some t) : TyOf K H x (.type t) /\ t ∈ ZlZ := by
 unfold Js at e
 split at e
 ·cases e; exact ⟨.non, by decide⟩
 ·cases e; exact ⟨.bl _, by decide⟩
 ·cases e; exact ⟨.int _, by decide⟩
 ·cases e; exact ⟨.str _, by decide⟩
 ·split at e
  ·cases e; exact ⟨.lst (by assumption), by decide⟩
  ·cases e; exact ⟨.tup (by assumption), by decide⟩
  ·cases e; exact ⟨.dK (by assumption), by decide⟩
  ·cases e
 ·cases e
theorem Zho (K : PySem.W.Frag) : ∀ t ∈ ZlZ, ∀ n ∈ J1, kitOne K (.type t) (.type n) = some (isA t n) := by
 intro t ht n hn
 simp only [ZlZ, J1, List.mem_cons, List.not_mem_nil, or_false] at ht hn
 rcases ht with rfl | rfl | rfl | rfl | rfl | rfl | rfl <;> rcases hn with rfl | rfl | rfl | rfl | rfl | rfl <;> rfl
section
variable {X : Cx}
theorem Zhk : CallR X (.builtin "isinstance") (fun xs H Q => ∃ x n t, xs = [x, .ty n] /\ Js H x = some t /\ n ∈ J1 /\ Q (.bl (isA t n)) H) := by
 intro pins s σ H xs us Q I r h
 obtain ⟨x, n, t, rfl, e, hn, q⟩ := h
 obtain ⟨u, v, rfl, ru, rv⟩ := Zhj r
 cases (show v = Value.type n from rv)
 obtain ⟨ty, ht⟩ := ZkX (K := X.K) e
 exact Zis I ru ty (Zho X.K t ht n hn) fun tk => ⟨.bl (isA t n), H, I.tok tk, rfl, q⟩
theorem ZpJ {x : Str} {T : String} {pos : Pos} (hg : Gl X x) (hm : X.mg x = none) (hv : bootBuiltins x = some (.type T)) (hn : x ≠ "__name__" := by decide) (hd : (x == ("__debug__" : Str)) = false := by decide) : PE X (.Name x pos) (tC (.ty T)) :=
 Zmk hg hm hv rfl hn hd
end
section
variable {X : Cx} {e : Expr} {es : List Expr} {te : TE} {t : TA} {pos : Pos}
theorem ZC {H : Hp} {p : Addr} (h : H p = none) (o : HO) : Same H (upd H p o) := fun b u q => by rw [Zf (Zk q h)]; exact q
def Zjw (t : TA) : TE := fun σ H Q => t σ H fun xs H1 => xs.length <= 1000 /\ ∀ p H2, H1 p = none -> Same H1 H2 -> H2 p = some (.tup xs) -> Q (.ref p) H2
def Zku (t : TA) : TE := fun σ H Q => t σ H fun xs H1 => xs.length <= 1000 /\ ∀ p H2, H1 p = none -> Same H1 H2 -> H2 p = some (.lst xs) -> Q (.ref p) H2
theorem Zet {n : Nat} (h : n <= 1000) : n <= sizeLine := Yr (Zew h)
theorem Zmc {x1} (h : PA X es t) : PE X (.Tuple es x1 pos) (Zjw t) := by
 intro pins s σ H Q I hq
 refine wpAny_Tuple_spliced (ZJ (h pos pins s σ H _ I hq) fun us s1 ⟨xs, H1, I1, r, z, q⟩ => ⟨by rw [<- r.length]; exact Zet z, ?_⟩)
 have hf : H1 s1.heap.objs.size = none := I1.hok.fresh (Yd _)
 refine ⟨.ref s1.heap.objs.size, upd H1 s1.heap.objs.size (.tup xs), I1.laid (t' := s1.toks) (fun b u e => Yf _ e) (Yd _) ?_, rfl, q _ _ hf (ZC hf _) upd_same⟩
 exact ⟨Zet z, us, r, ⟨_, Ym _ rfl, rfl, _, rfl⟩⟩
theorem Zl8 (h : PA X es t) : PE X (.List es pos) (Zku t) := by
 intro pins s σ H Q I hq
 refine wpAny_List_spliced (ZJ (h pos pins s σ H _ I hq) fun us s1 ⟨xs, H1, I1, r, z, q⟩ => ⟨by rw [<- r.length]; exact Zet z, ?_⟩)
 have hf : H1 s1.heap.objs.size = none := I1.hok.fresh (Yd _)
 refine ⟨.ref s1.heap.objs.size, upd H1 s1.heap.objs.size (.lst xs), I1.laid (t' := s1.toks) (fun b u e => Yf _ e) (Yd _) ?_, rfl, q _ _ hf (ZC hf _) upd_same⟩
 exact ⟨Zet z, us, 0, r, Ym _ rfl⟩
theorem Zlx {r r' : R2} (h : IxR X r) (i : ∀ x y H Q, r' x y H Q -> r x y H Q) : IxR X r' :=
 fun value slice pins s σ H x y v u Q I rx ry q hs => h value slice pins s σ H x y v u Q I rx ry (i x y H Q q) hs
def ZkK : R2 := fun x y H Q => ∃ p xs i v, x = .ref p /\ y = .int i /\ H p = some (.tup xs) /\ atI xs i = some v /\ Q v H
def Zj0 : R2 := fun x y H Q => ∃ p xs i v, x = .ref p /\ y = .int i /\ H p = some (.lst xs) /\ atI xs i = some v /\ Q v H
theorem ZlY : IxR X ZkK := Zlx ZnQ fun _ _ _ _ ⟨p, xs, i, v, h1, h2, h3, h4, q⟩ => ⟨p, xs, i, v, h1, h2, SqT.of h3, h4, q⟩
theorem ZlL : IxR X Zj0 := Zlx ZiN fun _ _ _ _ ⟨p, xs, i, v, h1, h2, h3, h4, q⟩ => ⟨p, xs, i, v, h1, h2, SqL.of h3, h4, q⟩
theorem Zhu : CallR X (.builtin "len") (fun xs H Q => ∃ p ys, xs = [.ref p] /\ (H p = some (.lst ys) \/ H p = some (.tup ys)) /\ Q (.int ys.length) H) :=
 fun pins s σ H xs us Q I r ⟨p, ys, h1, h2, q⟩ => ZbJ pins s σ H xs us Q I r ⟨p, ys, h1, h2.imp SqL.of SqT.of, q⟩
def Zo8 (to : TE) (t : TA) : TE := fun σ H Q => to σ H fun x H1 => ∃ l zs, x = .ref l /\ H1 l = some (.lst zs) /\ t σ H1 fun vs H2 => ∃ y xs, vs = [y] /\ H2 l = some (.lst xs) /\ xs.length < 1000000 /\ Q .non (upd H2 l (.lst (xs ++ [y])))
theorem Zqb {n : Nat} (h : n < 1000000) : n < sizeLine := Nat.lt_trans h (by decide)
theorem ZhI {o : Expr} {to : TE} {apos cpos : Pos} (ho : PE X o to) (ha : PA X (e :: es) t)
  (hbase : attributeBase o "append" X.env (eval o X.env) = eval o X.env := by rfl)
  (hfew : ((backTo cpos (starEach (e :: es) X.env)).all (fun x => !x.1) && (backToKw cpos (keywordEach [] X.env)).all (fun x => x.1.isSome)
   && decide ((e :: es).length + ([] : List Keyword).length + (if ([] : List Keyword).isEmpty then 0 else 1) < 30)) = true := by rfl)
  (hline : (apos.endLine == cpos.line) = true := by rfl) (hs : starEach (e :: es) X.env = (false, eval e X.env) :: starEach es X.env := by rfl) (hplain : (backTo cpos (starEach es X.env)).any (·.1) = false := by rfl) :
  PE X (.Call (.Attribute o "append" apos) (e :: es) [] cpos) (Zo8 to t) := by
 intro pins s σ H Q I h
 refine wpAny_Call_method_late hbase hfew hline rfl (ZJ (ho pins s σ H _ I h) fun v s1 ⟨x, H1, I1, r1, l, zs, e1, e2, q1⟩ => ?_)
 obtain ⟨h1, h2⟩ := Zhd (T := "list") I1 r1 (by rw [e1]; exact .inl ⟨rfl, zs, SqL.of e2⟩)
 refine ⟨"list", "list.append", PySem.F.plainAttrs_list, PySem.F.slot_list_append, PySem.F.type_list_append, h1, h2, ?_⟩
 have hA := ha cpos pins s1 σ H1 _ I1 q1
 rw [hs] at hA ⊢
 refine VY (by show (false || (backTo cpos (starEach es X.env)).any (·.1)) = false; rw [hplain] <;> rfl) (Calls.evalArgs_plain ?_)
 exact ZJ hA fun us s2 ⟨vs, H2, I2, r2, y, xs, e3, e4, z, q2⟩ => Zel pins s2 σ H2 x vs v us Q I2 r1 r2 ⟨l, xs, y, e1, e3, e4, Zqb z, q2⟩
theorem Zr {H H' : Hp} {p : Addr} {o : HO} (hp : H p = none) (hs : Same H H') : Same H (upd H' p o) := fun b u q => by rw [Zf (Zk q hp)]; exact hs b u q
def Zkt (n : Nat) (t : TGs) : TG := fun v σ H Q => ∃ a xs, v = .ref a /\ H a = some (.tup xs) /\ xs.length = n /\ t xs σ H Q
theorem ZlX {es : List Expr} {k : Nat} {t : TGs} {n : Nat} (hc : X.calm = true) (h : PGs X es t)
  (hn : (assignEach es X.env).length = n := by rfl) (hst : (assignEach es X.env).findIdx? (·.1) = none := by rfl) : PG X (.Tuple es k pos) (Zkt n t) :=
 fun pins s σ H v u Q I r ⟨a, xs, h1, h2, h3, q⟩ => Zou hc h hn hst pins s σ H v u Q I r ⟨a, xs, h1, SqT.of h2, h3, q⟩
end
theorem ZqB {α : Type} (x : α) (xs : List α) : atI (x :: xs) 0 = some x := ZE (j := 0) rfl
theorem ZqI {α : Type} (x y : α) (xs : List α) : atI (x :: y :: xs) 1 = some y := ZE (j := 1) rfl
theorem Zqo {α : Type} (x y z : α) (xs : List α) : atI (x :: y :: z :: xs) 2 = some z := ZE (j := 2) rfl
theorem ZqA {α : Type} (x y z u : α) (xs : List α) : atI (x :: y :: z :: u :: xs) 3 = some u := ZE (j := 3) rfl
theorem ZlO {α : Type} {xs : List α} {i : Int} (h0 : 0 <= i) (h1 : i < (xs.length : Int)) : ∃ v, atI xs i = some v /\ v ∈ xs := by
 have hk : i.toNat < xs.length := by omega
 refine ⟨xs[i.toNat], ?_, YI hk⟩
 have e : i = ((i.toNat : Nat) : Int) := by omega
 conv => lhs; rw [e]
 exact ZE (Yc hk)
def cellOf (ns : List Int) (k : Nat) : Int := ns.getD k (2 * (k : Int) + 1)
theorem Zm7 {ns : List Int} {k : Nat} (h : k < ns.length) : atI (ns.map V.int) (k : Int) = some (.int (cellOf ns k)) := by
 refine ZE ?_
 rw [Yh, Yc h]
 simp [cellOf, List.getD, List.getElem?_eq_getElem h]
theorem Zjx {ns : List Int} {k : Nat} (h : ¬ k < ns.length) : cellOf ns k = 2 * (k : Int) + 1 := by
 unfold cellOf
 rw [List.getD, Y0 (by omega)]
 rfl
def ZjH (σ : St) (i : Nat) : Int := match σ[i]? with
 | some (some (.int m)) => m
 | _ => 0
theorem Zdv {c : TT} {tb : TS} {D : Ends} {σ : St} {H : Hp} (Pv : St -> Hp -> Prop) (μ : St -> Hp -> Nat) (h0 : Pv σ H)
  (hs : ∀ σ H, Pv σ H -> c σ H fun b H1 => if b = true then ∃ N : St -> Hp -> Prop, (∀ σ' H', N σ' H' -> ∃ m', m' < μ σ H /\ (m' = μ σ' H' /\ Pv σ' H')) /\ tb { D with nx := N, ct := N, bk := D.nx } σ H1 else D.nx σ H1) : ZhM c tb D σ H := by
 refine ⟨fun m σ H => m = μ σ H /\ Pv σ H, ⟨_, rfl, h0⟩, ?_⟩
 rintro m σ H ⟨rfl, p⟩
 exact hs σ H p
end My
namespace My
open PySem PySem.Spec L2
open PyProof.Rows hiding St
structure QE (X : Cx) (e : Expr) (t : TE) : Prop where
 h : PE X e t
structure QT (X : Cx) (e : Expr) (t : TT) : Prop where
 h : PT X e t
structure QW (X : Cx) (e : Expr) (t : TT) : Prop where
 h : PW X e t
structure QA (X : Cx) (es : List Expr) (t : TA) : Prop where
 h : PA X es t
structure QS (X : Cx) (st : Stmt) (t : TS) : Prop where
 h : PS X st t
structure QB (X : Cx) (sts : List Stmt) (t : TS) : Prop where
 h : PSs X sts t
structure QI (X : Cx) (tg it : Expr) (t : TI) : Prop where
 h : PI X tg it t
structure QG (X : Cx) (tg : Expr) (t : TG) : Prop where
 h : PG X tg t
structure QGs (X : Cx) (tgs : List Expr) (t : TGs) : Prop where
 h : PGs X tgs t
section
variable {X : Cx} {a b c e : Expr} {es rest : List Expr} {ta tb tc te : TE} {tA tB' : TT} {t : TA} {pos p : Pos} {x : Str}
theorem Ze (i : Nat) (hN : X.N[i]? = some x := by rfl) (hv : Vis X.env.scope x := by first | exact Or.inl rfl | exact Or.inr (Or.inl rfl) | exact Or.inr (Or.inr rfl)) (hd : (x == ("__debug__" : Str)) = false := by decide)
  (hcd : (x == ("__classdict__" : Str)) = false := by decide) : QE X (.Name x pos) (ZmD i) := ⟨Zk9 hN hv hd hcd⟩
theorem Zc {i j} : QE X (.Constant (.int i) j pos) (tC (.int i)) := ⟨Zn2⟩
theorem JV {k j} : QE X (.Constant (.bool k) j pos) (tC (.bl k)) := ⟨ZpC⟩
theorem ZdS {y j} : QE X (.Constant (.str y) j pos) (tC (.str y)) := ⟨Znf⟩
theorem JY {T : String} (hg : Gl X x) (hm : X.mg x = none) (hv : bootBuiltins x = some (.type T)) (hn : x ≠ "__name__" := by decide) (hd : (x == ("__debug__" : Str)) = false := by decide) : QE X (.Name x pos) (tC (.ty T)) := ⟨ZpJ hg hm hv hn hd⟩
theorem Jf (ha : QE X a ta) (hb : QE X b tb) : QE X (.BinOp a .Add b pos) (tOp (rI0 fun i j => .int (i + j)) ta tb) := ⟨JS Zot ha.h hb.h⟩
theorem JK (ha : QE X a ta) (hb : QE X b tb) : QE X (.BinOp a .Sub b pos) (tOp (rI0 fun i j => .int (i - j)) ta tb) := ⟨JS ZoX ha.h hb.h⟩
theorem Zl3 (ha : QE X a ta) (hb : QE X b tb) : QE X (.BinOp a .Mult b pos) (tOp (rI CMul fun i j => .int (i * j)) ta tb) := ⟨JS Zoq ha.h hb.h⟩
theorem Jc (ha : QE X a ta) (hb : QE X b tb) : QE X (.BinOp a .Mult b pos) (tOp (rI IntMulOk fun i j => .int (i * j)) ta tb) := ⟨JS Zl6 ha.h hb.h⟩
theorem ZT (ha : QE X a ta) (hb : QE X b tb) : QE X (.BinOp a .Mod b pos) (tOp (rI (fun _ j => 0 < j) fun i j => .int (i % j)) ta tb) := ⟨JS Znz ha.h hb.h⟩
theorem JC (ha : QE X a ta) (hb : QE X b tb) : QE X (.BinOp a .FloorDiv b pos) (tOp (rI Zpn fun i j => .int (i / j)) ta tb) := ⟨JS Zml ha.h hb.h⟩
theorem ZeI (ha : QE X a ta) (hb : QE X b tb) : QE X (.BinOp a .FloorDiv b pos) (tOp (rI (fun _ j => 0 < j /\ j.natAbs.log2 < 9000) fun i j => .int (i / j)) ta tb) := ⟨JS ZkS ha.h hb.h⟩
theorem Zbz (ha : QE X a ta) (hb : QE X b tb) : QE X (.BinOp a .FloorDiv b pos) (tOp (rI (fun _ j => j ≠ 0 /\ j.natAbs.log2 < 9000) fun i j => .int (i.fdiv j)) ta tb) := ⟨JS ZkM ha.h hb.h⟩
theorem ZgU (ha : QE X a ta) (hb : QE X b tb) : QE X (.BinOp a .Pow b pos) (tOp (rI Zpm fun i j => .int (i ^ j.toNat)) ta tb) := ⟨JS ZnD ha.h hb.h⟩
theorem ZpR (ha : QE X a ta) (hb : QE X b tb) : QE X (.BinOp a .Add b pos) (tOp Zpl ta tb) := ⟨JS Zn6 ha.h hb.h⟩
theorem ZnT (ha : QE X a ta) (hb : QE X b tb) : QE X (.BinOp a .Add b pos) (tOp (fun x y H Q => ∃ i j, x = .str i /\ y = .str j /\ i.length + j.length <= sizeLine /\ Q (.str (i ++ j)) H) ta tb) := ⟨JS Zf4 ha.h hb.h⟩
theorem ZpE (ha : QE X a ta) : QE X (.UnaryOp .USub a pos) (tUn (rU fun i => .int (-i)) ta) := ⟨ZpM Zor ha.h⟩
theorem Zp3 (ha : QE X a ta) : QE X (.UnaryOp .Not a pos) (ZjE ta) := ⟨Znp ha.h⟩
theorem Zg0 {op} (ha : QE X a ta) : QE X (.BoolOp op [a] pos) ta := ⟨ZnY ha.h⟩
theorem Zgo (ha : QE X a ta) (hb : QE X (.BoolOp .And (b :: rest) pos) tb) : QE X (.BoolOp .And (a :: b :: rest) pos) (Zjp ta tb) := ⟨Zn5 ha.h hb.h⟩
theorem Zpv (hc : QT X c tA) (ha : QE X a ta) (hb : QE X b tb) : QE X (.IfExp c a b pos) (tIf tA ta tb) := ⟨Zkk hc.h ha.h hb.h⟩
theorem Zqd (ha : QE X a ta) (hb : QE X b tb) : QE X (.Compare a [.Eq] [b] pos) (tOp rEq ta tb) := ⟨Zbv ZnA ha.h hb.h (Jb _)⟩
theorem Zqt (ha : QE X a ta) (hb : QE X b tb) : QE X (.Compare a [.Lt] [b] pos) (tOp (rI0 fun i j => .bl (decide (i < j))) ta tb) := ⟨Zbv Zl1 ha.h hb.h (Jb _)⟩
theorem ZqK (ha : QE X a ta) (hb : QE X b tb) : QE X (.Compare a [.Gt] [b] pos) (tOp (rI0 fun i j => .bl (decide (j < i))) ta tb) := ⟨Zbv Zni ha.h hb.h (Jb _)⟩
theorem Zp9 (ha : QE X a ta) (hb : QE X b tb) : QE X (.Compare a [.GtE] [b] pos) (tOp (rI0 fun i j => .bl (decide (j <= i))) ta tb) := ⟨Zbv ZoU ha.h hb.h (Jb _)⟩
theorem ZU (ha : QE X e te) (he : ∀ whole, isTrue e X.env whole = (do let v <- whole; standAt e.pos; holding [v] (truthy v)) := by intro _; rfl) : QT X e (tB te) := ⟨ZoQ ha.h he⟩
theorem Jq (ha : QT X a tA) : QT X (.UnaryOp .Not a pos) (Zpi tA) := ⟨ZoZ ha.h⟩
theorem JT (ha : QT X a tA) : QW X (.BoolOp .Or [a] pos) tA := ⟨ZnI ha.h⟩
theorem JO (ha : QT X a tA) (hb : QW X (.BoolOp .Or (b :: rest) pos) tB') : QW X (.BoolOp .Or (a :: b :: rest) pos) (tOr tA tB') := ⟨ZpX ha.h hb.h⟩
theorem t_w (h : QW X e tA) : QT X e tA := ⟨h.h.pt⟩
theorem ZnX (ha : QE X a ta) (hb : QE X b tb) : QT X (.Compare a [.Eq] [b] pos) (JE (tOp rEq ta tb)) := ⟨Z9 ZnA ha.h hb.h (Jb _)⟩
theorem ZkN (ha : QE X a ta) (hb : QE X b tb) : QT X (.Compare a [.NotEq] [b] pos) (JE (tOp rNe ta tb)) := ⟨Z9 Zp4 ha.h hb.h (Jb _)⟩
theorem Zne (ha : QE X a ta) (hb : QE X b tb) : QT X (.Compare a [.Lt] [b] pos) (JE (tOp (rI0 fun i j => .bl (decide (i < j))) ta tb)) := ⟨Z9 Zl1 ha.h hb.h (Jb _)⟩
theorem ZqC (ha : QE X a ta) (hb : QE X b tb) : QT X (.Compare a [.LtE] [b] pos) (JE (tOp (rI0 fun i j => .bl (decide (i <= j))) ta tb)) := ⟨Z9 ZnN ha.h hb.h (Jb _)⟩
theorem ZpK (ha : QE X a ta) (hb : QE X b tb) : QT X (.Compare a [.Gt] [b] pos) (JE (tOp (rI0 fun i j => .bl (decide (j < i))) ta tb)) := ⟨Z9 Zni ha.h hb.h (Jb _)⟩
theorem ZqJ (ha : QE X a ta) (hb : QE X b tb) : QT X (.Compare a [.GtE] [b] pos) (JE (tOp (rI0 fun i j => .bl (decide (j <= i))) ta tb)) := ⟨Z9 ZoU ha.h hb.h (Jb _)⟩
theorem Za : QA X [] Zmu := ⟨Zln⟩
theorem Zh (ha : QE X e te) (hr : QA X es t) (hp : Zn e = true := by rfl) : QA X (e :: es) (ZgI te t) := ⟨Zqs ha.h hr.h hp⟩
theorem Jo {x1} (h : QA X es t) : QE X (.Tuple es x1 pos) (Zjw t) := ⟨Zmc h.h⟩
theorem JQ (h : QA X es t) : QE X (.List es pos) (Zku t) := ⟨Zl8 h.h⟩
theorem Zx (ha : QE X a ta) (hb : QE X b tb) (hs : Zcl b := by intro _ _; rfl) : QE X (.Subscript a b pos) (tOp ZkK ta tb) := ⟨Zkq ZlY ha.h hb.h hs⟩
theorem Ju (ha : QE X a ta) (hb : QE X b tb) (hs : Zcl b := by intro _ _; rfl) : QE X (.Subscript a b pos) (tOp Zj0 ta tb) := ⟨Zkq ZlL ha.h hb.h hs⟩
theorem ZpN (ha : QE X a ta) (hb : QE X b tb) (hs : Zcl b := by intro _ _; rfl) : QE X (.Subscript a b pos) (tOp (Zo9 X.K) ta tb) := ⟨Zkq ZiN ha.h hb.h hs⟩
theorem Jp (hg : Gl X "len") (hm : X.mg "len" = none) (ha : QA X (e :: es) t) (hp : (e :: es).all Zn = true := by rfl) :
  QE X (.Call (.Name "len" p) (e :: es) [] pos) (tCB (fun xs H Q => ∃ p ys, xs = [.ref p] /\ (H p = some (.lst ys) \/ H p = some (.tup ys)) /\ Q (.int ys.length) H) t) := ⟨ZkU Zhu hg hm PySem.boot_len ha.h hp⟩
theorem ZoN (hg : Gl X "len") (hm : X.mg "len" = none) (ha : QA X (e :: es) t) (hp : (e :: es).all Zn = true := by rfl) :
  QE X (.Call (.Name "len" p) (e :: es) [] pos) (tCB (fun xs H Q => ∃ p ys, xs = [.ref p] /\ (SqL X.K H p ys \/ SqT X.K H p ys) /\ Q (.int ys.length) H) t) := ⟨ZkU ZbJ hg hm PySem.boot_len ha.h hp⟩
theorem ZmI (hg : Gl X "abs") (hm : X.mg "abs" = none) (ha : QA X (e :: es) t) (hp : (e :: es).all Zn = true := by rfl) :
  QE X (.Call (.Name "abs" p) (e :: es) [] pos) (tCB (fun xs H Q => ∃ i, xs = [.int i] /\ Q (.int (if i < 0 then -i else i)) H) t) := ⟨ZkU Zjg hg hm (by rfl) ha.h hp⟩
theorem Jl (hg : Gl X "isinstance") (hm : X.mg "isinstance" = none) (ha : QA X (e :: es) t) (hp : (e :: es).all Zn = true := by rfl) :
  QE X (.Call (.Name "isinstance" p) (e :: es) [] pos) (tCB (fun xs H Q => ∃ x n t, xs = [x, .ty n] /\ Js H x = some t /\ n ∈ J1 /\ Q (.bl (isA t n)) H) t) := ⟨ZkU Zhk hg hm (by rfl) ha.h hp⟩
theorem Znt (hg : Gl X "int") (hm : X.mg "int" = none) (ha : QA X (e :: es) t) (hp : (e :: es).all Zn = true := by rfl) :
  QE X (.Call (.Name "int" p) (e :: es) [] pos) (tCB (fun xs H Q => (∃ i, xs = [.int i] /\ Q (.int i) H) \/ ∃ k, xs = [.bl k] /\ Q (.int (if k then 1 else 0)) H) t) := ⟨ZnC Zh4 hg hm (by rfl) ha.h hp⟩
variable {j k : Nat} {ps : List Str} {sp : Sp}
theorem Zy (F : Fn X.prog X.w X.K X.mg X.base Zw j x ps sp) (hr : Room k X.A) (hj : j <= k) (hg : Gl X x) (ha : QA X (e :: es) t) (hp : (e :: es).all Zn = true := by rfl) (hdb : (x == ("__debug__" : Str)) = false := by decide) :
  QE X (.Call (.Name x p) (e :: es) [] pos) (ZeX sp [] E0 t) := ⟨Zps F hr hj hg ha.h hp hdb⟩
theorem Zdq {o : Expr} {to : TE} {apos cpos : Pos} (ho : QE X o to) (ha : QA X [e] t) (hbase : attributeBase o "append" X.env (eval o X.env) = eval o X.env := by rfl) (hline : (apos.endLine == cpos.line) = true := by rfl) (hp : Zn e = true := by rfl) :
  QE X (.Call (.Attribute o "append" apos) [e] [] cpos) (Zo8 to t) :=
 ⟨ZhI ho.h ha.h hbase (by rw [Zl hp]; rfl) hline (Zl hp) rfl⟩
end
section
variable {X : Cx} {st : Stmt} {rest a b body : List Stmt} {t u tb : TS} {e c tg it : Expr} {te : TE} {tc : TT} {pos : Pos} {g : TG} {wi : TI}
theorem ZN : QB X [] Zjs := ⟨ZmX⟩
theorem Zd (h1 : QS X st t) (h2 : QB X rest u) : QB X (st :: rest) (Zo2 t u) := ⟨ZjO h1.h h2.h⟩
theorem Zg (h1 : QS X st t) : QB X [st] t := ⟨Zl2 h1.h⟩
theorem Jt : QS X st Zly := ⟨Zj5⟩
theorem Zs (he : QE X e te) : QS X (.Return (some e) pos) (Zpb te) := ⟨Znn he.h⟩
theorem Z4 (hc : QT X c tc) (ha : QB X a t) (hb : QB X b u) : QS X (.If c a b pos) (ZoT tc t u) := ⟨Zpq hc.h ha.h hb.h⟩
theorem Z6 (he : QE X e te) (hs : swapsWith e none pos.line X.env = pure false := by rfl) : QS X (.Expr e pos) (Zkl te) := ⟨Zm3 he.h hs⟩
theorem Zo {x : Str} {pos' : Pos} (i : Nat) (hN : X.N.Nodup) (he : QE X e te) (hi : X.N[i]? = some x := by rfl) (hx : Loc X.env.scope x := by first | exact Or.inl rfl | exact Or.inr rfl) (hs : swapsWith e (some (.Name x pos')) pos.line X.env = pure false := by rfl)
  (hf : X.fn x = true \/ X.env.scope.names.lookup x = some .local := by first | exact .inl rfl | exact .inr rfl | assumption) : QS X (.Assign [.Name x pos'] e pos) (Zi9 te (JA i)) := ⟨Zod hN hi hx he.h hs hf⟩
theorem ZpQ {x y : Str} {c d : Expr} {ta : TA} {px py pt : Pos} {kt k2 pt2} (i j : Nat) (hN : X.N.Nodup) (ha : QA X [c, d] ta) (hc : X.calm = true := by rfl) (hi : X.N[i]? = some x := by rfl) (hj : X.N[j]? = some y := by rfl) (hij : i ≠ j := by decide)
  (hx : X.env.scope.names.lookup x = some .local := by rfl) (hy : X.env.scope.names.lookup y = some .local := by rfl)
  (hw : swappedStores [.Tuple [.Name x px, .Name y py] kt pt] (.Tuple [c, d] k2 pt2) X.env = pure (some [x, y]) := by rfl)
  (hs : swapsWithSole [.Tuple [.Name x px, .Name y py] kt pt] (.Tuple [c, d] k2 pt2) pos.line X.env = pure false := by rfl) :
  QS X (.Assign [.Tuple [.Name x px, .Name y py] kt pt] (.Tuple [c, d] k2 pt2) pos) (Zph i j ta) := ⟨ZoA hc hN hi hj hij hx hy ha.h hw hs⟩
theorem ZkY (he : QE X e te) (hg : QG X tg g) (hs : swapsWithSole [tg] e pos.line X.env = pure false := by rfl) (hw : swappedStores [tg] e X.env = pure none := by rfl) (h1 : (assignEach [tg] X.env).map (·.2) = [assign tg X.env] := by rfl) : QS X (.Assign [tg] e pos) (Zi9 te g) := ⟨ZoC he.h hg.h hs hw h1⟩
theorem Zp {x : Str} (i : Nat) (hN : X.N.Nodup) (hi : X.N[i]? = some x := by rfl) (hx : Loc X.env.scope x := by first | exact Or.inl rfl | exact Or.inr rfl) (hf : X.fn x = true \/ X.env.scope.names.lookup x = some .local := by first | exact .inl rfl | exact .inr rfl | assumption) :
  QG X (.Name x pos) (JA i) := ⟨ZlN hN hi hx hf⟩
theorem Zcb : QGs X [] Zo7 := ⟨ZmN⟩
theorem ZV {es : List Expr} {v : TGs} (h1 : QG X e g) (h2 : QGs X es v) (hs : (assignEach (e :: es) X.env).map (·.2) = assign e X.env :: (assignEach es X.env).map (·.2) := by rfl) : QGs X (e :: es) (ZkT g v) := ⟨Zjy h1.h h2.h hs⟩
theorem Zff {es : List Expr} {k : Nat} {v : TGs} {n : Nat} (h : QGs X es v) (hc : X.calm = true := by rfl) (hn : (assignEach es X.env).length = n := by rfl) (hst : (assignEach es X.env).findIdx? (·.1) = none := by rfl) :
  QG X (.Tuple es k pos) (Zkt n v) := ⟨ZlX hc h.h hn hst⟩
theorem ZdA (hp : PassesOwn (model X.prog X.w) X.A X.env X.xe) (hc : QT X c tc) (hb : QB X body tb) : QS X (.While c body [] pos) (ZhM tc tb) := ⟨Zjv hp hc.h hb.h⟩
theorem ZY (hp : PassesOwn (model X.prog X.w) X.A X.env X.xe) (hi : QI X tg it wi) (hg : QG X tg g) (hb : QB X body tb) (hc : X.calm = true := by rfl) (hs : ∀ x, foldedSetIterable it X.env x = pure x := by intro _; rfl) :
  QS X (.For tg it body [] pos) (Zja wi g tb) := ⟨ZnJ hp hc hi.h hg.h hb.h hs⟩
theorem Z5 (hl : QE X e te) : QI X tg e (ZcV X.K te) := ⟨ZmH hl.h⟩
theorem ZpG (hl : QE X e te) : QI X tg e (Zpz X.K te) := ⟨Znl hl.h⟩
theorem Zch {c : Expr} {ta : TA} {p : Pos} (hg : Gl X "range") (hm : X.mg "range" = none) (ha : QA X [c] ta) (hp : Zn c = true := by rfl) : QI X tg (.Call (.Name "range" p) [c] [] pos) (Zgv ta) := ⟨Zia hg hm ha.h (Zl hp)⟩
theorem Znr {c d : Expr} {ta : TA} {p : Pos} (hg : Gl X "range") (hm : X.mg "range" = none) (ha : QA X [c, d] ta) (hp : Zn c = true := by rfl) (hq : Zn d = true := by rfl) :
  QI X tg (.Call (.Name "range" p) [c, d] [] pos) (ZmU ta) := ⟨Zi5 hg hm ha.h (by rw [Zl hp, Zl hq]; rfl) (Zl hq)⟩
end
theorem JL {P : Program} {w : World} {K : PySem.W.Frag} {mg : Str -> Option Value} {base : Heap} {x qual : Str} {st : Stmt} {f : Addr} {fd : FuncData} {N ps : List Str} {k : Nat} {sp : Sp} (F : Fun K x qual st f fd) (S : FnScope N ps (Zb st)) (len : ∀ vs H Q E, sp vs H Q E -> vs.length = ps.length)
  (hbody : ∀ (cdv : Value) (A : Around) (outer : List Env) (s : Shared) (H : Hp) (vs : List V) (Q : VK) (E : XK), Room k (A.deeper (envOfC qual (Zb st) s.heap.objs.size f cdv)) -> sp vs H Q E ->
   ∃ t, QB (J0 Zw P w K mg base N qual (Zb st) f cdv A outer s H E).nox (Zq st) t /\ t { nx := fun _ H' => Q .non H', rt := Q } (Zu N vs) H) : FnOk P w K mg base Zw (k + 1) f fd ps sp :=
 F.ok S len fun cdv A outer s H vs Q E hr h => by
  obtain ⟨t, q, r⟩ := hbody cdv A outer s H vs Q E hr h
  exact ⟨t, q.h, r⟩
end My
namespace My
open PySem PySem.Spec L2
open PyProof.Rows hiding St
theorem ZjF {P : Program} {w : World} {H : Hp} {h : Heap} {a : Addr} {o : HO} (x : ObjOk P w H h a o) : ∃ u, h.get? a = some u := by
 cases o with
 | lst xs => obtain ⟨_, _, _, _, e⟩ := x; exact ⟨_, e⟩
 | tup xs => obtain ⟨_, _, _, u, e, _⟩ := x; exact ⟨_, e⟩
 | dK kvs => obtain ⟨_, _, _, _, u, _, _, e, _⟩ := x; exact ⟨u, e⟩
 | dT kvs => obtain ⟨_, _, _, _, u, _, _, e, _⟩ := x; exact ⟨u, e⟩
 | set S n => obtain ⟨u, _, _, _, e, _⟩ := x; exact ⟨_, e⟩
 | ins C dx fs => obtain ⟨_, _, _, e, _⟩ := x; exact ⟨_, e⟩
 | own y => exact x
 | xd fs => obtain ⟨_, ⟨u, _, _, e, _⟩, _⟩ := x; exact ⟨_, e⟩
 | rng lo hi => obtain ⟨_, _, _, e⟩ := x; exact ⟨_, e⟩
 | frz ob u => exact ⟨_, x.1⟩
 | tbl ps => obtain ⟨_, e, _⟩ := x; exact ⟨_, e⟩
 | met f y => exact ⟨_, x⟩
 | ext φ => exact x.2.1
structure Cv (X : Cx) (pins : List (Addr × Obj)) (B : Heap) (H : Hp) : Prop where
 old : ∀ b o, X.s₀.heap.get? b = some o -> b ∉ frs X.stack -> ∃ o', B.get? b = some o'
 trk : ∀ b o, H b = some o -> ∃ o', B.get? b = some o'
 cel : ∀ x c, X.env.cells.lookup x = some c -> ∃ o', B.get? c = some o'
 pin : ∀ p ∈ X.pn ++ pins, ∃ o', B.get? p.1 = some o'
section
variable {X : Cx} {pins : List (Addr × Obj)} {σ : St} {H : Hp} {s : Shared}
end
def CX1 (P : Program) (w : World) : CXT := fun outer H s E e s' => ∃ (ea C : Addr) (a0 : Value) (B : Heap) (H' : Hp), e = .ref ea /\ s'.os = s.os /\ AllBare s'.gens /\ Un (frs outer) [] H H' s.heap s'.heap /\ HOk P w H' s'.heap /\
 Heap.FlyingW B outer ea (.ref C) a0 s'.heap /\ (∀ b o, s.heap.get? b = some o -> b ∉ frs outer -> ∃ o', B.get? b = some o') /\ (∀ b o, H' b = some o -> ∃ o', B.get? b = some o') /\ E (.ref C) none H'
structure Body (X : Cx) : Prop where
 st : X.stack = X.env :: X.outer
 fr : X.env.frame = some X.env.locals
 ex : X.ex = []
 fn : ∀ x, X.fn x = true
structure Goes (X : Cx) (E : XK) : Prop extends Body X where
 xe : ∀ e s', wpAny (model X.prog X.w) X.A (leaving X.env e) (fun _ s'' => CX1 X.prog X.w X.outer X.H₀ X.s₀ E e s'') (fun e' s'' => CX1 X.prog X.w X.outer X.H₀ X.s₀ E e' s'') s' -> X.xe e s'
section
variable {X : Cx} {E : XK} {pins : List (Addr × Obj)} {σ : St} {H : Hp} {s : Shared}
theorem Body.apart (b : Body X) (I : Inv X pins σ H s) : (∀ x c, X.env.cells.lookup x = some c -> (∃ o, s.heap.get? c = some o) /\ c ∉ frs X.stack) /\ (∀ p ∈ X.pn ++ pins, s.heap.get? p.1 = some p.2 /\ p.1 ∉ frs X.stack) /\
  (∀ a o, X.s₀.heap.get? a = some o -> ∃ o', s.heap.get? a = some o') /\ (∀ a o, H a = some o -> (∃ o', s.heap.get? a = some o') /\ a ∉ frs X.stack) := by
 refine ⟨fun x c e => ?_, fun p hp => ?_, fun a o e => ?_, fun a o e => ?_⟩
 ·obtain ⟨v, o, ho, hd⟩ := I.cell x c e
  refine ⟨⟨o, ho⟩, fun z => ?_⟩
  rcases Yn.mp (I.stkSub c z) with q | q
  ·exact I.cne x c e q
  ·obtain ⟨_, o', e', _⟩ := I.ok.funs.mem q
   exact absurd (Yt (Ye e') (I.ok.cab x c (b.fn x) e)) (YR _)
 ·obtain ⟨e, n, ne, nf, d⟩ := I.pin p hp
  exact ⟨e, fun z => (Yn.mp (I.stkSub _ z)).elim ne nf⟩
 ·exact I.base.there a o e (by rw [b.ex]; exact List.not_mem_nil)
 ·exact ⟨ZjF (I.hok a o e), fun z => by rw [I.stkFree a z] at e; cases e⟩
end
section
variable {X : Cx} {E : XK} {x : Str} {C : Addr} {np cpos pos : Pos} {e₀ : Expr} {rest : List Expr} {t : TA}
def Zk3 (C : Addr) (E : XK) (t : TA) : TS := fun _ σ H => t σ H fun vs H1 => vs.length <= 1000 /\ E (.ref C) none H1
end
def XP (X : Cx) (pins : List (Addr × Obj)) (σ : St) (EX : XK) (e : Value) (s' : Shared) : Prop :=
 ∃ (ea C : Addr) (a0 : Value) (B : Heap) (H' : Hp), e = .ref ea /\ Inv X pins σ H' s' /\ Heap.FlyingW B X.stack ea (.ref C) a0 s'.heap /\ Cv X pins B H' /\ EX (.ref C) none H'
abbrev TEX := St -> Hp -> VK -> XK -> Prop
def PEX (X : Cx) (e : Expr) (t : TEX) : Prop :=
 ∀ (pins : List (Addr × Obj)) (s : Shared) (σ : St) (H : Hp) (Q : VK) (EX : XK), Inv X pins σ H s -> t σ H Q EX -> wpAny (model X.prog X.w) X.A (eval e X.env) (EP X pins σ Q) (XP X pins σ EX) s
abbrev TSX := Ends -> (St -> XK) -> St -> Hp -> Prop
def Zqw (X : Cx) (sts : List Stmt) (t : TSX) : Prop :=
 ∀ (pins : List (Addr × Obj)) (s : Shared) (σ : St) (H : Hp) (D : Ends) (EX : St -> XK), Inv X pins σ H s -> t D EX σ H ->
  wpAny (model X.prog X.w) X.A (execs sts X.env) (SP X pins D) (fun e s' => ∃ σ', XP X pins σ' (EX σ') e s') s
section
variable {X : Cx} {j k : Nat} {x : Str} {ps : List Str} {sp : Sp} {p pos : Pos} {e : Expr} {es : List Expr} {t : TA} {f : Addr} {fd : FuncData} {ds : List Value} {dvs : List V}
def Zk8 (sp : Sp) (dvs : List V) (t : TA) : TEX := fun σ H Q EX => t σ H fun vs H1 => sp (vs ++ dvs) H1 Q EX
end
end My
namespace My
open PySem PySem.Spec L2
open PyProof.Rows hiding St
section
variable {X : Cx} {pins : List (Addr × Obj)} {σ : St} {H : Hp} {s : Shared} {ea : Addr}
def Zpt (C ea : Addr) (h : Heap) : Prop := ∃ o, h.get? ea = some o /\ o.cls = .ref C
def ZpL (C ea : Addr) : HO := .ext (Zpt C ea)
end
def ZpT (K : PySem.W.Frag) (D : Addr) (i : Nat) (th : Addr -> TS) (En : Ends) (σ : St) : XK := fun c _ H' => ∃ C, c = .ref C /\ exmOne K (.ref C) (.ref D) = some true /\ ∀ ea, H' ea = none ->
 th ea { nx := fun σ2 H2 => En.nx (σ2.set i none) H2, rt := En.rt, bk := fun σ2 H2 => En.bk (σ2.set i none) H2, ct := fun σ2 H2 => En.ct (σ2.set i none) H2 } (σ.set i (some (.ref ea))) (upd H' ea (ZpL C ea))
def Zp7 (K : PySem.W.Frag) (tb : TSX) (D : Addr) (i : Nat) (th : Addr -> TS) : TS := fun En σ H => tb En (ZpT K D i th En) σ H
section
variable {X : Cx} {body : List Stmt} {x n : Str} {np hpos pos : Pos} {b₀ : Stmt} {suite : List Stmt} {tb : TSX} {th : Addr -> TS} {D : Addr} {i : Nat}
end
end My
namespace My
open PySem PySem.Spec L2 PySem.W PySem.Builtin PySem.Builtin.ObjectAttr PySem.Builtin.Getset_descriptor
open PyProof.Rows hiding St
section
variable {prog : Program} {w : World} {A : Around} {E : Value -> Shared -> Prop} {s : Shared} {K : Frag} {x D : Addr}
structure ExcK (K : Frag) (D : Addr) : Prop where
 cl : (clsIn K D).isSome = true
 ga : findIn K (.ref D) "__getattribute__" = some (some (.builtin "BaseException.__getattribute__"))
 no : findIn K (.ref D) "__getattr__" = some none
 ha : findIn K (.ref D) "__class__" = some (some (.builtin "object.__class__"))
 hn : specialIn K (.builtin "object.__class__") "__get__" = some (some (.builtin "getset_descriptor.__get__"))
 tk : takesIn K (.builtin "object.__class__") = some true
 mo : mroIn K D (.type "object") = some true
 mb : mroIn K D (.type "BaseException") = some true
end
end My
namespace My
open PySem PySem.Spec L2
open PyProof.Rows hiding St
section
variable {X : Cx} {e : Expr} {es : List Expr} {t : TA} {pos p : Pos}
end
structure FunD (K : PySem.W.Frag) (x qual : Str) (st : Stmt) (dV : Value) (f : Addr) (fd : FuncData) : Prop where
 ex : ∃ (oc : Value) (od : Option Addr) (kV doc pm : Value) (an : Option Addr) (cdv ct : Value) (osl : Array (Option Value)),
  fd = fnOf x qual (Zv st) (Zq st) (Zb st) dV kV doc pm an cdv ct /\ K.lookup f = some ⟨oc, od, .func fd, osl⟩ /\ codeIn K cdv qual = true
 kp : keepIn K (.ref f) = true
theorem Zms {K : PySem.W.Frag} {x qual : Str} {st : Stmt} {dV : Value} {f : Addr} {oc : Value} {od an : Option Addr} {osl : Array (Option Value)} {kV doc pm cdv ct : Value} (l : K.lookup f = some ⟨oc, od, .func (fnOf x qual (Zv st) (Zq st) (Zb st) dV kV doc pm an cdv ct), osl⟩)
  (c : codeIn K cdv qual = true) (k : keepIn K (.ref f) = true) : FunD K x qual st dV f (fnOf x qual (Zv st) (Zq st) (Zb st) dV kV doc pm an cdv ct) := ⟨⟨oc, od, kV, doc, pm, an, cdv, ct, osl, rfl, l, c⟩, k⟩
section
variable {P : Program} {w : World} {K : PySem.W.Frag} {mg : Str -> Option Value} {base : Heap} {x qual : Str} {st : Stmt} {dV : Value} {f : Addr} {fd : FuncData} {N ps : List Str} {k : Nat} {sp : Sp}
theorem ZqE (F : FunD K x qual st dV f fd) (S : FnScope N ps (Zb st)) (len : ∀ vs H Q E, sp vs H Q E -> vs.length = ps.length)
  (hbody : ∀ (cdv : Value) (A : Around) (outer : List Env) (s : Shared) (H : Hp) (vs : List V) (Q : VK) (E : XK), Room k (A.deeper (envOfC qual (Zb st) s.heap.objs.size f cdv)) -> sp vs H Q E ->
   ∃ t, QB (J0 Zw P w K mg base N qual (Zb st) f cdv A outer s H E).nox (Zq st) t /\ t { nx := fun _ H' => Q .non H', rt := Q } (Zu N vs) H) : FnOk P w K mg base Zw (k + 1) f fd ps sp := by
 obtain ⟨oc, od, kV, doc, pm, an, cdv, ct, osl, rfl, lk, hcd⟩ := F.ex
 refine ZlS lk hcd S len fun A outer s H vs Q E hr hsp => ?_
 obtain ⟨t, h, q⟩ := hbody cdv A outer s H vs Q E hr hsp
 exact ⟨t, h.h.nox, q⟩
end
theorem JJ {x y : Int} {a b : Nat} (hx : x.natAbs < 2 ^ a) (hy : y.natAbs < 2 ^ b) (h : a + b <= 1000000) : IntMulOk x y := by
 have key : ∀ {z : Int} {n : Nat}, z.natAbs < 2 ^ n -> Builtin.Int.intBits z <= n := fun {z n} hz => by
  unfold Builtin.Int.intBits
  split
  ·exact YB _
  ·rename_i h0
   have h1 : z.natAbs ≠ 0 := by
    intro q
    apply h0
    have : z = 0 := by omega
    simp [this]
   have := (Nat.log2_lt h1).mpr hz
   omega
 exact IntMulOk.of_le (key hx) (key hy) (by omega)
structure FnD (P : Program) (w : World) (K : PySem.W.Frag) (mg : Str -> Option Value) (base : Heap) (CX : CXT) (k : Nat) (x : Str) (ps : List Str) (dvs : List V) (sp : Sp) : Prop where
 ex : ∃ (f : Addr) (fd : FuncData) (ds : List Value), FnOk P w K mg base CX k f fd ps sp /\ Binds K fd ps ds /\ Vals dvs ds /\ keepIn K (.ref f) = true /\ mg x = some (.ref f)
structure QX (X : Cx) (e : Expr) (t : TEX) : Prop where
 h : PEX X e t
structure QSX (X : Cx) (sts : List Stmt) (t : TSX) : Prop where
 h : Zqw X sts t
section
variable {X : Cx} {E : XK} {j k : Nat} {x : Str} {ps : List Str} {sp : Sp} {p pos : Pos} {e : Expr} {es : List Expr} {t : TA} {dvs : List V} {C : Addr}
theorem Zpw (F : FnD X.prog X.w X.K X.mg X.base Zw j x ps dvs sp) (hr : Room k X.A) (hj : j <= k) (hg : Gl X x) (ha : QA X (e :: es) t) (hp : (e :: es).all Zn = true := by rfl) (hdb : (x == ("__debug__" : Str)) = false := by decide) :
  QE X (.Call (.Name x p) (e :: es) [] pos) (ZeX sp dvs E0 t) := by
 obtain ⟨f, fd, ds, G, b, v, kp, m⟩ := F.ex
 exact ⟨Zhg G (hr.mono hj) hg m kp b v ZhS ha.h hdb (Zl (ZW hp).1) (Zb8 (ZW hp).2)⟩
def tXE (te : TEX) : TSX := fun D EX σ H => te σ H (fun _ H1 => D.nx σ H1) (EX σ)
def tXS (i : Nat) (te : TEX) : TSX := fun D EX σ H => te σ H (fun v H1 => D.nx (σ.set i (some v)) H1) (EX σ)
end
end My
namespace My
open PySem PySem.Spec L2
open PyProof.Rows hiding St
inductive EqD (H : Hp) : V -> V -> Bool -> Nat -> Prop where
 | flat {x y : V} (fx : JN x = true) (fy : JN y = true) : EqD H x y (eqV x y) 0
 | tup {a b : Addr} {xs ys : List V} {e : Nat -> Bool} {n : Nat} (ha : H a = some (.tup xs)) (hb : H b = some (.tup ys)) (h : ∀ j x y, xs[j]? = some x -> ys[j]? = some y -> EqD H x y (e j) n) :
   EqD H (.ref a) (.ref b) ((List.range (min xs.length ys.length)).all e && xs.length == ys.length) (n + 1)
 | lst {a b : Addr} {xs ys : List V} {e : Nat -> Bool} {n : Nat} (ha : H a = some (.lst xs)) (hb : H b = some (.lst ys)) (hl : xs.length = ys.length) (h : ∀ j x y, xs[j]? = some x -> ys[j]? = some y -> EqD H x y (e j) n) :
   EqD H (.ref a) (.ref b) ((List.range xs.length).all e) (n + 1)
 | lstNe {a b : Addr} {xs ys : List V} {n : Nat} (ha : H a = some (.lst xs)) (hb : H b = some (.lst ys)) (hl : xs.length ≠ ys.length) : EqD H (.ref a) (.ref b) false (n + 1)
 | up {x y : V} {b : Bool} {n : Nat} (h : EqD H x y b n) : EqD H x y b (n + 1)
theorem Zbr {x : V} (h : JN x = true) : eqV x x = true := by
 cases x
 case non => rfl
 case bl b => simp [eqV]
 case int i => simp [eqV]
 case str y => simp [eqV]
 all_goals exact absurd (show false = true from h) (by decide)
theorem ZcD {n : Nat} {e : Nat -> Bool} (h : ∀ j, j < n -> e j = true) : (List.range n).all e = true := List.all_eq_true.mpr fun j hj => h j (Vj.mp hj)
theorem EqD.self {H : Hp} {x y : V} {b : Bool} {n : Nat} (h : EqD H x y b n) : x = y -> b = true := by
 induction h with
 | flat fx fy => intro e; subst e; exact Zbr fx
 | @tup a b xs ys e n ha hb h ih =>
  intro q
  injection q with q
  subst q
  rw [ha] at hb
  injection hb with hb
  injection hb with hb
  subst hb
  rw [ZcD, Bool.true_and, beq_self_eq_true]
  intro j hj
  rw [Nat.min_self] at hj
  exact ih j _ _ (Yc hj) (Yc hj) rfl
 | @lst a b xs ys e n ha hb hl h ih =>
  intro q
  injection q with q
  subst q
  rw [ha] at hb
  injection hb with hb
  injection hb with hb
  subst hb
  exact ZcD fun j hj => ih j _ _ (Yc hj) (Yc hj) rfl
 | up h ih => exact ih
 | lstNe ha hb hl =>
  intro q
  injection q with q
  subst q
  rw [ha] at hb
  injection hb with hb
  injection hb with hb
  subst hb
  exact absurd rfl hl
section
variable {X : Cx} {pins : List (Addr × Obj)} {σ : St} {H : Hp} {s : Shared}
theorem EqD.at (I : Inv X pins σ H s) {x y : V} {b : Bool} {n : Nat} (h : EqD H x y b n) : ∀ {A : Around} {u v : Value}, RelV x u -> RelV y v -> A.units + n < cLine ->
  SeqAt.EqAt A s u v b /\ ((∃ a c, x = .ref a /\ y = .ref c) -> SeqAt.RcAt A s u v b) := by
 induction h with
 | flat fx fy =>
  intro A u v r1 r2 _
  refine ⟨ZlA r1 r2 fx fy, ?_⟩
  rintro ⟨a, c, rfl, _⟩
  cases fx
 | @tup a b xs ys e n ha hb h ih =>
  intro A u v r1 r2 hu
  cases r1
  cases r2
  obtain ⟨its, v1, t1, _⟩ := I.tuple (SqT.of ha)
  obtain ⟨jts, v2, t2, _⟩ := I.tuple (SqT.of hb)
  have rc : SeqAt.RcAt A s (.ref a) (.ref b) ((List.range (min xs.length ys.length)).all e && xs.length == ys.length) := by
   have z := SeqAt.RcAt.tuples (A := A) (s := s) (e := e) t1 t2 (by omega) fun j h1 h2 => by
    have k1 : j < xs.length := by rw [v1.length]; simpa using h1
    have k2 : j < ys.length := by rw [v2.length]; simpa using h2
    obtain ⟨u1, q1, w1⟩ := v1.get (Yc k1)
    obtain ⟨u2, q2, w2⟩ := v2.get (Yc k2)
    have g1 : its.toArray[j] = u1 := by
     have := Yg.mp q1
     obtain ⟨hh, this⟩ := this
     simpa using this
    have g2 : jts.toArray[j] = u2 := by
     have := Yg.mp q2
     obtain ⟨hh, this⟩ := this
     simpa using this
    rw [g1, g2]
    exact (ih j _ _ (Yc k1) (Yc k2) w1 w2 (by show A.units + 1 + n < cLine; omega)).1
   simpa [v1.length, v2.length] using z
  refine ⟨?_, fun _ => rc⟩
  by_cases q : a = b
  ·have := (EqD.tup ha hb h).self (by rw [q])
   rw [this, q]
   exact SeqAt.EqAt.same _
  ·exact SeqAt.EqAt.of_refs q rc
 | @lst a b xs ys e n ha hb hl h ih =>
  intro A u v r1 r2 hu
  cases r1
  cases r2
  obtain ⟨its, v1, t1, _⟩ := I.list (SqL.of ha)
  obtain ⟨jts, v2, t2, _⟩ := I.list (SqL.of hb)
  have rc : SeqAt.RcAt A s (.ref a) (.ref b) ((List.range xs.length).all e) := by
   have z := SeqAt.RcAt.lists (A := A) (s := s) (e := e) t1.isList t2.isList (by simp [<- v1.length, <- v2.length, hl]) (by omega) fun j h1 h2 => by
    have k1 : j < xs.length := by rw [v1.length]; simpa using h1
    have k2 : j < ys.length := by rw [v2.length]; simpa using h2
    obtain ⟨u1, q1, w1⟩ := v1.get (Yc k1)
    obtain ⟨u2, q2, w2⟩ := v2.get (Yc k2)
    have g1 : its.toArray[j] = u1 := by
     have := Yg.mp q1
     obtain ⟨hh, this⟩ := this
     simpa using this
    have g2 : jts.toArray[j] = u2 := by
     have := Yg.mp q2
     obtain ⟨hh, this⟩ := this
     simpa using this
    rw [g1, g2]
    exact (ih j _ _ (Yc k1) (Yc k2) w1 w2 (by show A.units + 1 + n < cLine; omega)).1
   simpa [v1.length, v2.length] using z
  refine ⟨?_, fun _ => rc⟩
  by_cases q : a = b
  ·have := (EqD.lst ha hb hl h).self (by rw [q])
   rw [this, q]
   exact SeqAt.EqAt.same _
  ·exact SeqAt.EqAt.of_refs q rc
 | up h ih =>
  intro A u v r1 r2 hu
  exact ih r1 r2 (by omega)
 | @lstNe a b xs ys n ha hb hl =>
  intro A u v r1 r2 hu
  cases r1
  cases r2
  obtain ⟨its, v1, t1, _⟩ := I.list (SqL.of ha)
  obtain ⟨jts, v2, t2, _⟩ := I.list (SqL.of hb)
  have rc : SeqAt.RcAt A s (.ref a) (.ref b) false := SeqAt.RcAt.lists_lengths t1.isList t2.isList (by simp [<- v1.length, <- v2.length]; exact hl) (by omega)
  have ne : a ≠ b := fun q => by
   subst q
   rw [ha] at hb
   injection hb with hb
   injection hb with hb
   subst hb
   exact hl rfl
  exact ⟨SeqAt.EqAt.of_refs ne rc, fun _ => rc⟩
end
section
variable {X : Cx} {a b : Expr} {ta tb : TE} {pos : Pos} {k : Nat}
def Zqc : R2 := fun x y H Q => ∃ t n p c, x = .ref p /\ y = .ref c /\ EqD H x y t n /\ n <= 60 /\ Q (.bl t) H
theorem Zn0 (hr : Room k X.A) : OpR X (compareOp .Eq) Zqc := by
 intro pins s σ H x y v u Q I rx ry h
 obtain ⟨t, n, p, c, e1, e2, h, hn, q⟩ := h
 have hu := hr.units
 exact ((h.at I rx ry (by omega)).2 ⟨p, c, e1, e2⟩) _ _ _ _ ⟨.bl t, H, I, rfl, q⟩
theorem ZoL (hr : Room k X.A) (ha : QE X a ta) (hb : QE X b tb) : QE X (.Compare a [.Eq] [b] pos) (tOp Zqc ta tb) := ⟨Zbv (Zn0 hr) ha.h hb.h (Jb _)⟩
end
end My
namespace My
open PySem PySem.Spec L2
open PyProof.Rows hiding St
section
variable {X : Cx} {pins : List (Addr × Obj)} {σ : St} {H : Hp} {s : Shared} {h' : Heap}
theorem ZcP {t' : Nat} {ch : List Addr} {o : HO} (I : Inv X pins σ H s) (k : ∀ b u, b ∉ ch -> s.heap.get? b = some u -> h'.get? b = some u) (hf : ∀ b ∈ ch, Jy X pins H b) (new : ObjOk X.prog X.w (upd H s.heap.objs.size o) h' s.heap.objs.size o) :
  Inv X pins σ (upd H s.heap.objs.size o) { s with heap := h', toks := t' } := by
 have hn : H s.heap.objs.size = none := I.hok.fresh (Yd _)
 have nch : ∀ b u, H b = some u -> b ∉ ch := fun b u e z => by rw [(hf b z).1] at e; cases e
 have old : ∀ b u, H b = some u -> upd H s.heap.objs.size o b = some u := fun b u e => by rw [Zf (Zk e hn)]; exact e
 refine I.step (g' := s.gens) (d' := s.drawn) (ch := ch) (fun b hb => ⟨(hf b hb).2.2.2.1, (hf b hb).2.1, (hf b hb).2.2.2.2.1, (hf b hb).2.2.2.2.2⟩) (fun b u _ _ hc e _ => k b u hc e) (fun b u _ _ hc e _ => ⟨u.slots, k b u hc e⟩)
  (fun b u hc e n => by rw [Zf (Nat.ne_of_lt (Heap.lt_size e))]; exact n) (fun b u hc e => ⟨u, k b u hc e⟩) (fun b xs e => old b _ e) (fun b x u e => old b _ e) (fun b ps e => ⟨#[], by rw [old b _ e]; simp⟩) (fun m hm => ?_) (fun b u e => ?_) I.bare
 ·obtain ⟨u, es, ep, ho, r⟩ := hm
  exact ⟨u, es, ep, k _ u (fun z => (hf _ z).2.1 rfl) ho, r⟩
 ·by_cases hb : b = s.heap.objs.size
  ·subst hb; rw [upd_same] at e; cases e; exact new
  ·rw [Zf hb] at e
   refine (I.hok b u e).stay (fun c v hc q => k c v ?_ q) (fun c q => old c _ q) (fun c xs q => old c _ q) fun c o q => old c _ q
   rcases hc with z | z
   ·rw [z]; exact nch b u e
   ·exact nch c _ z
theorem ZiD {t' : Nat} {ch : List Addr} (I : Inv X pins σ H s) (k : ∀ b u, b ∉ ch -> s.heap.get? b = some u -> h'.get? b = some u) (hf : ∀ b ∈ ch, Jy X pins H b) : Inv X pins σ H { s with heap := h', toks := t' } := by
 have nch : ∀ b u, H b = some u -> b ∉ ch := fun b u e z => by rw [(hf b z).1] at e; cases e
 refine I.step (g' := s.gens) (d' := s.drawn) (ch := ch) (fun b hb => ⟨(hf b hb).2.2.2.1, (hf b hb).2.1, (hf b hb).2.2.2.2.1, (hf b hb).2.2.2.2.2⟩) (fun b u _ _ hc e _ => k b u hc e) (fun b u _ _ hc e _ => ⟨u.slots, k b u hc e⟩)
  (fun b u hc e n => n) (fun b u hc e => ⟨u, k b u hc e⟩) (fun b xs e => e) (fun b x u e => e) (fun b ps e => ⟨#[], by rw [e]; simp⟩) (fun m hm => ?_) (fun b u e => ?_) I.bare
 ·obtain ⟨u, es, ep, ho, r⟩ := hm
  exact ⟨u, es, ep, k _ u (fun z => (hf _ z).2.1 rfl) ho, r⟩
 ·refine (I.hok b u e).stay (fun c v hc q => k c v ?_ q) (fun c q => q) fun c xs q => q
  rcases hc with z | z
  ·rw [z]; exact nch b u e
  ·exact nch c _ z
def Ite (K : PySem.W.Frag) (a : Addr) : It :=
 ⟨fun i H => ∃ xs x, SqL K H a xs /\ xs[i]? = some x, fun i H x H' => ∃ p y, x = .ref p /\ H p = none /\ Same H H' /\ H' p = some (.tup [.int i, y]) /\ ∀ xs, SqL K H a xs -> xs[i]? = some y, fun i H => ∃ xs, SqL K H a xs /\ xs.length <= i⟩
theorem Zik {P : Program} {w : World} {K : PySem.W.Frag} {es : List Expr} {x1} {pos : Pos} (a it e : Addr) (hne : e ≠ it) : Turn P w K (.Tuple es x1 pos) (Ite K a) [it, e] e (fun i h => (∃ old, IsEnum h e it (i : Nat) old) /\ h.IsListIter it a i) where
 mem := by simp
 obj := fun i h st b hb => by
  obtain ⟨⟨old, he⟩, o, eo, c, d⟩ := st
  rcases Yn.mp hb with z | z
  ·subst z; exact ⟨o, eo, fun v z => by rw [d] at z; cases z⟩
  ·have z : b = e := by simpa using z
   subst z; exact ⟨_, he, fun v z => by cases z⟩
 keep := fun i h h' st k => ⟨⟨st.1.choose, k e (by simp) _ st.1.choose_spec⟩, st.2.at fun o x => k it (by simp) o x⟩
 item := by
  intro X hP hw hK hc i pins s σ H E I hf st hg
  subst hP hw hK
  obtain ⟨⟨old, he⟩, hit⟩ := st
  obtain ⟨xs, x, hq, hx⟩ := hg
  obtain ⟨its, rv, p, hz⟩ := I.list hq
  obtain ⟨u, hu, ru⟩ := rv.get hx
  have hn : H s.heap.objs.size = none := I.hok.fresh (Yd _)
  refine wpAny_pyNext_enum_item he hit p.isList (x := u) (by simpa using hu) hne fun h' eo st' ht hsz kk => ?_
  refine ⟨_, rfl, wpAny_letOwnedTupleGo_enum (s := { s with heap := h', toks := s.toks + 1 }) eo fun h2 he2 sb => ?_⟩
  have sb2 : ∀ b, b ≠ e -> h2.get? b = h'.get? b := sb.2
  have hel : s.heap.objs.size ≠ e := Vl (Ye he)
  have kt : h2.get? s.heap.objs.size = some { cls := .type "tuple", data := .seq #[.int i s.toks, u] } := (sb2 _ hel).trans ht
  have I1 : Inv X pins σ (upd H s.heap.objs.size (.tup [.int i, x])) { s with heap := h2, toks := s.toks + 1 } := by
   refine ZcP (ch := [it, e]) I (fun b o hb q => ?_) hf ?_
   ·have hb' : b ≠ it /\ b ≠ e := by simpa using hb
    rw [sb2 b hb'.2]
    exact kk b o hb'.2 hb'.1 q
   ·exact ⟨by show 2 <= sizeLine; decide, [.int i s.toks, u], .cons ⟨_, rfl⟩ (.cons ru .nil), ⟨_, kt, rfl, _, rfl⟩⟩
  refine ⟨.ref s.heap.objs.size, _, I1, rfl, ⟨_, x, rfl, hn, ZC hn _, upd_same, fun ys hy => by rw [I.list_inj hy hq]; exact hx⟩, ⟨⟨u, ?_⟩, ?_⟩, fun b hb => ?_⟩
  ·exact he2
  ·obtain ⟨o, q, r⟩ := st'
   exact ⟨o, (sb2 it (Ne.symm hne)).trans q, r⟩
  ·have hb1 := (hf b hb).1
   have : b ≠ s.heap.objs.size := fun z => by
    rcases Yn.mp hb with y | y
    ·obtain ⟨o, q, _⟩ := hit
     exact YR _ (by have := Ye q; rw [<- y, z] at this; exact this)
    ·have y : b = e := by simpa using y
     exact hel (z.symm.trans y)
   rw [Zf this]
   exact hb1
 done := by
  intro X hP hw hK hc i pins s σ H E I hf st hg
  subst hP hw hK
  obtain ⟨⟨old, he⟩, hit⟩ := st
  obtain ⟨xs, hq, hx⟩ := hg
  obtain ⟨its, rv, p, hz⟩ := I.list hq
  have hl := rv.length
  refine wpAny_pyNext_enum_end (I.ok.hd hc) he hit p.isList (by simp; omega) fun h' eb => ⟨rfl, ZiD (t' := s.toks) (ch := [it, e]) I (fun b o hb q => eb b o (fun z => hb (by simp [z])) q) hf⟩
 self := fun _ _ _ _ _ st h => wpAny_pyIter_enum st.1.choose_spec h
def Znc (K : PySem.W.Frag) (ta : TA) : TI := fun σ H R => ta σ H fun vs H1 => ∃ a, vs = [.ref a] /\ (∃ xs, SqL K H1 a xs) /\ R (Ite K a) H1
theorem Zl9 {l : Expr} {ta : TA} {p pos pos' : Pos} {es : List Expr} {x1} (hg : Gl X "enumerate") (hm : X.mg "enumerate" = none) (ha : PA X [l] ta) (hs : starEach [l] X.env = [(false, eval l X.env)] := by rfl) : PI X (.Tuple es x1 pos') (.Call (.Name "enumerate" p) [l] [] pos) (Znc X.K ta) := by
 intro pins s σ H R I h
 refine Call_ (Jm I hg hm boot_enumerate (Y7 (ZJ (ha pos pins s σ H _ I h) fun us s1 ⟨vs, H1, I1, r1, q1⟩ => ?_) hs rfl))
 obtain ⟨a, e, ⟨xs, hq⟩, q⟩ := q1
 subst e
 cases r1 with
 | cons r rr =>
  cases rr
  cases r
  obtain ⟨its, rv, pl, hz⟩ := I1.list hq
  refine call_enumerate_list pl.isList fun h' he hit hsz kk => ?_
  have I2 : Inv X pins σ H1 { s1 with heap := h' } := I1.kept (t' := s1.toks) kk
  refine wpAny_pyIter_enum (s := { s1 with heap := h' }) he ⟨_, [s1.heap.objs.size, s1.heap.objs.size + 1], _, _, H1, rfl, I2, Zik a _ _ (Nat.succ_ne_self _), ⟨⟨.none, he⟩, hit⟩, fun b hb => ?_, q⟩
  have hb' : s1.heap.objs.size <= b := by
   rcases Yn.mp hb with z | z
   ·exact Vp z.symm
   ·have z : b = s1.heap.objs.size + 1 := by simpa using z
    rw [z]; exact Vr _
  exact I1.fpOk hb' (I1.hok.fresh hb')
theorem Zcf : ∀ {xs : List V} {us : List Value}, xs.length = us.length -> (∀ (i : Nat) x u, xs[i]? = some x -> us[i]? = some u -> RelV x u) -> Vals xs us
 | [], [], _, _ => .nil
 | x :: xs, u :: us, hl, h => .cons (h 0 x u rfl rfl) (Zcf (by simpa using hl) fun i x u h1 h2 => h (i + 1) x u h1 h2)
def Zll (lo hi : Int) : List V := (List.range (hi - lo).toNat).map fun k : Nat => V.int (lo + (k : Int))
theorem Zdx {lo hi : Int} : (Zll lo hi).length = (hi - lo).toNat := by simp [Zll]
theorem Zjf {lo hi : Int} {i : Nat} (h : i < (hi - lo).toNat) : (Zll lo hi)[i]? = some (.int (lo + i)) := by
 unfold Zll
 rw [Yh, Yam h]
 rfl
def Zmj (ta : TA) : TE := fun σ H Q => ta σ H fun vs H1 => ∃ i j : Int, vs = [.int i, .int j] /\ ∀ p H2, H1 p = none -> Same H1 H2 -> H2 p = some (.rng i j) -> Q (.ref p) H2
theorem Zmr {a b : Expr} {ta : TA} {p pos : Pos} (hg : Gl X "range") (hm : X.mg "range" = none) (ha : PA X [a, b] ta) (hs : starEach [a, b] X.env = [(false, eval a X.env), (false, eval b X.env)] := by rfl) (hs2 : starEach [b] X.env = [(false, eval b X.env)] := by rfl) :
  PE X (.Call (.Name "range" p) [a, b] [] pos) (Zmj ta) := by
 intro pins s σ H R I h
 refine Call_ (Jm I hg hm boot_range (Y7 (ZJ (ha pos pins s σ H _ I h) fun us s1 ⟨vs, H1, I1, r1, q1⟩ => ?_) (by rw [hs, hs2]) (by rw [hs2]; rfl)))
 obtain ⟨i, j, e, q⟩ := q1
 subst e
 obtain ⟨u, v, rfl, ⟨t, rfl⟩, t', rfl⟩ := Zhj r1
 have hf : H1 s1.heap.objs.size = none := I1.hok.fresh (Yd _)
 exact call_range_2 ⟨.ref s1.heap.objs.size, upd H1 s1.heap.objs.size (.rng i j), I1.laid (fun b u e => Yf _ e) (Yd _) ⟨_, _, _, Ym _ rfl⟩, rfl, q _ _ hf (ZC hf _) upd_same⟩
def ZeM (K : PySem.W.Frag) : List V -> Hp -> VK -> Prop := fun xs H Q => ∃ p ys, xs = [.ref p] /\ (SqL K H p ys \/ SqT K H p ys \/ ∃ lo hi, H p = some (.rng lo hi) /\ -(2 ^ 62) <= lo /\ lo < 2 ^ 62 /\ -(2 ^ 62) <= hi /\ hi < 2 ^ 62 /\ ys = Zll lo hi /\ hi - lo <= 1000000) /\
 ∀ l H2, H l = none -> Same H H2 -> H2 l = some (.lst ys) -> Q (.ref l) H2
theorem Zgf (hc : X.calm = true) : CallR X (.type "list") (ZeM X.K) := by
 intro pins s σ H xs us Q I r h
 obtain ⟨p, ys, rfl, hq, q⟩ := h
 have old : ∀ l, H l = none -> Q (.ref l) (upd H l (.lst ys)) := fun l hl => q l _ hl (ZC hl _) upd_same
 rcases hq with hq | hq | ⟨lo, hi, hq, h1, h2, h3, h4, rfl, h5⟩
 ·exact ZbI pins s σ H [.ref p] us Q I r ⟨p, ys, rfl, .inl hq, old⟩
 ·exact ZbI pins s σ H [.ref p] us Q I r ⟨p, ys, rfl, .inr hq, old⟩
 ·obtain ⟨u, rfl, rx⟩ := Jn r
  cases rx
  obtain ⟨t, u, v, hr⟩ := I.hok p _ hq
  have hn : Builtin.Range.rangeSize lo hi 1 = ((hi - lo).toNat : Int) := by rw [rangeSize_one]; split <;> omega
  refine call_list_range (I.ok.hd hc) hr (small_one h1 h2 h3 h4) hn (by omega) fun h' tk acc' c' kk hl ⟨hs, hacc⟩ => ?_
  have hf : H s.heap.objs.size = none := I.hok.fresh (Yd _)
  refine ⟨.ref s.heap.objs.size, _, I.laid kk (Nat.le_refl _) (show ObjOk X.prog X.w _ h' _ (.lst (Zll lo hi)) from ⟨?_, acc'.toList, c', Zcf ?_ fun i x u e1 e2 => ?_, by simpa using hl⟩), rfl, old _ hf⟩
  ·rw [Zdx]; exact Yj (m := 1000000) (by omega) (by decide)
  ·rw [Zdx]; simpa using hs.symm
  ·have hi : i < (hi - lo).toNat := by rw [<- Zdx]; exact (Yg.mp e1).1
   rw [Zjf hi] at e1
   cases e1
   obtain ⟨t, rfl⟩ := hacc i u (by simpa using e2)
   exact ⟨t, by rw [Int.mul_one]⟩
end
end My
namespace My
open PySem PySem.Spec L2
open PyProof.Rows hiding St
def J3 (X : Cx) (N : List Str) (sc : Scope) (cl : List (Str × Addr)) (fn : Str -> Bool) (s : Shared) (H : Hp) (fp : List Addr) : Cx where
 prog := X.prog
 w := X.w
 K := X.K
 mg := X.mg
 base := X.base
 A := X.A
 N := N
 s₀ := s
 H₀ := H
 env := compEnvC sc cl s.heap.objs.size X.env
 outer := X.stack
 stack := X.stack
 ex := fp
 calm := X.calm
 fn := fn
 pn := []
 xe := fun _ _ => False
abbrev blk (X : Cx) (N : List Str) (sc : Scope) (cl : List (Str × Addr)) (s : Shared) (H : Hp) (fp : List Addr) : Cx := J3 X N sc cl (fun _ => false) s H fp
def Ji (σ : St) (caps : List Nat) : St := caps.map fun i => (σ[i]?).join
structure Blk (X : Cx) (ts : List Str) (caps : List Nat) (cs : List Str) (sc : Scope) (cl : List (Str × Addr)) : Prop where
 clos : closureFor sc X.env = pure cl
 kind : sc.kind = .function
 cell : ∀ x ∈ sc.names, x.2 ≠ .cell
 loc : ∀ x ∈ sc.names, x.2 = .local -> sc.names.lookup x.1 = some .local
 sub : ∀ x c, cl.lookup x = some c -> X.env.cells.lookup x = some c
 has : ∀ x, ((relabel sc X.env).names.lookup x = some .cell \/ (relabel sc X.env).names.lookup x = some .free) -> ∃ c, cl.lookup x = some c
 len : caps.length = cs.length
 cap : ∀ (k : Nat) i x, caps[k]? = some i -> cs[k]? = some x -> X.N[i]? = some x /\ (X.env.kindOf x = some .cell \/ X.env.kindOf x = some .free)
 capK : ∀ x ∈ cs, (relabel sc X.env).names.lookup x = some .cell \/ (relabel sc X.env).names.lookup x = some .free
section
variable {X : Cx} {pins : List (Addr × Obj)} {σ : St} {H : Hp} {s : Shared} {ts cs : List Str} {caps : List Nat} {sc : Scope} {cl : List (Str × Addr)} {fp : List Addr}
theorem Zk1 (B : Blk X ts caps cs sc cl) (I : Inv X pins σ H s) (hf : ∀ b ∈ fp, Jy X pins H b) (hlt : ∀ b ∈ fp, b < s.heap.objs.size) : (blk X (ts ++ cs) sc cl s H fp).Ok where
 mod := I.ok.mod
 kind := B.kind
 glob := I.ok.glob
 blt := I.ok.blt
 above := Yd _
 inj := fun x y c h1 h2 => I.ok.inj x y c (B.sub x c h1) (B.sub y c h2)
 has := fun x h => B.has x h
 cab := fun x c h _ => by cases h
 hd := I.ok.hd
 frames := I.ok.frames
 stk := .inl rfl
 exf := fun b hb => ⟨Yk (hlt b hb), fun x c h => (hf b hb).2.2.2.2.1 x c (B.sub x c h)⟩
 bs := I.bs
 bsz := Yj I.ok.bsz I.sz
 noex := fun b o e hb => by
  rcases (hf b hb).2.2.2.1 with z | z
  ·exact I.ok.noex b o e z
  ·exact YR _ (Yt (Ye (I.ok.bs b o e).1) z)
 exfs := fun b hb z => by
  rcases Yn.mp (I.stkSub b z) with e | e
  ·exact (hf b hb).2.1 e
  ·exact (hf b hb).2.2.1 e
 funs := I.stack
 frf := I.stkFree
theorem Zmh (B : Blk X ts caps cs sc cl) (I : Inv X pins σ H s) (hf : ∀ b ∈ fp, Jy X pins H b) (hlt : ∀ b ∈ fp, b < s.heap.objs.size) {h₁ : Heap} {t' : Nat} (hn : h₁.Ns s.heap.objs.size fun _ => none) (kk : ∀ b o, s.heap.get? b = some o -> h₁.get? b = some o) :
  Inv (blk X (ts ++ cs) sc cl s H fp) [] (List.replicate ts.length none ++ Ji σ caps) H { s with heap := h₁, toks := t' } := by
 have hfr : H s.heap.objs.size = none := I.hok.fresh (Yd _)
 refine ⟨Zk1 B I hf hlt, rfl, I.bare, Un.kept kk, ⟨_, hn, fun i x v h1 h2 h3 => ?_⟩, fun x c e => ?_, hfr, fun x c e => I.freeC x c (B.sub x c e), fun p hp => absurd (show p ∈ ([] : List (Addr × Obj)) from hp) (by simp), I.hok.kept kk, ?_⟩
 ·have hi : ¬ i < ts.length := fun hi => by
   rw [List.getElem?_append_left (by simpa using hi), List.getElem?_replicate, if_pos hi] at h2
   cases h2
  have h1' : (ts ++ cs)[i]? = some x := h1
  rw [YZ (by omega)] at h1'
  rw [List.getElem?_append_right (by simp; omega), List.length_replicate] at h2
  unfold Ji at h2
  rw [Yh] at h2
  cases e : caps[i - ts.length]? with
  | none => rw [e] at h2; cases h2
  | some j =>
   rw [e] at h2
   have h2' : (σ[j]?).join = some v := by simpa using h2
   have h2'' : σ[j]? = some (some v) := by
    cases q : σ[j]? with
    | none => rw [q] at h2'; cases h2'
    | some o => rw [q] at h2'; cases h2'; rfl
   obtain ⟨hN, hk⟩ := B.cap _ _ _ e h1'
   obtain ⟨m, hm, hl⟩ := I.loc
   obtain ⟨u, r, l⟩ := hl j x v hN h2'' (.inr hk)
   refine ⟨u, r, ?_⟩
   rcases l with ⟨l, _⟩ | ⟨_, c, hc, ⟨o, ho, hd⟩⟩
   ·rcases hk with z | z <;> (rw [z] at l; cases l)
   ·have ck := B.capK x (Yo h1')
    obtain ⟨c', hc'⟩ := B.has x ck
    have := B.sub x c' hc'
    rw [hc] at this
    cases this
    exact .inr ⟨ck, c, hc', o, kk c o ho, hd⟩
 ·obtain ⟨v, o, ho, hd⟩ := I.cell x c (B.sub x c e)
  exact ⟨v, o, kk c o ho, hd⟩
 ·show (List.replicate ts.length (none : Option V) ++ Ji σ caps).length = (ts ++ cs).length
  rw [YS, YS, List.length_replicate]
  unfold Ji
  rw [Yi, B.len]
def Zhv (ifs : List Expr) (env : Env) : Sem Bool := forIn ifs true fun c r => if r = true then do let ok <- isTrue c env (eval c env); pure (ForInStep.yield ok) else pure (ForInStep.yield r)
def PTs (X : Cx) (ifs : List Expr) (t : TT) : Prop :=
 ∀ (pins : List (Addr × Obj)) (s : Shared) (σ : St) (H : Hp) (Q : Bool -> Hp -> Prop), Inv X pins σ H s -> t σ H Q -> wpAny (model X.prog X.w) X.A (Zhv ifs X.env) (TP X pins σ Q) X.xe s
def Zlf : TT := fun _ H Q => Q true H
theorem Zhw : PTs X [] Zlf := fun _ _ _ H _ I h => wpAny_tests_nil ⟨H, I, h⟩
theorem ZmP {c : Expr} {t : TT} (h : PT X c t) : PTs X [c] t := fun pins s σ H Q I hq => wpAny_tests_one (h pins s σ H Q I hq)
theorem Zg4 {prog : Program} {w : World} {A : Around} {R : Result -> Shared -> Prop} {s : Shared} {elt target iter : Expr} {ifs : List Expr} {scope : Scope} {pos : Pos} {it acc : Value} {env : Env} (I : Nat -> Shared -> Prop)
  (turn : ∀ n s, I n s -> wpAny (model prog w) A (pyNext it) (fun r s₁ => match r with
   | none => R (.ok .next) s₁
   | some v => wpAny (model prog w) A (letOwnedTupleGo target it v) (fun _ s₁' => wpAny (model prog w) A (assign target env v) (fun _ s₂ => wpAny (model prog w) A (Zhv ifs env) (fun ok s₃ =>
     if ok = true then wpAny (model prog w) A (eval elt env) (fun x s₄ =>
      wpAny (model prog w) A (call (.builtin "list.append") [acc, x]) (fun _ s₅ => ∃ m, m < n /\ I m s₅) (notedBy (model prog w) A env fun e s' => R (.error e) s') s₄) (notedBy (model prog w) A env fun e s' => R (.error e) s') s₃
     else ∃ m, m < n /\ I m s₃) (notedBy (model prog w) A env fun e s' => R (.error e) s') s₂) (notedBy (model prog w) A env fun e s' => R (.error e) s') s₁') (notedBy (model prog w) A env fun e s' => R (.error e) s') s₁) (notedBy (model prog w) A env fun e s' => R (.error e) s') s)
  (n : Nat) (h : I n s) : codeAny (model prog w) A (.compLoop (.ListComp elt [⟨target, iter, ifs, 0⟩] scope pos) 0 it acc env) R s := by
 refine codeAny_loop rfl I (fun n s hI => ?_) n h
 show wpAny _ _ ((compTurn (.ListComp elt [⟨target, iter, ifs, 0⟩] scope pos) 0 it acc env).onRaise (fun x => do noteFrame x env; theTreesLotGoes x)) _ _ s
 refine wpAny_noted ?_
 rw [compTurn_list]
 refine Ya (V9 (Ya (Yu (turn n s hI) (fun r s₁ h₁ => ?_) fun _ _ h' => h')))
 cases r with
 | none => exact Yb h₁
 | some v =>
  refine Ya (Yu h₁ (fun _ s₁' h₁' => ?_) fun _ _ h' => h')
  refine Ya (Yu h₁' (fun _ s₂ h₂ => Ya (Yu h₂ (fun ok s₃ h₃ => ?_) fun _ _ h' => h')) fun _ _ h' => h')
  cases ok with
  | false => exact Yb ⟨rfl, h₃⟩
  | true => exact Ya (Ya (Yu h₃ (fun x s₄ h₄ => Ya (Yu h₄ (fun _ s₅ h₅ => Yb (Yb ⟨rfl, h₅⟩)) fun _ _ h' => h')) fun _ _ h' => h'))
def Zd1 (nt : Nat) (cp : St) (J : It) (g : TG) (tt : TT) (te : TE) (H1 : Hp) (Q : VK) : Prop := ∀ acc H2, H1 acc = none -> Same H1 H2 -> H2 acc = some (.lst []) ->
 ∃ W : Nat -> Nat -> List V -> Hp -> Prop, (∃ m, W 0 m [] H2) /\ ∀ i m ys H, W i m ys H -> H acc = some (.lst ys) /\ ((J.stop i H /\ Q (.ref acc) H) \/ (J.go i H /\ ys.length < 1000000 /\ ∃ N : List V -> Hp -> Prop, (∀ ys' H', N ys' H' -> ∃ m', m' < m /\ W (i + 1) m' ys' H') /\
  ∀ os x H', os.length = nt -> J.yld i H x H' -> g x (os ++ cp) H' fun τ H3 => ∃ os', os'.length = nt /\ τ = os' ++ cp /\ tt τ H3 fun b H4 => if b = true then te τ H4 fun v H5 => H5 acc = some (.lst ys) /\ N (ys ++ [v]) (upd H5 acc (.lst (ys ++ [v]))) else N ys H4))
def Zm8 (nt : Nat) (cp : St) (J : It) (g : TG) (te : TE) (H1 : Hp) (Q : VK) : Prop := Zd1 nt cp J g Zlf te H1 Q
def ZbM (nt : Nat) (caps : List Nat) (wi : TI) (g : TG) (tt : TT) (te : TE) : TE := fun σ H Q => wi σ H fun J H1 => Zd1 nt (Ji σ caps) J g tt te H1 Q
def JP (nt : Nat) (caps : List Nat) (wi : TI) (g : TG) (te : TE) : TE := fun σ H Q => wi σ H fun J H1 => Zm8 nt (Ji σ caps) J g te H1 Q
def Zez (X : Cx) (pins : List (Addr × Obj)) (σ : St) (Q : VK) (acc : Value) (C : Addr) (r : Result) (s' : Shared) : Prop :=
 r = .ok .next /\ ∃ a H', acc = .ref a /\ Inv X pins σ H' s' /\ Jy X pins H' C /\ (∃ m, s'.heap.Ns C m) /\ Q (.ref a) H'
theorem Zmf {elt target iter : Expr} {ifs : List Expr} {pos : Pos} {g : TG} {tt : TT} {te : TE} {it acc : Addr} {tn : Nat -> Heap -> Prop} {J : It} {Q : VK} {cells : List (Str × Addr)} {fn : Str -> Bool} {s3 s4 : Shared} {H3 : Hp} {W : Nat -> Nat -> List V -> Hp -> Prop} {m0 : Nat} (hc : X.calm = true)
  (hg : PG (J3 X (ts ++ cs) sc cells fn s3 H3 fp) target g) (ht : PTs (J3 X (ts ++ cs) sc cells fn s3 H3 fp) ifs tt) (he : PE (J3 X (ts ++ cs) sc cells fn s3 H3 fp) elt te) (ok : (J3 X (ts ++ cs) sc cells fn s3 H3 fp).Ok)
  (I3 : Inv X pins σ H3 s3) (f3 : ∀ b ∈ fp, Jy X pins H3 b) (hlt3 : ∀ b ∈ fp, b < s3.heap.objs.size) (T : Turn X.prog X.w X.K target J fp it tn) (J4 : Inv (J3 X (ts ++ cs) sc cells fn s3 H3 fp) [] (List.replicate ts.length none ++ Ji σ caps) H3 s4) (st4 : tn 0 s4.heap) (w0 : W 0 m0 [] H3)
  (step : ∀ i m ys H, W i m ys H -> H acc = some (.lst ys) /\ ((J.stop i H /\ Q (.ref acc) H) \/ (J.go i H /\ ys.length < 1000000 /\ ∃ N : List V -> Hp -> Prop, (∀ ys' H', N ys' H' -> ∃ m', m' < m /\ W (i + 1) m' ys' H') /\
   ∀ os x H', os.length = ts.length -> J.yld i H x H' -> g x (os ++ Ji σ caps) H' fun τ H3 => ∃ os', os'.length = ts.length /\ τ = os' ++ Ji σ caps /\ tt τ H3 fun b H4 => if b = true then te τ H4 fun v H5 => H5 acc = some (.lst ys) /\ N (ys ++ [v]) (upd H5 acc (.lst (ys ++ [v]))) else N ys H4))) :
  codeAny (model X.prog X.w) X.A (.compLoop (.ListComp elt [⟨target, iter, ifs, 0⟩] sc pos) 0 (.ref it) (.ref acc) (compEnvC sc cells s3.heap.objs.size X.env)) (Zez X pins σ Q (.ref acc) s3.heap.objs.size) s4 := by
 have stat : ∀ {H' : Hp}, (∀ b ∈ fp, H' b = none) -> ∀ b ∈ fp, Jy (J3 X (ts ++ cs) sc cells fn s3 H3 fp) [] H' b := fun hn b hb =>
  ⟨hn b hb, Nat.ne_of_lt (hlt3 b hb), ok.exfs b hb, .inl hb, ok.exf b hb |>.2, fun p hp => absurd (show p ∈ ([] : List (Addr × Obj)) from hp) (by simp)⟩
 refine Zg4 (fun n s' => ∃ i os ys H', os.length = ts.length /\ Inv (J3 X (ts ++ cs) sc cells fn s3 H3 fp) [] (os ++ Ji σ caps) H' s' /\ tn i s'.heap /\ (∀ b ∈ fp, H' b = none) /\ W i n ys H') ?_ m0
  ⟨0, List.replicate ts.length none, [], _, by simp, J4, st4, fun b hb => (f3 b hb).1, w0⟩
 rintro n s5 ⟨i, os, ys, H5, ol, J5, st5, fr5, w5⟩
 obtain ⟨ha, hcase⟩ := step i n ys H5 w5
 rcases hcase with ⟨stop, q⟩ | ⟨go, hys, N, hN, turn⟩
 ·refine ZJ (T.done (J3 X (ts ++ cs) sc cells fn s3 H3 fp) rfl rfl rfl hc i [] s5 _ H5 _ J5 (stat fr5) st5 stop) fun r s6 ⟨hr, J6⟩ => ?_
  subst hr
  have hf6 : H5 s3.heap.objs.size = none := J6.free
  obtain ⟨m6, hm6, _⟩ := J6.loc
  exact ⟨rfl, _, H5, rfl, I3.call' (J6.os) J6.base J6.hok J6.bare (fun b hb => ⟨(f3 b hb).2.2.2.1, (f3 b hb).2.1, (f3 b hb).2.2.2.2.1, (f3 b hb).2.2.2.2.2⟩), I3.fpOk (Yd _) hf6, ⟨m6, hm6⟩, q⟩
 ·refine ZJ (T.item (J3 X (ts ++ cs) sc cells fn s3 H3 fp) rfl rfl rfl hc i [] s5 _ H5 _ J5 (stat fr5) st5 go) fun r s6 ⟨u, hr, h6⟩ => ?_
  subst hr
  refine ZJ h6 fun _ s7 ⟨x, H7, J7, r7, y7, st7, fr7⟩ => ?_
  have J7' := J7.pinned (stat fr7) (T.obj _ _ st7)
  refine Yu (hg _ s7 _ H7 x u _ J7' r7 (turn os x H7 ol y7)) (fun _ s8 ⟨σ8, H8, J8, os', ol', e8, q8⟩ => ?_) fun _ _ z => z.elim
  subst e8
  refine Yu (ht _ s8 _ H8 _ J8 q8) (fun b s8' ⟨H8', J8', q8'⟩ => ?_) fun _ _ z => z.elim
  cases b with
  | false =>
   rw [if_neg (by decide)] at q8' ⊢
   obtain ⟨m', hm', w9⟩ := hN _ _ q8'
   refine ⟨m', hm', i + 1, os', ys, _, ol', J8'.unpinned, T.keep _ _ _ st7 fun b hb o e => (J8'.pin (b, o) (Yv _ (Yv _ (Zay hb e)))).1, fun b hb => ?_, w9⟩
   obtain ⟨o, e, d⟩ := T.obj _ _ st7 b hb
   exact (J8'.pin (b, o) (Yv _ (Yv _ (Zay hb e)))).2.1
  | true =>
   rw [if_pos rfl] at q8' ⊢
   refine Yu (he _ s8' _ H8' _ J8' q8') (fun v s9 ⟨v9, H9, J9, r9, ha9, n9⟩ => ?_) fun _ _ z => z.elim
   refine Yu (Zel (X := J3 X (ts ++ cs) sc cells fn s3 H3 fp) _ s9 _ H9 (.ref acc) [v9] (.ref acc) [v] (fun _ H' => H' = upd H9 acc (.lst (ys ++ [v9]))) J9 rfl (.cons r9 .nil) ⟨_, ys, v9, rfl, rfl, ha9, Zqb hys, rfl⟩) (fun _ s10 ⟨_, H10, J10, _, e10⟩ => ?_) fun _ _ z => z.elim
   subst e10
   obtain ⟨m', hm', w9⟩ := hN _ _ n9
   refine ⟨m', hm', i + 1, os', ys ++ [v9], _, ol', J10.unpinned, T.keep _ _ _ st7 fun b hb o e => (J10.pin (b, o) (Yv _ (Yv _ (Zay hb e)))).1, fun b hb => ?_, w9⟩
   obtain ⟨o, e, d⟩ := T.obj _ _ st7 b hb
   exact (J10.pin (b, o) (Yv _ (Yv _ (Zay hb e)))).2.1
theorem Zie {elt target iter : Expr} {ifs : List Expr} {pos : Pos} {g : TG} {tt : TT} {te : TE} {it : Addr} {tn : Nat -> Heap -> Prop} {J : It} {Q : VK} {E : Value -> Shared -> Prop} (B : Blk X ts caps cs sc cl) (hc : X.calm = true)
  (hg : ∀ s H fp, PG (blk X (ts ++ cs) sc cl s H fp) target g) (ht : ∀ s H fp, PTs (blk X (ts ++ cs) sc cl s H fp) ifs tt) (he : ∀ s H fp, PE (blk X (ts ++ cs) sc cl s H fp) elt te)
  (I2 : Inv X pins σ H s) (T : Turn X.prog X.w X.K target J fp it tn) (st2 : tn 0 s.heap) (f2 : ∀ b ∈ fp, Jy X pins H b) (h : Zd1 ts.length (Ji σ caps) J g tt te H Q) :
  wpAny (model X.prog X.w) X.A (newList []) (fun acc s₃ => wpAny (model X.prog X.w) X.A (newFunctionEnv sc X.env.globals cl [] X.env.qual none .none (some X.env)) (fun cenv s₄ =>
   codeAny (model X.prog X.w) X.A (.compStart (.ListComp elt [⟨target, iter, ifs, 0⟩] sc pos) 0 (.ref it) acc { cenv with scope := relabel sc X.env }) (Zez X pins σ Q acc cenv.locals) s₄) E s₃) E s := by
 refine wpAny_newObj_type (wpAny_newFunctionEnv B.cell (by intro y hy; simp at hy) (fun h₁ hns₁ hsb₁ => ?_) B.kind)
 dsimp only at hns₁ hsb₁ ⊢
 have hnew : H s.heap.objs.size = none := I2.hok.fresh (Yd _)
 have I3 : Inv X pins σ (upd H s.heap.objs.size (.lst [])) { s with heap := s.heap.push { cls := .type "list", dict := none, data := .seq ([] : List Value).toArray } } :=
  I2.laid (t' := s.toks) (fun b u e => Yf _ e) (Yd _) ⟨YB _, [], 0, .nil, Ym _ rfl⟩
 obtain ⟨W, ⟨m0, w0⟩, step⟩ := h s.heap.objs.size _ hnew (ZC hnew _) upd_same
 have old2 : ∀ b o, s.heap.get? b = some o -> (s.heap.push { cls := .type "list", dict := none, data := .seq ([] : List Value).toArray }).get? b = some o := fun b o e => Yf _ e
 generalize hs3 : ({ s with heap := s.heap.push { cls := .type "list", dict := none, data := .seq ([] : List Value).toArray } } : Shared) = s3 at I3
 have hh : s.heap.push { cls := .type "list", dict := none, data := .seq ([] : List Value).toArray } = s3.heap := by rw [<- hs3]
 rw [hh] at hns₁ hsb₁ old2
 have fpO : ∀ b ∈ fp, ∃ o, s.heap.get? b = some o := fun b hb => let ⟨o, e, _⟩ := T.obj 0 _ st2 b hb; ⟨o, e⟩
 have f3 : ∀ b ∈ fp, Jy X pins (upd H s.heap.objs.size (.lst [])) b := fun b hb => ⟨by
  obtain ⟨o, e⟩ := fpO b hb
  rw [Zf (Yk (Ye e))]; exact (f2 b hb).1, (f2 b hb).2⟩
 have hlt3 : ∀ b ∈ fp, b < s3.heap.objs.size := fun b hb => let ⟨o, e⟩ := fpO b hb; Ye (old2 b o e)
 have kk : ∀ b o, s3.heap.get? b = some o -> h₁.get? b = some o := fun b o e => hsb₁.extBut b o (Yk (Ye e)) (Yf _ e)
 have J4 := Zmh (t' := s.toks + ([] : List (Str × Value)).length) B I3 f3 hlt3 (h₁ := h₁) hns₁ kk
 have st4 : tn 0 h₁ := T.keep _ _ _ st2 fun b hb o e => kk b o (old2 b o e)
 have key : ∀ s4 : Shared, s4 = { s3 with heap := h₁, toks := s.toks + ([] : List (Str × Value)).length } ->
   codeAny (model X.prog X.w) X.A (.compLoop (.ListComp elt [⟨target, iter, ifs, 0⟩] sc pos) 0 (.ref it) (.ref s.heap.objs.size) (compEnvC sc cl s3.heap.objs.size X.env)) (Zez X pins σ Q (.ref s.heap.objs.size) s3.heap.objs.size) s4 := by
  rintro s4 rfl
  exact Zmf hc (hg _ _ _) (ht _ _ _) (he _ _ _) (Zk1 B I3 f3 hlt3) I3 f3 hlt3 T J4 st4 w0 step
 have key2 := key { s with heap := h₁, toks := s.toks + ([] : List (Str × Value)).length } (by rw [<- hs3])
 rw [hh]
 exact codeAny_compStart_list key2 (T.self _ 0 _ _ _ st4 key2)
theorem ZfT {elt target iter : Expr} {ifs : List Expr} {pos : Pos} {wi : TI} {g : TG} {tt : TT} {te : TE} (B : Blk X ts caps cs sc cl) (hi : PI X target iter wi)
  (hg : ∀ s H fp, PG (blk X (ts ++ cs) sc cl s H fp) target g) (ht : ∀ s H fp, PTs (blk X (ts ++ cs) sc cl s H fp) ifs tt) (he : ∀ s H fp, PE (blk X (ts ++ cs) sc cl s H fp) elt te) (hc : X.calm = true := by rfl) (hs : ∀ x, foldedSetIterable iter X.env x = pure x := by intro _; rfl) :
  PE X (.ListComp elt [⟨target, iter, ifs, 0⟩] sc pos) (ZbM ts.length caps wi g tt te) := by
 intro pins s σ H Q I h
 rw [eval_ListComp]
 refine wpAny_comprehension_free (use := none) rfl hs B.clos B.kind B.loc (ZJ (hi pins s σ H _ I h) fun v s1 h1 => ZJ h1 fun itv s2 h2 => ?_)
 obtain ⟨it, fp, tn, J, H2, e, I2, T, st2, f2, hq⟩ := h2
 subst e
 refine ZJ (Zie B hc hg ht he I2 T st2 f2 hq) fun acc s3 h3 => ZJ h3 fun cenv s4 h4 => YV h4 fun r s' hp => ?_
 obtain ⟨rfl, a, H', rfl, I', fC, ⟨m, hm⟩, q⟩ := hp
 exact ⟨m, hm, fun h' sb => ⟨.ref a, H', I'.turned (t' := s'.toks) (fun b o hb e => sb.extBut b o hb e) fC.1 fC.2.1 fC.2.2.2.1 fC.2.2.2.2.1 fC.2.2.2.2.2, rfl, q⟩⟩
theorem ZcI {elt target iter : Expr} {ifs : List Expr} {x : Str} {px pos spos : Pos} {wi : TI} {g : TG} {tt : TT} {te : TE} (i : Nat) (B : Blk X ts caps cs sc cl) (hi : PI X target iter wi)
  (hg : ∀ s H fp, PG (blk X (ts ++ cs) sc cl s H fp) target g) (ht : ∀ s H fp, PTs (blk X (ts ++ cs) sc cl s H fp) ifs tt) (he : ∀ s H fp, PE (blk X (ts ++ cs) sc cl s H fp) elt te) (hx : PG X (.Name x px) (JA i))
  (hsw : swapsWith (.ListComp elt [⟨target, iter, ifs, 0⟩] sc pos) (some (.Name x px)) spos.line X.env = pure true) (hc : X.calm = true := by rfl) (hs : ∀ x, foldedSetIterable iter X.env x = pure x := by intro _; rfl) :
  PS X (.Assign [.Name x px] (.ListComp elt [⟨target, iter, ifs, 0⟩] sc pos) spos) (Zi9 (ZbM ts.length caps wi g tt te) (JA i)) := by
 intro pins s σ H D I h
 rw [exec_Assign_Name_used _ _ _ _ hsw]
 refine Ya (V9 (Ya ?_))
 show wpAny _ X.A (do let _ <- comprehension (.ListComp elt [⟨target, iter, ifs, 0⟩] sc pos) sc X.env _ (newList []) false (eval iter X.env) (some (assign (.Name x px) X.env))) _ _ s
 refine Ya (Yu (wpAny_comprehension_free (use := some (assign (.Name x px) X.env)) (Q := fun _ s' => SP X pins D .next s') rfl hs B.clos B.kind B.loc
  (ZJ (hi pins s σ H _ I h) fun v s1 h1 => ZJ h1 fun itv s2 h2 => ?_)) (fun _ s' hq => Yb (Yb hq)) fun _ _ e => e)
 obtain ⟨it, fp, tn, J, H2, e, I2, T, st2, f2, hq⟩ := h2
 subst e
 refine ZJ (Zie B hc hg ht he I2 T st2 f2 hq) fun acc s3 h3 => ZJ h3 fun cenv s4 h4 => YV h4 fun r s' hp => ?_
 obtain ⟨rfl, a, H', rfl, I', fC, ⟨m, hm⟩, q⟩ := hp
 obtain ⟨oC, esC, epC, hoC, hdC, rC⟩ := id hm
 have Ip : Inv X (pins ++ [(cenv.locals, oC)]) σ H' s' := I'.pins_of fun p hp => by
  rcases Yx.mp hp with z | z
  ·exact I'.pin p (Yv _ z)
  ·have z : p = (cenv.locals, oC) := by simpa using z
   subst z
   exact ⟨hoC, fC.1, fC.2.1, fC.2.2.1, fun v z => by rw [show oC.data = _ from hdC] at z; cases z⟩
 refine ZJ (hx _ s' σ H' (.ref a) (.ref a) _ Ip rfl q) fun _ s5 ⟨σ5, H5, I5, q5⟩ => ?_
 have pC := I5.pin (cenv.locals, oC) (List.mem_append_right _ (List.mem_append_right _ (by simp)))
 refine ⟨m, ⟨oC, esC, epC, pC.1, hdC, rC⟩, fun h' sb => ⟨σ5, H5, I5.unpinned.turned (t' := s5.toks) (fun b o hb e => sb.extBut b o hb e) pC.2.1 fC.2.1 fC.2.2.2.1 fC.2.2.2.2.1 fC.2.2.2.2.2, q5⟩⟩
theorem Zm6 {elt target iter : Expr} {pos : Pos} {wi : TI} {g : TG} {te : TE} (B : Blk X ts caps cs sc cl) (hi : PI X target iter wi)
  (hg : ∀ s H fp, PG (blk X (ts ++ cs) sc cl s H fp) target g) (he : ∀ s H fp, PE (blk X (ts ++ cs) sc cl s H fp) elt te) (hc : X.calm = true := by rfl) (hs : ∀ x, foldedSetIterable iter X.env x = pure x := by intro _; rfl) :
  PE X (.ListComp elt [⟨target, iter, [], 0⟩] sc pos) (JP ts.length caps wi g te) := ZfT B hi hg (fun _ _ _ => Zhw) he hc hs
theorem Zf7 {elt target iter : Expr} {x : Str} {px pos spos : Pos} {wi : TI} {g : TG} {te : TE} (i : Nat) (B : Blk X ts caps cs sc cl) (hi : PI X target iter wi)
  (hg : ∀ s H fp, PG (blk X (ts ++ cs) sc cl s H fp) target g) (he : ∀ s H fp, PE (blk X (ts ++ cs) sc cl s H fp) elt te) (hx : PG X (.Name x px) (JA i))
  (hsw : swapsWith (.ListComp elt [⟨target, iter, [], 0⟩] sc pos) (some (.Name x px)) spos.line X.env = pure true) (hc : X.calm = true := by rfl) (hs : ∀ x, foldedSetIterable iter X.env x = pure x := by intro _; rfl) :
  PS X (.Assign [.Name x px] (.ListComp elt [⟨target, iter, [], 0⟩] sc pos) spos) (Zi9 (JP ts.length caps wi g te) (JA i)) := ZcI i B hi hg (fun _ _ _ => Zhw) he hx hsw hc hs
end
end My
namespace My
open PySem PySem.Spec L2
open PyProof.Rows hiding St
section
variable {X : Cx} {tg e elt it c d : Expr} {te : TE} {ta : TA} {wi : TI} {g : TG} {pos p : Pos} {ts cs : List Str} {caps : List Nat} {sc : Scope} {cl : List (Str × Addr)}
theorem Zk0 {es : List Expr} {x1} {pos' : Pos} (hg : Gl X "enumerate") (hm : X.mg "enumerate" = none) (ha : QA X [c] ta) (hp : Zn c = true := by rfl) : QI X (.Tuple es x1 pos') (.Call (.Name "enumerate" p) [c] [] pos) (Znc X.K ta) := ⟨Zl9 hg hm ha.h (Zl hp)⟩
theorem Zn7 (hg : Gl X "range") (hm : X.mg "range" = none) (ha : QA X [c, d] ta) (hp : Zn c = true := by rfl) (hq : Zn d = true := by rfl) : QE X (.Call (.Name "range" p) [c, d] [] pos) (Zmj ta) := ⟨Zmr hg hm ha.h (by rw [Zl hp, Zl hq]; rfl) (Zl hq)⟩
theorem Zc5 (hg : Gl X "list") (hm : X.mg "list" = none) (ha : QA X [c] ta) (hp : Zn c = true := by rfl) (hc : X.calm = true := by rfl) : QE X (.Call (.Name "list" p) [c] [] pos) (tCB (ZeM X.K) ta) := ⟨Za0 (Zgf hc) hg hm (by decide +kernel) ha.h (by decide) (by decide) (Zl hp) rfl⟩
theorem ZpZ (hg : Gl X "min") (hm : X.mg "min" = none) (ha : QA X [c, d] ta) (hp : Zn c = true := by rfl) (hq : Zn d = true := by rfl) (hc : X.calm = true := by rfl) :
  QE X (.Call (.Name "min" p) [c, d] [] pos) (tCB (fun xs H Q => ∃ i j, xs = [.int i, .int j] /\ Q (.int (if j < i then j else i)) H) ta) := ⟨ZaC (Zg3 hc) hg hm (by decide +kernel) ha.h (by decide) (by decide) (Zl hp) (by rw [Zl hq]; rfl)⟩
theorem Zh2 {o i : Expr} {to ti : TE} (ho : QE X o to) (hi : QE X i ti) (ha : ∀ v, assign (.Subscript o i pos) X.env v = (do
      let ov <- holding [v] (eval o X.env)
      let iv <- holding [v, ov] (eval i X.env)
      standAt pos
      holding [v, ov, iv] (setItem ov iv v)
      release [v, ov, iv] []) := by intro _; rfl) : QG X (.Subscript o i pos) (Zo4 to ti ZkE) := ⟨Zom ho.h hi.h ZkJ ha⟩
theorem ZpD (ts : List Str) (hk : sc.kind = .function := by rfl) (h : (sc.names.all fun x => x.2 != .free && x.2 != .cell && (x.2 != .local || sc.names.lookup x.1 == some .local)) = true := by decide +kernel) : Blk X ts [] [] sc [] := by
 have hh : ∀ x ∈ sc.names, x.2 ≠ .free /\ x.2 ≠ .cell /\ (x.2 = .local -> sc.names.lookup x.1 = some .local) := fun x hx => by
  have q := List.all_eq_true.mp h x hx
  simp only [Bool.and_eq_true, bne_iff_ne, ne_eq, Bool.or_eq_true, beq_iff_eq] at q
  exact ⟨q.1.1, q.1.2, fun z => q.2.elim (fun y => absurd z y) id⟩
 have rl : relabel sc X.env = sc := by
  unfold relabel
  rw [map_eq_self fun x hx => by
   have q : (x.2 == NameKind.free) = false := by simpa using (hh x hx).1
   obtain ⟨n, k⟩ := x
   simp only at q
   simp [q]]
 refine ⟨closureFor_none fun x hx => (hh x hx).1, hk, fun x hx => (hh x hx).2.1, fun x hx => (hh x hx).2.2, fun x c e => by simp at e, fun x e => ?_, rfl, fun k i x e => by simp at e, fun x e => by simp at e⟩
 rw [rl] at e
 rcases e with e | e
 ·exact absurd rfl (hh _ (Vb e)).2.1
 ·exact absurd rfl (hh _ (Vb e)).1
def Zdt (cells : List (Str × Addr)) : List (Str × NameKind) -> List (Str × Addr) -> Option (List (Str × Addr))
 | [], acc => some acc
 | (n, k) :: r, acc => if k == .free then (match cells.lookup n with | some c => Zdt cells r ((n, c) :: acc) | none => none) else Zdt cells r acc
theorem Zdk {env : Env} : ∀ {ns : List (Str × NameKind)} {acc cl : List (Str × Addr)}, Zdt env.cells ns acc = some cl ->
  (forIn ns acc fun x r => (match x with | (name, kind) => if (kind == NameKind.free) = true then do let c <- PySem.cellOf env name; pure (ForInStep.yield ((name, c) :: r)) else pure (ForInStep.yield r) : Sem (ForInStep (List (Str × Addr))))) = (pure cl : Sem _)
 | [], acc, cl, h => by cases h; rfl
 | (n, k) :: r, acc, cl, h => by
  unfold Zdt at h
  rw [List.forIn_cons]
  dsimp only
  split at h
  ·rename_i hk
   rw [if_pos hk]
   split at h
   ·rename_i c hc
    have e : PySem.cellOf env n = pure c := by unfold PySem.cellOf; rw [hc]
    rw [e]
    exact Zdk h
   ·cases h
  ·rename_i hk
   rw [if_neg hk]
   exact Zdk h
theorem Zcq {cells : List (Str × Addr)} : ∀ {ns : List (Str × NameKind)} {acc cl : List (Str × Addr)}, Zdt cells ns acc = some cl -> (∀ p ∈ acc, cells.lookup p.1 = some p.2) -> ∀ p ∈ cl, cells.lookup p.1 = some p.2
 | [], acc, cl, h, ha => by cases h; exact ha
 | (n, k) :: r, acc, cl, h, ha => by
  unfold Zdt at h
  split at h
  ·split at h
   ·rename_i c hc
    exact Zcq h fun p hp => by
     rcases Yn.mp hp with rfl | hp
     ·exact hc
     ·exact ha p hp
   ·cases h
  ·exact Zcq h ha
theorem Zcc {cells : List (Str × Addr)} {x : Str} : ∀ {ns : List (Str × NameKind)} {acc cl : List (Str × Addr)}, Zdt cells ns acc = some cl -> ((x, NameKind.free) ∈ ns \/ ∃ c, (x, c) ∈ acc) -> ∃ c, (x, c) ∈ cl
 | [], acc, cl, h, ha => by
  cases h
  rcases ha with z | z
  ·cases z
  ·exact z
 | (n, k) :: r, acc, cl, h, ha => by
  unfold Zdt at h
  split at h
  ·split at h
   ·rename_i c hc
    refine Zcc h ?_
    rcases ha with z | ⟨c', z⟩
    ·rcases Yn.mp z with e | z
     ·cases e; exact .inr ⟨c, Vc⟩
     ·exact .inl z
    ·exact .inr ⟨c', Y1 _ z⟩
   ·cases h
  ·rename_i hk
   refine Zcc h ?_
   rcases ha with z | z
   ·rcases Yn.mp z with e | z
    ·cases e; exact absurd rfl hk
    ·exact .inl z
   ·exact .inr z
theorem Zbn {x : Str} {c : Addr} : ∀ {l : List (Str × Addr)}, (x, c) ∈ l -> ∃ c', l.lookup x = some c'
 | [], h => by cases h
 | (n, d) :: r, h => by
  rw [List.lookup_cons]
  cases e : x == n with
  | true => exact ⟨d, rfl⟩
  | false =>
   rcases Yn.mp h with z | z
   ·cases z; simp at e
   ·exact Zbn z
theorem Zbq {env : Env} {x : Str} {k : NameKind} (h : (relabel sc env).names.lookup x = some k) : (x, k) ∈ sc.names \/ (k = .cell /\ (x, NameKind.free) ∈ sc.names) := by
 have m := Vb h
 unfold relabel at m
 obtain ⟨⟨n, k'⟩, hm, e⟩ := Yl.mp m
 dsimp only at e
 split at e
 ·rename_i hc
  cases e
  simp only [Bool.and_eq_true, beq_iff_eq] at hc
  rw [hc.1.1] at hm
  exact .inr ⟨rfl, hm⟩
 ·cases e
  exact .inl hm
theorem Za1 {env : Env} {x : Str} : ∀ {ns : List (Str × NameKind)}, ns.lookup x = some NameKind.free ->
  (ns.map fun (n, k) => if (k == NameKind.free && env.scope.kind == .function && env.kindOf n == some .cell) then (n, NameKind.cell) else (n, k)).lookup x = some .cell \/
  (ns.map fun (n, k) => if (k == NameKind.free && env.scope.kind == .function && env.kindOf n == some .cell) then (n, NameKind.cell) else (n, k)).lookup x = some .free
 | [], h => by cases h
 | (n, k) :: r, h => by
  rw [List.lookup_cons] at h
  rw [Yq]
  dsimp only
  cases e : x == n with
  | true =>
   rw [e] at h
   cases h
   split <;> simp [List.lookup_cons, e]
  | false =>
   rw [e] at h
   split
   ·simp only [List.lookup_cons, e]; exact Za1 h
   ·simp only [List.lookup_cons, e]; exact Za1 h
theorem Zkv (ts : List Str) (caps : List Nat) (cs : List Str) (hcl : Zdt X.env.cells sc.names [] = some cl := by rfl) (hcap : caps.map (fun i => X.N[i]?) = cs.map some := by rfl) (hck : (cs.all fun x => X.env.kindOf x == some .cell || X.env.kindOf x == some .free) = true := by rfl)
  (hcf : cs.map (fun x => sc.names.lookup x) = cs.map (fun _ => some NameKind.free) := by rfl) (hk : sc.kind = .function := by rfl) (h : (sc.names.all fun x => x.2 != .cell && (x.2 != .local || sc.names.lookup x.1 == some .local)) = true := by decide +kernel) : Blk X ts caps cs sc cl := by
 have hh : ∀ x ∈ sc.names, x.2 ≠ .cell /\ (x.2 = .local -> sc.names.lookup x.1 = some .local) := fun x hx => by
  have q := List.all_eq_true.mp h x hx
  simp only [Bool.and_eq_true, bne_iff_ne, ne_eq, Bool.or_eq_true, beq_iff_eq] at q
  exact ⟨q.1, fun z => q.2.elim (fun y => absurd z y) id⟩
 have len : caps.length = cs.length := by have := congrArg List.length hcap; simpa using this
 refine ⟨?_, hk, fun x hx => (hh x hx).1, fun x hx => (hh x hx).2, fun x c e => ?_, fun x e => ?_, len, fun k i x e1 e2 => ?_, fun x hx => ?_⟩
 ·simp only [closureFor]
  rw [Zdk hcl]
  rfl
 ·exact Zcq hcl (fun p hp => by cases hp) _ (Vb e)
 ·have m : (x, NameKind.free) ∈ sc.names := by
   rcases e with e | e
   ·rcases Zbq e with z | ⟨_, z⟩
    ·exact absurd rfl (hh _ z).1
    ·exact z
   ·rcases Zbq e with z | ⟨z, _⟩
    ·exact z
    ·cases z
  obtain ⟨c, hc⟩ := Zcc hcl (.inl m)
  exact Zbn hc
 ·have h1 := congrArg (·[k]?) hcap
  simp only [List.getElem?_map, e1, e2, Option.map_some, Option.some.injEq] at h1
  have h2 := List.all_eq_true.mp hck x (Yo e2)
  simp only [Bool.or_eq_true, beq_iff_eq] at h2
  exact ⟨h1, h2⟩
 ·obtain ⟨k, hk'⟩ := Vu hx
  have h1 := congrArg (·[k]?) hcf
  simp only [List.getElem?_map, hk', Option.map_some, Option.some.injEq] at h1
  exact Za1 h1
structure QTs (X : Cx) (ifs : List Expr) (t : TT) : Prop where
 h : PTs X ifs t
theorem Zfx {tt : TT} (h : QT X c tt) : QTs X [c] tt := ⟨ZmP h.h⟩
theorem ZeZ {ifs : List Expr} {tt : TT} (B : Blk X ts caps cs sc cl) (hi : QI X tg it wi) (hg : ∀ s H fp, QG (blk X (ts ++ cs) sc cl s H fp) tg g) (ht : ∀ s H fp, QTs (blk X (ts ++ cs) sc cl s H fp) ifs tt) (he : ∀ s H fp, QE (blk X (ts ++ cs) sc cl s H fp) elt te) (hc : X.calm = true := by rfl) (hs : ∀ x, foldedSetIterable it X.env x = pure x := by intro _; rfl) :
  QE X (.ListComp elt [⟨tg, it, ifs, 0⟩] sc pos) (ZbM ts.length caps wi g tt te) := ⟨ZfT B hi.h (fun s H fp => (hg s H fp).h) (fun s H fp => (ht s H fp).h) (fun s H fp => (he s H fp).h) hc hs⟩
theorem Zgx {ifs : List Expr} {tt : TT} {x : Str} {px spos : Pos} (i : Nat) (B : Blk X ts caps cs sc cl) (hi : QI X tg it wi) (hg : ∀ s H fp, QG (blk X (ts ++ cs) sc cl s H fp) tg g) (ht : ∀ s H fp, QTs (blk X (ts ++ cs) sc cl s H fp) ifs tt) (he : ∀ s H fp, QE (blk X (ts ++ cs) sc cl s H fp) elt te) (hx : QG X (.Name x px) (JA i))
  (hsw : swapsWith (.ListComp elt [⟨tg, it, ifs, 0⟩] sc pos) (some (.Name x px)) spos.line X.env = pure true := by rfl) (hc : X.calm = true := by rfl) (hs : ∀ x, foldedSetIterable it X.env x = pure x := by intro _; rfl) :
  QS X (.Assign [.Name x px] (.ListComp elt [⟨tg, it, ifs, 0⟩] sc pos) spos) (Zi9 (ZbM ts.length caps wi g tt te) (JA i)) := ⟨ZcI i B hi.h (fun s H fp => (hg s H fp).h) (fun s H fp => (ht s H fp).h) (fun s H fp => (he s H fp).h) hx.h hsw hc hs⟩
theorem ZfY (B : Blk X ts caps cs sc cl) (hi : QI X tg it wi) (hg : ∀ s H fp, QG (blk X (ts ++ cs) sc cl s H fp) tg g) (he : ∀ s H fp, QE (blk X (ts ++ cs) sc cl s H fp) elt te) (hc : X.calm = true := by rfl) (hs : ∀ x, foldedSetIterable it X.env x = pure x := by intro _; rfl) :
  QE X (.ListComp elt [⟨tg, it, [], 0⟩] sc pos) (JP ts.length caps wi g te) := ⟨Zm6 B hi.h (fun s H fp => (hg s H fp).h) (fun s H fp => (he s H fp).h) hc hs⟩
theorem Zbi {x : Str} {px spos : Pos} (i : Nat) (B : Blk X ts caps cs sc cl) (hi : QI X tg it wi) (hg : ∀ s H fp, QG (blk X (ts ++ cs) sc cl s H fp) tg g) (he : ∀ s H fp, QE (blk X (ts ++ cs) sc cl s H fp) elt te) (hx : QG X (.Name x px) (JA i))
  (hsw : swapsWith (.ListComp elt [⟨tg, it, [], 0⟩] sc pos) (some (.Name x px)) spos.line X.env = pure true := by rfl) (hc : X.calm = true := by rfl) (hs : ∀ x, foldedSetIterable it X.env x = pure x := by intro _; rfl) :
  QS X (.Assign [.Name x px] (.ListComp elt [⟨tg, it, [], 0⟩] sc pos) spos) (Zi9 (JP ts.length caps wi g te) (JA i)) := ⟨Zf7 i B hi.h (fun s H fp => (hg s H fp).h) (fun s H fp => (he s H fp).h) hx.h hsw hc hs⟩
end
section
variable {X : Cx} {a b c e : Expr} {ta tb tc te : TE} {pos : Pos} {st : Stmt}
theorem ZoV (ha : QE X a ta) (hb : QE X b tb) (hc : QE X c tc) (hm : lastMarks [CmpOp.LtE, CmpOp.Lt] [b, c] = false := by with_unfolding_all rfl) : QE X (.Compare a [.LtE, .Lt] [b, c] pos) (Zf2 (rI0 fun i j => .bl (decide (i <= j))) (rI0 fun i j => .bl (decide (i < j))) ta tb tc) := ⟨ZjP ZnN Zl1 ha.h hb.h hc.h hm⟩
theorem ZoK (ha : QE X a ta) (hb : QE X b tb) (hm : behindInMarks .NotIn b = false := by with_unfolding_all rfl) : QT X (.Compare a [.NotIn] [b] pos) (JE (tOp (rIn X.K true) ta tb)) := ⟨Z9 ZbN ha.h hb.h hm⟩
theorem Znq {x : Str} {i : Int} {tk : Tok} (hg : Gl X x) (hm : X.mg x = some (.int i tk)) (hd : (x == ("__debug__" : Str)) = false := by decide) : QE X (.Name x pos) (tC (.int i)) := ⟨Zm0 hg hm ⟨_, rfl⟩ hd⟩
end
def Zoa (K : PySem.W.Frag) (g : TG) (tb : TS) (D : Ends) (σ : St) : List V -> Hp -> Prop := fun vs H1 => ∃ a, vs = [.ref a] /\ (∃ xs, SqL K H1 a xs) /\ ∃ W : Nat -> Nat -> St -> Hp -> Prop, (∃ m, W 0 m σ H1) /\ ∀ i m σ H, W i m σ H ->
 ((Ite K a).stop i H /\ D.nx σ H) \/ ((Ite K a).go i H /\ ∃ N : St -> Hp -> Prop, (∀ σ' H', N σ' H' -> ∃ m', m' < m /\ W (i + 1) m' σ' H') /\ ∀ x H', (Ite K a).yld i H x H' -> g x σ H' fun σ2 H2 => tb { D with nx := N, ct := N, bk := D.nx } σ2 H2)
theorem Zef {K : PySem.W.Frag} {ta : TA} {g : TG} {tb : TS} {D : Ends} {σ : St} {H : Hp} : Zja (Znc K ta) g tb D σ H = ta σ H (Zoa K g tb D σ) := rfl
theorem ZfB {K : PySem.W.Frag} {a : Addr} {xs : List V} {g : TG} {tb : TS} {D : Ends} {σ : St} {H : Hp} (Pv : Nat -> St -> Hp -> Prop) (h0 : Pv 0 σ H) (hl : ∀ i σ H, i <= xs.length -> Pv i σ H -> SqL K H a xs)
  (hs : ∀ i x σ H p H', xs[i]? = some x -> Pv i σ H -> H p = none -> Same H H' -> H' p = some (.tup [.int i, x]) -> g (.ref p) σ H' fun σ2 H2 => tb { D with nx := Pv (i + 1), ct := Pv (i + 1), bk := D.nx } σ2 H2) (hd : ∀ σ H, Pv xs.length σ H -> D.nx σ H) :
  Zoa K g tb D σ [.ref a] H := by
 refine ⟨a, rfl, ⟨xs, hl 0 σ H (Nat.zero_le _) h0⟩, fun i m σ H => m = xs.length - i /\ i <= xs.length /\ Pv i σ H, ⟨xs.length, by simp, Nat.zero_le _, h0⟩, ?_⟩
 rintro i m σ H ⟨rfl, hi, p⟩
 have q := hl i σ H hi p
 by_cases hlt : i < xs.length
 ·refine .inr ⟨⟨xs, xs[i], q, by simp [hlt]⟩, Pv (i + 1), fun σ' H' p' => ⟨xs.length - (i + 1), by omega, rfl, hlt, p'⟩, fun x H' y => ?_⟩
  obtain ⟨b, y, rfl, hn, sm, e, hy⟩ := y
  exact hs i y σ H b H' (hy xs q) p hn sm e
 ·have e : i = xs.length := by omega
  subst e
  exact .inl ⟨⟨xs, q, Yd _⟩, hd _ _ p⟩
theorem Zfs {lo : Int} {n nt : Nat} {cp : St} {g : TG} {tt : TT} {te : TE} {H1 : Hp} {Q : VK} (Pv : Addr -> Nat -> List V -> Hp -> Prop) (h0 : ∀ acc H2, H1 acc = none -> Same H1 H2 -> H2 acc = some (.lst []) -> Pv acc 0 [] H2)
  (hl : ∀ acc i ys H, Pv acc i ys H -> H acc = some (.lst ys) /\ ys.length < 1000000)
  (hs : ∀ acc i ys H os, H1 acc = none -> i < n -> Pv acc i ys H -> os.length = nt -> g (.int (lo + (i : Nat))) (os ++ cp) H fun τ H3 => ∃ os', os'.length = nt /\ τ = os' ++ cp /\ tt τ H3 fun b H4 => if b = true then te τ H4 fun v H5 => H5 acc = some (.lst ys) /\ Pv acc (i + 1) (ys ++ [v]) (upd H5 acc (.lst (ys ++ [v]))) else Pv acc (i + 1) ys H4)
  (hd : ∀ acc ys H, H1 acc = none -> Pv acc n ys H -> Q (.ref acc) H) : Zd1 nt cp (Itr lo n) g tt te H1 Q := by
 intro acc H2 hn sm e
 refine ⟨fun i m ys H => m = n - i /\ i <= n /\ Pv acc i ys H, ⟨n, by simp, Nat.zero_le _, h0 acc H2 hn sm e⟩, ?_⟩
 rintro i m ys H ⟨rfl, hi, p⟩
 obtain ⟨q1, q2⟩ := hl acc i ys H p
 refine ⟨q1, ?_⟩
 by_cases hlt : i < n
 ·refine .inr ⟨hlt, q2, Pv acc (i + 1), fun ys' H' p' => ⟨n - (i + 1), by omega, rfl, hlt, p'⟩, fun os x H' ol y => ?_⟩
  obtain ⟨rfl, rfl⟩ := y
  exact hs acc i ys _ os hn hlt p ol
 ·have e : i = n := by omega
  subst e
  exact .inl ⟨Yd _, hd _ _ _ hn p⟩
theorem Zid {lo : Int} {n nt : Nat} {cp : St} {g : TG} {te : TE} {H1 : Hp} {Q : VK} (Pv : Addr -> Nat -> List V -> Hp -> Prop) (h0 : ∀ acc H2, H1 acc = none -> Same H1 H2 -> H2 acc = some (.lst []) -> Pv acc 0 [] H2)
  (hl : ∀ acc i ys H, Pv acc i ys H -> H acc = some (.lst ys) /\ ys.length < 1000000)
  (hs : ∀ acc i ys H os, H1 acc = none -> i < n -> Pv acc i ys H -> os.length = nt -> g (.int (lo + (i : Nat))) (os ++ cp) H fun τ H3 => ∃ os', os'.length = nt /\ τ = os' ++ cp /\ te τ H3 fun v H4 => H4 acc = some (.lst ys) /\ Pv acc (i + 1) (ys ++ [v]) (upd H4 acc (.lst (ys ++ [v]))))
  (hd : ∀ acc ys H, H1 acc = none -> Pv acc n ys H -> Q (.ref acc) H) : Zm8 nt cp (Itr lo n) g te H1 Q := by
 refine Zfs (tt := Zlf) Pv h0 hl (fun acc i ys H os a b c d => ?_) hd
 have h := hs acc i ys H os a b c d
 have e : (fun τ H3 => ∃ os', os'.length = nt /\ τ = os' ++ cp /\ Zlf τ H3 fun b H4 => if b = true then te τ H4 fun v H5 => H5 acc = some (.lst ys) /\ Pv acc (i + 1) (ys ++ [v]) (upd H5 acc (.lst (ys ++ [v]))) else Pv acc (i + 1) ys H4) =
   (fun τ H3 => ∃ os', os'.length = nt /\ τ = os' ++ cp /\ te τ H3 fun v H4 => H4 acc = some (.lst ys) /\ Pv acc (i + 1) (ys ++ [v]) (upd H4 acc (.lst (ys ++ [v])))) := by
  funext τ H3
  simp only [Zlf, if_true]
 rw [e]
 exact h
def Zp1 (lo : Int) (n : Nat) (g : TG) (tb : TS) (D : Ends) (σ : St) : Hp -> Prop := fun H1 => ∃ W : Nat -> Nat -> St -> Hp -> Prop, (∃ m, W 0 m σ H1) /\ ∀ i m σ H, W i m σ H ->
 ((Itr lo n).stop i H /\ D.nx σ H) \/ ((Itr lo n).go i H /\ ∃ N : St -> Hp -> Prop, (∀ σ' H', N σ' H' -> ∃ m', m' < m /\ W (i + 1) m' σ' H') /\ ∀ x H', (Itr lo n).yld i H x H' -> g x σ H' fun σ2 H2 => tb { D with nx := N, ct := N, bk := D.nx } σ2 H2)
theorem Zbp {ta : TA} {g : TG} {tb : TS} {D : Ends} {σ : St} {H : Hp} : Zja (Zgv ta) g tb D σ H = ta σ H fun vs H1 => ∃ j : Int, vs = [.int j] /\ -(2 ^ 62) <= j /\ j < 2 ^ 62 /\ Zp1 0 j.toNat g tb D σ H1 := rfl
theorem Zif {ta : TA} {g : TG} {tb : TS} {D : Ends} {σ : St} {H : Hp} : Zja (ZmU ta) g tb D σ H = ta σ H fun vs H1 => ∃ i j : Int, vs = [.int i, .int j] /\ (-(2 ^ 62) <= i /\ i < 2 ^ 62 /\ -(2 ^ 62) <= j /\ j < 2 ^ 62) /\ Zp1 i (j - i).toNat g tb D σ H1 := rfl
theorem ZcH {lo : Int} {n : Nat} {g : TG} {tb : TS} {D : Ends} {σ : St} {H : Hp} (Pv : Nat -> St -> Hp -> Prop) (h0 : Pv 0 σ H) (hs : ∀ i σ H, i < n -> Pv i σ H -> g (.int (lo + (i : Nat))) σ H fun σ2 H2 => tb { D with nx := Pv (i + 1), ct := Pv (i + 1), bk := D.nx } σ2 H2)
  (hd : ∀ σ H, Pv n σ H -> D.nx σ H) : Zp1 lo n g tb D σ H := by
 refine ⟨fun i m σ H => m = n - i /\ i <= n /\ Pv i σ H, ⟨n, by simp, Nat.zero_le _, h0⟩, ?_⟩
 rintro i m σ H ⟨rfl, hi, p⟩
 by_cases hlt : i < n
 ·refine .inr ⟨hlt, Pv (i + 1), fun σ' H' p' => ⟨n - (i + 1), by omega, rfl, hlt, p'⟩, fun x H' y => ?_⟩
  obtain ⟨rfl, rfl⟩ := y
  exact hs i σ _ hlt p
 ·have e : i = n := by omega
  subst e
  exact .inl ⟨Yd _, hd _ _ p⟩
def Zoo (K : PySem.W.Frag) (g : TG) (tb : TS) (D : Ends) (σ : St) : V -> Hp -> Prop := fun x H1 => ∃ a, x = .ref a /\ (∃ xs, SqL K H1 a xs) /\ ∃ W : Nat -> Nat -> St -> Hp -> Prop, (∃ m, W 0 m σ H1) /\ ∀ i m σ H, W i m σ H ->
 ((Itl K a).stop i H /\ D.nx σ H) \/ ((Itl K a).go i H /\ ∃ N : St -> Hp -> Prop, (∀ σ' H', N σ' H' -> ∃ m', m' < m /\ W (i + 1) m' σ' H') /\ ∀ x H', (Itl K a).yld i H x H' -> g x σ H' fun σ2 H2 => tb { D with nx := N, ct := N, bk := D.nx } σ2 H2)
theorem Zao {K : PySem.W.Frag} {te : TE} {g : TG} {tb : TS} {D : Ends} {σ : St} {H : Hp} : Zja (ZcV K te) g tb D σ H = te σ H (Zoo K g tb D σ) := rfl
theorem Zax {K : PySem.W.Frag} {a : Addr} {xs : List V} {g : TG} {tb : TS} {D : Ends} {σ : St} {H : Hp} (Pv : Nat -> St -> Hp -> Prop) (h0 : Pv 0 σ H) (hl : ∀ i σ H, i <= xs.length -> Pv i σ H -> SqL K H a xs)
  (hs : ∀ i x σ H, xs[i]? = some x -> Pv i σ H -> g x σ H fun σ2 H2 => tb { D with nx := Pv (i + 1), ct := Pv (i + 1), bk := D.nx } σ2 H2) (hd : ∀ σ H, Pv xs.length σ H -> D.nx σ H) : Zoo K g tb D σ (.ref a) H :=
 ⟨a, rfl, ⟨xs, hl 0 σ H (YB _) h0⟩, ZfL Pv h0 hl hs hd⟩
def Zp8 (K : PySem.W.Frag) (g : TG) (tb : TS) (D : Ends) (σ : St) : V -> Hp -> Prop := fun x H1 => ∃ a, x = .ref a /\ (∃ xs, SqT K H1 a xs) /\ ∃ W : Nat -> Nat -> St -> Hp -> Prop, (∃ m, W 0 m σ H1) /\ ∀ i m σ H, W i m σ H ->
 ((Itt K a).stop i H /\ D.nx σ H) \/ ((Itt K a).go i H /\ ∃ N : St -> Hp -> Prop, (∀ σ' H', N σ' H' -> ∃ m', m' < m /\ W (i + 1) m' σ' H') /\ ∀ x H', (Itt K a).yld i H x H' -> g x σ H' fun σ2 H2 => tb { D with nx := N, ct := N, bk := D.nx } σ2 H2)
theorem Zjo {K : PySem.W.Frag} {te : TE} {g : TG} {tb : TS} {D : Ends} {σ : St} {H : Hp} : Zja (Zpz K te) g tb D σ H = te σ H (Zp8 K g tb D σ) := rfl
theorem ZmO {K : PySem.W.Frag} {a : Addr} {xs : List V} {g : TG} {tb : TS} {D : Ends} {σ : St} {H : Hp} (Pv : Nat -> St -> Hp -> Prop) (h0 : Pv 0 σ H) (hl : ∀ i σ H, i <= xs.length -> Pv i σ H -> SqT K H a xs)
  (hs : ∀ i x σ H, xs[i]? = some x -> Pv i σ H -> g x σ H fun σ2 H2 => tb { D with nx := Pv (i + 1), ct := Pv (i + 1), bk := D.nx } σ2 H2) (hd : ∀ σ H, Pv xs.length σ H -> D.nx σ H) : Zp8 K g tb D σ (.ref a) H := by
 refine ⟨a, rfl, ⟨xs, hl 0 σ H (Nat.zero_le _) h0⟩, fun i m σ H => m = xs.length - i /\ i <= xs.length /\ Pv i σ H, ⟨xs.length, by simp, Nat.zero_le _, h0⟩, ?_⟩
 rintro i m σ H ⟨rfl, hi, p⟩
 have q := hl i σ H hi p
 by_cases hlt : i < xs.length
 ·refine .inr ⟨⟨xs, xs[i], q, by simp [hlt]⟩, Pv (i + 1), fun σ' H' p' => ⟨xs.length - (i + 1), by omega, rfl, hlt, p'⟩, fun x H' y => ?_⟩
  obtain ⟨rfl, hy⟩ := y
  exact hs i x σ _ (hy xs q) p
 ·have e : i = xs.length := by omega
  subst e
  exact .inl ⟨⟨xs, q, Yd _⟩, hd _ _ p⟩
end My
namespace My
open PySem PySem.Spec L2
open PyProof.Rows hiding St
structure Mth (P : Program) (w : World) (K : PySem.W.Frag) (mg : Str -> Option Value) (base : Heap) (CX : CXT) (k : Nat) (C : Addr) (m : Str) (ps : List Str) (sp : Sp) : Prop where
 ex : ∃ (f : Addr) (fd : FuncData), FnOk P w K mg base CX k f fd ps sp /\ Binds K fd ps [] /\ Meth K C m f /\ Cls K C
structure Mkr (P : Program) (w : World) (K : PySem.W.Frag) (mg : Str -> Option Value) (base : Heap) (CX : CXT) (k : Nat) (C : Addr) (x : Str) (ps : List Str) (sp : Sp) : Prop where
 ex : ∃ (f : Addr) (fd : FuncData), FnOk P w K mg base CX k f fd ps sp /\ Binds K fd ps [] /\ Mk K C f /\ mg x = some (.ref C)
section
variable {X : Cx} {CX : CXT} {j k : Nat} {C : Addr} {x m fl : Str} {ps : List Str} {sp : Sp} {p pos apos : Pos} {e o value : Expr} {es : List Expr} {t : TA} {ta tv : TE} {E : XK}
theorem Za8 {pl : Sem Bool} (F : Mth X.prog X.w X.K X.mg X.base Zw j C m ps sp) (hr : Room k X.A) (hj : j <= k) (ho : QE X o ta) (ha : QA X (e :: es) t) (hp : (e :: es).all Zn = true := by rfl)
  (ht : eval (.Call (.Attribute o m apos) (e :: es) [] pos) X.env = (do
   let ov <- eval o X.env
   standAt apos.atName
   let (f, first) <- holding [ov] (getMethod ov m pl)
   callWith pos f first (backTo pos (starEach (e :: es) X.env)) (backToKw pos (keywordEach [] X.env))) := by rfl) :
  QE X (.Call (.Attribute o m apos) (e :: es) [] pos) (ZgJ C m sp [] E0 ta t) := by
 obtain ⟨f, fd, G, b, hm, c⟩ := F.ex
 exact ⟨ZmW ho.h c hm G (hr.mono hj) b .nil ZhS ha.h (Zl (ZW hp).1) (Zb8 (ZW hp).2) ht⟩
theorem Zfh {pl : Sem Bool} (F : Mth X.prog X.w X.K X.mg X.base Zw j C m ps sp) (hr : Room k X.A) (hj : j <= k) (ho : QE X o ta)
  (ht : eval (.Call (.Attribute o m apos) [] [] pos) X.env = (do
   let ov <- eval o X.env
   standAt apos.atName
   let (f, first) <- holding [ov] (getMethod ov m pl)
   callWith pos f first (backTo pos (starEach [] X.env)) (backToKw pos (keywordEach [] X.env))) := by rfl) :
  QE X (.Call (.Attribute o m apos) [] [] pos) (ZgJ C m sp [] E0 ta Zmu) := by
 obtain ⟨f, fd, G, b, hm, c⟩ := F.ex
 exact ⟨ZjJ ho.h c hm G (hr.mono hj) b .nil ZhS ht⟩
theorem Znx (F : Mkr X.prog X.w X.K X.mg X.base Zw j C x ps sp) (hr : Room (k + 1) X.A) (hj : j <= k) (hg : Gl X x) (ha : QA X (e :: es) t) (hp : (e :: es).all Zn = true := by rfl) (hdb : (x == ("__debug__" : Str)) = false := by decide) :
  QE X (.Call (.Name x p) (e :: es) [] pos) (Zke C sp [] E0 t) := by
 obtain ⟨f, fd, G, b, M, hm⟩ := F.ex
 exact ⟨ZlH M (G.mono hj) hr hg hm b .nil ZhS ha.h hdb (Zl (ZW hp).1) (Zb8 (ZW hp).2)⟩
theorem Zkg (ho : QE X e ta) (hb : attributeBase e fl X.env (eval e X.env) = eval e X.env := by rfl) : QE X (.Attribute e fl pos) (ZnW X.K ta fl) := ⟨Zla ho.h hb⟩
theorem ZnL {pos' : Pos} (ho : QE X o ta) (hv : QE X value tv) (hs : swapsWith value (some (.Attribute o fl pos')) pos.line X.env = pure false := by rfl) : QS X (.Assign [.Attribute o fl pos'] value pos) (Zpf X.K ta tv fl) := ⟨Zoi ho.h hv.h hs⟩
theorem Znw (K : PySem.W.Frag) (ho : QE X e ta) (hK : X.K = K := by rfl) (hb : attributeBase e fl X.env (eval e X.env) = eval e X.env := by rfl) : QE X (.Attribute e fl pos) (ZnW K ta fl) := by subst hK; exact ⟨Zla ho.h hb⟩
theorem ZiZ (K : PySem.W.Frag) (ha : QE X o ta) (hb : QE X e tv) (hK : X.K = K := by rfl) (hm : behindInMarks .In e = false := by with_unfolding_all rfl) : QT X (.Compare o [.In] [e] pos) (JE (tOp (rIn K false) ta tv)) := by subst hK; exact ⟨Z9 ZiG ha.h hb.h hm⟩
theorem ZmG (K : PySem.W.Frag) (ha : QE X o ta) (hb : QE X e tv) (hK : X.K = K := by rfl) (hm : behindInMarks .NotIn e = false := by with_unfolding_all rfl) : QT X (.Compare o [.NotIn] [e] pos) (JE (tOp (rIn K true) ta tv)) := by subst hK; exact ⟨Z9 ZbN ha.h hb.h hm⟩
def Zlk (C : Addr) (m : Str) (sp : Sp) (ta : TE) (t : TA) : TEX := fun σ H Q EX => ta σ H fun x H1 => ∃ a dx fs, x = .ref a /\ H1 a = some (.ins C dx fs) /\ fs.lookup m = none /\ t σ H1 fun vs H2 => sp (x :: vs) H2 Q EX
end
end My
namespace My
open PySem PySem.Spec L2
open PyProof.Rows hiding St
section
variable {M : Model} {A : Around} {E : Value -> Shared -> Prop} {s : Shared} {B : Heap} {env : Env} {outer : List Env} {L e : Addr} {cls a0 : Value}
end
section
variable {X : Cx} {E : XK} {pins : List (Addr × Obj)} {σ : St} {H : Hp} {s : Shared}
variable {ts cs : List Str} {caps : List Nat} {sc : Scope} {cl : List (Str × Addr)} {fp : List Addr}
end
section
variable {X : Cx} {E : XK} {j k : Nat} {x : Str} {ps : List Str} {sp : Sp} {p pos : Pos} {e elt tg it : Expr} {es : List Expr} {t : TA} {ts cs : List Str} {caps : List Nat} {sc : Scope} {cl : List (Str × Addr)} {wi : TI} {g : TG} {te : TE}
end
end My
namespace My
open PySem PySem.Spec L2
open PyProof.Rows hiding St
def ZiV (K : PySem.W.Frag) (D : Addr) (th : Addr -> TS) (En : Ends) (σ : St) : XK := fun c _ H' => ∃ C, c = .ref C /\ exmOne K (.ref C) (.ref D) = some true /\ ∀ ea, th ea { nx := En.nx, rt := En.rt, bk := En.bk, ct := En.ct } σ H'
def ZnK (K : PySem.W.Frag) (tb : TSX) (D : Addr) (th : Addr -> TS) : TS := fun En σ H => tb En (ZiV K D th En) σ H
section
variable {X : Cx} {body : List Stmt} {x : Str} {np hpos pos : Pos} {b₀ : Stmt} {suite : List Stmt} {tb : TSX} {th : Addr -> TS} {D : Addr}
end
def Zk6 (C : Addr) (sp : Sp) (t : TA) : TEX := fun σ H Q EX => t σ H fun vs H1 => ∀ x dx, H1 x = none -> H1 dx = none -> dx ≠ x -> sp (.ref x :: vs) (upd (upd H1 dx (.own x)) x (.ins C dx [])) (fun v H2 => v = .non /\ Q (.ref x) H2) EX
section
variable {X : Cx} {j k : Nat} {C : Addr} {x : Str} {ps : List Str} {sp : Sp} {p pos : Pos} {e : Expr} {es : List Expr} {t : TA}
end
section
variable {X : Cx} {e : Expr} {te : TE} {p1 p2 p3 pos : Pos} {c1 c2 : Str} {k1 k2 : Nat}
def tFs (te : TE) : TE := fun σ H Q => te σ H fun x H1 => ∃ i : Int, x = .int i /\ i.natAbs < 2 ^ 30 /\ ∀ z, Q (.str z) H1
end
section
variable {X : Cx} {e : Expr} {t : TA} {p pos : Pos}
end
section
variable {X : Cx} {pins : List (Addr × Obj)} {σ : St} {H : Hp} {s : Shared}
theorem EqD.neAt (I : Inv X pins σ H s) {x y : V} {b : Bool} {n : Nat} (h : EqD H x y b n) : ∀ {A : Around} {u v : Value}, RelV x u -> RelV y v -> A.units + n < cLine -> (∃ a c, x = .ref a /\ y = .ref c) -> SeqAt.RcNeAt A s u v (!b) := by
 induction h with
 | flat fx fy =>
  rintro A u v r1 r2 _ ⟨a, c, rfl, _⟩
  cases fx
 | up h ih =>
  intro A u v r1 r2 hu w
  exact ih r1 r2 (by omega) w
 | @tup a b xs ys e n ha hb h ih =>
  intro A u v r1 r2 hu _
  cases r1
  cases r2
  obtain ⟨its, v1, t1, _⟩ := I.tuple (SqT.of ha)
  obtain ⟨jts, v2, t2, _⟩ := I.tuple (SqT.of hb)
  have z := SeqAt.RcNeAt.tuples (A := A) (s := s) (e := e) t1 t2 (by omega) fun j h1 h2 => by
   have k1 : j < xs.length := by rw [v1.length]; simpa using h1
   have k2 : j < ys.length := by rw [v2.length]; simpa using h2
   obtain ⟨u1, q1, w1⟩ := v1.get (Yc k1)
   obtain ⟨u2, q2, w2⟩ := v2.get (Yc k2)
   have g1 : its.toArray[j] = u1 := by
    have := Yg.mp q1
    obtain ⟨hh, this⟩ := this
    simpa using this
   have g2 : jts.toArray[j] = u2 := by
    have := Yg.mp q2
    obtain ⟨hh, this⟩ := this
    simpa using this
   rw [g1, g2]
   exact ((h j _ _ (Yc k1) (Yc k2)).at I w1 w2 (by show A.units + 1 + n < cLine; omega)).1
  simpa [v1.length, v2.length] using z
 | @lst a b xs ys e n ha hb hl h ih =>
  intro A u v r1 r2 hu _
  cases r1
  cases r2
  obtain ⟨its, v1, t1, _⟩ := I.list (SqL.of ha)
  obtain ⟨jts, v2, t2, _⟩ := I.list (SqL.of hb)
  have z := SeqAt.RcNeAt.lists (A := A) (s := s) (e := e) t1.isList t2.isList (by simp [<- v1.length, <- v2.length, hl]) (by omega) fun j h1 h2 => by
   have k1 : j < xs.length := by rw [v1.length]; simpa using h1
   have k2 : j < ys.length := by rw [v2.length]; simpa using h2
   obtain ⟨u1, q1, w1⟩ := v1.get (Yc k1)
   obtain ⟨u2, q2, w2⟩ := v2.get (Yc k2)
   have g1 : its.toArray[j] = u1 := by
    have := Yg.mp q1
    obtain ⟨hh, this⟩ := this
    simpa using this
   have g2 : jts.toArray[j] = u2 := by
    have := Yg.mp q2
    obtain ⟨hh, this⟩ := this
    simpa using this
   rw [g1, g2]
   exact ((h j _ _ (Yc k1) (Yc k2)).at I w1 w2 (by show A.units + 1 + n < cLine; omega)).1
  simpa [v1.length, v2.length] using z
 | @lstNe a b xs ys n ha hb hl =>
  intro A u v r1 r2 hu _
  cases r1
  cases r2
  obtain ⟨its, v1, t1, _⟩ := I.list (SqL.of ha)
  obtain ⟨jts, v2, t2, _⟩ := I.list (SqL.of hb)
  exact SeqAt.RcNeAt.lists_lengths t1.isList t2.isList (by simp [<- v1.length, <- v2.length]; exact hl) (by omega)
end
section
variable {X : Cx} {a b : Expr} {ta tb : TE} {pos : Pos} {k : Nat}
def Zql : R2 := fun x y H Q => ∃ t n p c, x = .ref p /\ y = .ref c /\ EqD H x y t n /\ n <= 60 /\ Q (.bl (!t)) H
theorem Zok (hr : Room k X.A) : OpR X (compareOp .NotEq) Zql := by
 intro pins s σ H x y v u Q I rx ry h
 obtain ⟨t, n, p, c, e1, e2, h, hn, q⟩ := h
 have hu := hr.units
 exact (h.neAt I rx ry (by omega) ⟨p, c, e1, e2⟩) _ _ _ _ ⟨.bl (!t), H, I, rfl, q⟩
theorem Zo1 (hr : Room k X.A) (ha : QE X a ta) (hb : QE X b tb) : QT X (.Compare a [.NotEq] [b] pos) (JE (tOp Zql ta tb)) := ⟨Z9 (Zok hr) ha.h hb.h (Jb _)⟩
end
end My
namespace My
open PySem PySem.Spec L2
open PyProof.Rows hiding St
section
variable {X : Cx} {o e : Expr} {es : List Expr} {to : TE} {t : TA} {name : Str} {apos cpos : Pos} {id : String} {r : V -> List V -> Hp -> VK -> Prop}
def Zpo (r : V -> List V -> Hp -> VK -> Prop) (to : TE) : TE := fun σ H Q => to σ H fun x H1 => r x [] H1 Q
def tLm (r : V -> List V -> Hp -> VK -> Prop) (to : TE) (t : TA) : TE := fun σ H Q => to σ H fun x H1 => ∃ l zs, x = .ref l /\ H1 l = some (.lst zs) /\ t σ H1 fun vs H2 => r x vs H2 Q
theorem ZoR (slot : Slot "list" name id) (hty : typeOf (.builtin id) = pure (.type "method_descriptor")) (hm : MtM X id r) (hr : ∀ x H Q, r x [] H Q -> ∃ l zs, x = .ref l /\ H l = some (.lst zs)) (ho : PE X o to)
  (hbase : attributeBase o name X.env (eval o X.env) = eval o X.env := by rfl) (hline : (apos.endLine == cpos.line) = true := by rfl) : PE X (.Call (.Attribute o name apos) [] [] cpos) (Zpo r to) := by
 intro pins s σ H Q I h
 refine wpAny_Call_method0_late hbase hline (ZJ (ho pins s σ H _ I h) fun v s1 ⟨x, H1, I1, r1, q1⟩ => ?_)
 obtain ⟨l, zs, e1, e2⟩ := hr _ _ _ q1
 obtain ⟨h1, h2⟩ := Zhd (T := "list") I1 r1 (by rw [e1]; exact .inl ⟨rfl, zs, SqL.of e2⟩)
 exact ⟨"list", id, PySem.F.plainAttrs_list, slot, hty, h1, h2, VY rfl (PySem.evalArgs_none (hm pins s1 σ H1 x [] v [] Q I1 r1 .nil q1))⟩
theorem Zpx (slot : Slot "list" name id) (hty : typeOf (.builtin id) = pure (.type "method_descriptor")) (hm : MtM X id r) (ho : PE X o to) (ha : PA X (e :: es) t)
  (hbase : attributeBase o name X.env (eval o X.env) = eval o X.env := by rfl)
  (hfew : ((backTo cpos (starEach (e :: es) X.env)).all (fun x => !x.1) && (backToKw cpos (keywordEach [] X.env)).all (fun x => x.1.isSome)
   && decide ((e :: es).length + ([] : List Keyword).length + (if ([] : List Keyword).isEmpty then 0 else 1) < 30)) = true := by rfl)
  (hline : (apos.endLine == cpos.line) = true := by rfl) (hs : starEach (e :: es) X.env = (false, eval e X.env) :: starEach es X.env := by rfl) (hplain : (backTo cpos (starEach es X.env)).any (·.1) = false := by rfl) :
  PE X (.Call (.Attribute o name apos) (e :: es) [] cpos) (tLm r to t) := by
 intro pins s σ H Q I h
 refine wpAny_Call_method_late hbase hfew hline rfl (ZJ (ho pins s σ H _ I h) fun v s1 ⟨x, H1, I1, r1, l, zs, e1, e2, q1⟩ => ?_)
 obtain ⟨h1, h2⟩ := Zhd (T := "list") I1 r1 (by rw [e1]; exact .inl ⟨rfl, zs, SqL.of e2⟩)
 refine ⟨"list", id, PySem.F.plainAttrs_list, slot, hty, h1, h2, ?_⟩
 have hA := ha cpos pins s1 σ H1 _ I1 q1
 rw [hs] at hA ⊢
 refine VY (by show (false || (backTo cpos (starEach es X.env)).any (·.1)) = false; rw [hplain] <;> rfl) (Calls.evalArgs_plain ?_)
 exact ZJ hA fun us s2 ⟨vs, H2, I2, r2, q2⟩ => hm pins s2 σ H2 x vs v us Q I2 r1 r2 q2
theorem Zoc (ho : QE X o to) (hbase : attributeBase o "pop" X.env (eval o X.env) = eval o X.env := by rfl) (hline : (apos.endLine == cpos.line) = true := by rfl) : QE X (.Call (.Attribute o "pop" apos) [] [] cpos) (Zpo Zpg to) :=
 ⟨ZoR PySem.F.slot_list_pop PySem.F.type_list_pop Znh (fun _ _ _ ⟨l, zs, _, h1, _, h2, _⟩ => ⟨l, zs, h1, h2⟩) ho.h hbase hline⟩
theorem ZpF (ho : QE X o to) (ha : QA X [e] t) (hbase : attributeBase o "extend" X.env (eval o X.env) = eval o X.env := by rfl) (hline : (apos.endLine == cpos.line) = true := by rfl) (hp : Zn e = true := by rfl) :
  QE X (.Call (.Attribute o "extend" apos) [e] [] cpos) (tLm Zdd to t) :=
 ⟨Zpx PySem.F.slot_list_extend PySem.F.type_list_extend ZhX ho.h ha.h hbase (by rw [Zl hp]; rfl) hline (Zl hp) rfl⟩
end
end My
namespace My
open PySem PySem.Spec L2
open PyProof.Rows hiding St
theorem Zjn {P : Program} {w : World} {k : ZA} {u : Value} (h : (ZI P w).is k u = true) : RelV (kV k) u := by
 rcases ZM h with ⟨i, t, rfl, rfl⟩ | ⟨x, t, rfl, rfl⟩ <;> exact ⟨t, rfl⟩
section
variable {X : Cx} {pins : List (Addr × Obj)} {σ : St} {H : Hp} {s : Shared} {a : Addr} {kvs : List (ZA × V)}
theorem Zk2 (I : Inv X pins σ H s) (e : H a = some (.dK kvs)) : ∃ o, Inv X pins σ (upd H a (.frz o (.dK kvs))) s := by
 obtain ⟨z, hd, vs, rel, o, es, ep, ho, r⟩ := ZoH I.hok e
 refine ⟨o, ?_⟩
 exact I.write (x := a) (e := a) (o := .frz o (.dK kvs)) (h' := s.heap) (t' := s.toks) (by rw [e]; exact trivial) (.inl rfl) (fun b u _ q => q) ⟨o, ho⟩ ⟨ho, z, hd, vs, rel, o, es, ep, ho, r⟩
def ZqM (i : Nat) (t : TS) : TS := fun D σ H => ∃ a kvs, σ[i]? = some (some (.ref a)) /\ H a = some (.dK kvs) /\ ∀ o, t D σ (upd H a (.frz o (.dK kvs)))
theorem ZpS {sts : List Stmt} {t : TS} (i : Nat) (h : QB X sts t) : QB X sts (ZqM i t) := ⟨fun pins s σ H D I ⟨_, _, _, e, q⟩ => let ⟨o, I'⟩ := Zk2 I e; h.h pins s σ _ D I' (q o)⟩
end
def Itd (a : Addr) (o : Obj) (kvs : List (ZA × V)) : It := ⟨fun i H => H a = some (.frz o (.dK kvs)) /\ i < kvs.length, fun i H x H' => H' = H /\ ∃ kv, kvs[i]? = some kv /\ x = kV kv.1, fun i H => H a = some (.frz o (.dK kvs)) /\ kvs.length <= i⟩
theorem Zk7 {P : Program} {w : World} {H : Hp} {h : Heap} {a : Addr} {o : Obj} {kvs : List (ZA × V)} {es} {ep : Nat} (ok : HOk P w H h) (e : H a = some (.frz o (.dK kvs))) (hep : o.data = .dict es ep) :
  (a == sysModules) = false /\ kvs.length <= sizeLine /\ ∃ vs, KV kvs vs /\ h.DictAt (ZI P w) a vs ep := by
 obtain ⟨ho, z, hd, vs, rel, o', es', ep', ho', h1, h2, h3⟩ := (show ObjOk P w H h a (.frz o (.dK kvs)) from ok a _ e)
 rw [ho] at ho'
 cases ho'
 rw [hep] at h2
 cases h2
 exact ⟨hd, z, vs, rel, o, es, ho, h1, hep, h3⟩
theorem Zij {kvs : List (ZA × V)} {vs : List (ZA × Value)} (r : KV kvs vs) {i : Nat} (hi : i < kvs.length) : ∃ kv v, kvs[i]? = some kv /\ vs[i]? = some (kv.1, v) := by
 have hl : i < vs.length := by rw [<- r.length]; exact hi
 have hk := congrArg (·[i]?) r.keys
 simp only [List.getElem?_map, List.getElem?_eq_getElem hi, List.getElem?_eq_getElem hl, Option.map_some, Option.some.injEq] at hk
 exact ⟨kvs[i], vs[i].2, Yc hi, by rw [Yc hl, hk]⟩
theorem Zg2 {P : Program} {w : World} {K : PySem.W.Frag} {tg : Expr} (a it : Addr) (o : Obj) (kvs : List (ZA × V)) {es} {ep : Nat} (hep : o.data = .dict es ep) : Turn P w K tg (Itd a o kvs) [it] it (fun i h => h.IsKeyIter it a i kvs.length ep) where
 mem := by simp
 obj := fun i h st b hb => by
  have e : b = it := by simpa using hb
  subst e
  obtain ⟨o, e, c, d⟩ := st
  exact ⟨o, e, fun v z => by rw [d] at z; cases z⟩
 keep := fun i h h' st k => st.at fun o e => k it (by simp) o e
 item := by
  intro X hP hw hK hc i pins s σ H E I hf st hg
  subst hP hw hK
  obtain ⟨e, hi⟩ := hg
  obtain ⟨_, _, vs, rel, at_⟩ := Zk7 I.hok e hep
  obtain ⟨kv, v, g1, g2⟩ := Zij rel hi
  obtain ⟨f0, f1, f2, f3, f4, f5⟩ := hf it (by simp)
  rw [rel.length] at st
  refine wpAny_pyNext_dict_item st at_ g2 fun key h' hk st' sb => ?_
  have I1 : Inv X pins σ H { s with heap := h' } := I.turned (t' := s.toks) (fun b o hb e => (sb.2 b hb).trans e) f0 f1 f3 f4 f5
  obtain ⟨ob, e', c, d⟩ := id st'
  rw [<- rel.length] at st'
  exact ⟨key, rfl, ZkV (s := { s with heap := h' }) e' c d (by decide) ⟨kV kv.1, H, I1, Zjn hk, ⟨rfl, kv, g1, rfl⟩, st', fun b hb => (hf b hb).1⟩⟩
 done := by
  intro X hP hw hK hc i pins s σ H E I hf st hg
  subst hP hw hK
  obtain ⟨e, hi⟩ := hg
  obtain ⟨_, _, vs, rel, at_⟩ := Zk7 I.hok e hep
  obtain ⟨f0, f1, f2, f3, f4, f5⟩ := hf it (by simp)
  rw [rel.length] at st hi
  exact wpAny_pyNext_dict_end (I.ok.hd hc) st at_ (Y0 hi) fun h' eb => ⟨rfl, I.turned (t' := s.toks) (fun b o hb e => eb b o hb e) f0 f1 f3 f4 f5⟩
 self := fun _ _ _ _ _ st h => wpAny_pyIter_keyiter st h
def Zgp (tl : TE) : TI := fun σ H R => tl σ H fun x H1 => ∃ a o kvs, x = .ref a /\ H1 a = some (.frz o (.dK kvs)) /\ R (Itd a o kvs) H1
section
variable {X : Cx} {tg l o i e value : Expr} {tl td ty tv : TE} {t : TA} {pos pos' p : Pos}
theorem ZmC (hl : PE X l tl) : PI X tg l (Zgp tl) := by
 intro pins s σ H R I h
 refine ZJ (hl pins s σ H _ I h) fun v s1 ⟨x, H1, I1, r1, q1⟩ => ?_
 obtain ⟨a, o, kvs, e, hq, q⟩ := q1
 subst e
 cases r1
 obtain ⟨ho, z, hd, vs, rel, o', es, ep, ho', h1, h2, h3⟩ := (show ObjOk X.prog X.w H1 s1.heap a (.frz o (.dK kvs)) from I1.hok a _ hq)
 rw [ho] at ho'
 cases ho'
 refine wpAny_pyIter_dict hd ⟨o, es, ho, h1, h2, h3⟩ ?_
 refine ⟨s1.heap.objs.size, [s1.heap.objs.size], _, _, H1, rfl, I1.kept (t' := s1.toks) fun b o e => Yf _ e, Zg2 a _ o kvs h2, ⟨_, Ym _ rfl, rfl, by rw [rel.length]; rfl⟩, fun b hb => ?_, q⟩
 have e : b = s1.heap.objs.size := by simpa using hb
 subst e
 exact I1.fpOk (Yd _) (I1.hok.fresh (Yd _))
theorem Zc2 (hl : QE X l tl) : QI X tg l (Zgp tl) := ⟨ZmC hl.h⟩
def tDG (td ty : TE) : TE := fun σ H Q => td σ H fun x H1 => ty σ H1 fun y H2 => ∃ a kvs k v, x = .ref a /\ Rd H2 a (.dK kvs) /\ y = kV k /\ Jx kvs k = some v /\ Q v H2
theorem Jw (hu : X.A.units + 1 < cLine) (ho : QE X o td) (hi : QE X i ty) (hs : Zp6 i := by intro _ _; rfl) : QE X (.Subscript o i pos) (tDG td ty) := ⟨by
 intro pins s σ H Q I h
 refine ZlQ PySem.F.slot_dict_getitem.lookup hs (ZJ (ho.h pins s σ H _ I h) fun u s1 ⟨x, H1, I1, rx, q1⟩ => ZJ (hi.h pins s1 σ H1 _ I1 q1) fun iv s2 ⟨y, H2, I2, ry, a, kvs, k, v, ex, g, ey, hv, q2⟩ => ?_)
 subst ex
 obtain rfl : u = Value.ref a := rx
 have g' : DGet H2 a y (some v) := .inl ⟨kvs, k, g, ey, hv.symm⟩
 exact ⟨ZeK I2 g', ZhK hu I2 g' ry fun w' s3 I3 rw' => ⟨v, H2, I3, rw', q2⟩⟩⟩
def sDP (td ty tv : TE) : TS := fun D σ H => tv σ H fun v H1 => td σ H1 fun x H2 => ty σ H2 fun y H3 => ∃ a kvs k, x = .ref a /\ H3 a = some (.dK kvs) /\ y = kV k /\ kvs.length < 1000 /\ D.nx σ (upd H3 a (.dK (Je kvs k v)))
theorem Zc9 (hu : X.A.units + 1 < cLine) (ho : QE X o td) (hi : QE X i ty) (hv : QE X value tv) (hs : swapsWith value (some (.Subscript o i pos')) pos.line X.env = pure false := by rfl) : QS X (.Assign [.Subscript o i pos'] value pos) (sDP td ty tv) := ⟨by
 intro pins s σ H D I h
 refine wpAny_Assign_Subscript (ZJ (hv.h pins s σ H _ I h) fun r s1 ⟨v, H1, I1, rv, q1⟩ => ZJ (ho.h pins s1 σ H1 _ I1 q1) fun u s2 ⟨x, H2, I2, rx, q2⟩ => ZJ (hi.h pins s2 σ H2 _ I2 q2) fun iv s3 ⟨y, H3, I3, ry, a, kvs, k, ex, g, ey, hl, q3⟩ => ?_) hs
 subst ex ey
 obtain rfl : u = Value.ref a := rx
 exact Zio hu I3 (DPut.k g (Zew (Yr hl))) ry rv fun s4 I4 => ⟨σ, _, I4, q3⟩⟩
def tDI (neg : Bool) (ty td : TE) : TE := fun σ H Q => ty σ H fun y H1 => td σ H1 fun x H2 => ∃ a kvs k, x = .ref a /\ Rd H2 a (.dK kvs) /\ y = kV k /\ Q (.bl (if neg = true then !(Jx kvs k).isSome else (Jx kvs k).isSome)) H2
theorem Zma (hu : X.A.units + 1 < cLine) (hi : PE X i ty) (ho : PE X o td) : PC X .NotIn i o (tDI true ty td) := by
 intro pins s σ H Q I h
 refine ZJ (hi pins s σ H _ I h) fun iv s1 ⟨y, H1, I1, ry, q1⟩ => ZJ (ho pins s1 σ H1 _ I1 q1) fun u s2 ⟨x, H2, I2, rx, a, kvs, k, ex, g, ey, q2⟩ => ?_
 subst ex
 obtain rfl : u = Value.ref a := rx
 exact Zmt hu I2 (.inl ⟨kvs, k, g, ey, rfl⟩) ry fun s3 I3 => ⟨.bl _, H2, I3, rfl, by simpa using q2⟩
theorem ZoW (hu : X.A.units + 1 < cLine) (hi : QE X i ty) (ho : QE X o td) (hm : behindInMarks .NotIn o = false := by with_unfolding_all rfl) : QT X (.Compare i [.NotIn] [o] pos) (tB (tDI true ty td)) := ⟨Zlm (Zma hu hi.h ho.h) hm⟩
theorem Zi0 : QE X (.Dict [] [] pos) (fun _ H Q => ∀ p H2, H p = none -> Same H H2 -> H2 p = some (.dK []) -> Q (.ref p) H2) := ⟨fun pins s σ H Q I h => Zkj pins s σ H Q I fun p hp => h p _ hp (ZC hp _) upd_same⟩
theorem Zgu : CallR X (.builtin "len") (fun xs H Q => ∃ a kvs, xs = [.ref a] /\ Rd H a (.dK kvs) /\ Q (.int kvs.length) H) := by
 intro pins s σ H xs us Q I r h
 obtain ⟨a, kvs, rfl, e, q⟩ := h
 obtain ⟨u, rfl, ru⟩ := Jn r
 cases ru
 exact ZpW I e fun t s' I' => ⟨.int kvs.length, H, I', ⟨t, rfl⟩, q⟩
theorem ZoI (hg : Gl X "len") (hm : X.mg "len" = none) (ha : QA X [e] t) (hp : Zn e = true := by rfl) : QE X (.Call (.Name "len" p) [e] [] pos) (tCB (fun xs H Q => ∃ a kvs, xs = [.ref a] /\ Rd H a (.dK kvs) /\ Q (.int kvs.length) H) t) :=
 ⟨ZaC Zgu hg hm PySem.boot_len ha.h (by decide) (by decide) (Zl hp) rfl⟩
def Zle : List V -> Hp -> VK -> Prop := fun xs H Q => ∃ a kvs, xs = [.ref a] /\ Rd H a (.dK kvs) /\ ∀ p o H2, H p = none -> Same H H2 -> H2 p = some (.frz o (.dK kvs)) -> Q (.ref p) H2
def Zlw : List V -> Hp -> VK -> Prop := fun xs H Q => ∃ a kvs, xs = [.ref a] /\ Rd H a (.dK kvs) /\ ∀ p H2, H p = none -> Same H H2 -> H2 p = some (.dK kvs) -> Q (.ref p) H2
theorem ZgN : CallR X (.type "dict") Zlw := by
 intro pins s σ H xs us Q I r h
 obtain ⟨a, kvs, rfl, e, q⟩ := h
 obtain ⟨u, rfl, ru⟩ := Jn r
 cases ru
 exact ZfR I e fun p s' hp I' => ⟨.ref p, _, I', rfl, q p _ hp (ZC hp _) upd_same⟩
theorem ZgB : CallR X (.type "dict") Zle := by
 intro pins s σ H xs us Q I r h
 obtain ⟨a, kvs, rfl, e, q⟩ := h
 obtain ⟨u, rfl, ru⟩ := Jn r
 cases ru
 refine ZfR I e fun p s' hp I' => ?_
 obtain ⟨o, I2⟩ := Zk2 I' (a := p) (kvs := kvs) upd_same
 rw [ZlI] at I2
 exact ⟨.ref p, _, I2, rfl, q p o _ hp (ZC hp _) upd_same⟩
theorem Zmb (hg : Gl X "dict") (hm : X.mg "dict" = none) (ha : QA X [e] t) (hp : Zn e = true := by rfl) : QE X (.Call (.Name "dict" p) [e] [] pos) (tCB Zle t) := ⟨Za0 ZgB hg hm (by decide +kernel) ha.h (by decide) (by decide) (Zl hp) rfl⟩
theorem Zha (hg : Gl X "dict") (hm : X.mg "dict" = none) (ha : QA X [e] t) (hp : Zn e = true := by rfl) : QE X (.Call (.Name "dict" p) [e] [] pos) (tCB Zlw t) := ⟨Za0 ZgN hg hm (by decide +kernel) ha.h (by decide) (by decide) (Zl hp) rfl⟩
def Zlp : List V -> Hp -> VK -> Prop := fun xs H Q => ∃ a kvs, xs = [.ref a] /\ Rd H a (.dK kvs) /\ ∀ l H2, H l = none -> Same H H2 -> H2 l = some (.lst (kvs.map fun kv => kV kv.1)) -> Q (.ref l) H2
theorem Zga (hc : X.calm = true) : CallR X (.type "list") Zlp := by
 intro pins s σ H xs us Q I r h
 obtain ⟨a, kvs, rfl, e, q⟩ := h
 obtain ⟨u, rfl, ru⟩ := Jn r
 cases ru
 obtain ⟨z, hd, vs, rel, dd⟩ := JI I.hok e
 obtain ⟨ep, at_⟩ := dd.dictAt
 have hf : H s.heap.objs.size = none := I.hok.fresh (Yd _)
 refine kdl_call (kdl_dict hd) (I.ok.hd hc) at_ (by rw [<- rel.length]; exact z) fun h' tk acc' c' kk hl ⟨hs, hacc⟩ => ?_
 refine ⟨.ref s.heap.objs.size, _, I.laid (o := .lst (kvs.map fun kv => kV kv.1)) kk (Nat.le_refl _) (show ObjOk X.prog X.w _ h' _ (.lst (kvs.map fun kv => kV kv.1)) from ⟨by rw [List.length_map]; exact z, acc'.toList, c', Zcf ?_ fun i x u e1 e2 => ?_, by simpa using hl⟩), rfl, q _ _ hf (ZC hf _) upd_same⟩
 ·rw [List.length_map, rel.length]; simpa using hs.symm
 ·obtain ⟨k, x', g1, g2⟩ := hacc i u (by simpa using e2)
  have hi : i < kvs.length := by have := (List.getElem?_eq_some_iff.mp e1).1; simpa using this
  obtain ⟨kv, v, g3, g4⟩ := Zij rel hi
  rw [g1] at g4
  cases g4
  rw [Yh, g3] at e1
  cases e1
  exact Zjn g2
theorem ZhB (hg : Gl X "list") (hm : X.mg "list" = none) (ha : QA X [e] t) (hp : Zn e = true := by rfl) (hc : X.calm = true := by rfl) : QE X (.Call (.Name "list" p) [e] [] pos) (tCB Zlp t) := ⟨Za0 (Zga hc) hg hm (by decide +kernel) ha.h (by decide) (by decide) (Zl hp) rfl⟩
end
def ZoD (g : TG) (tb : TS) (D : Ends) (σ : St) : V -> Hp -> Prop := fun x H1 => ∃ a o kvs, x = .ref a /\ H1 a = some (.frz o (.dK kvs)) /\ ∃ W : Nat -> Nat -> St -> Hp -> Prop, (∃ m, W 0 m σ H1) /\ ∀ i m σ H, W i m σ H ->
 ((Itd a o kvs).stop i H /\ D.nx σ H) \/ ((Itd a o kvs).go i H /\ ∃ N : St -> Hp -> Prop, (∀ σ' H', N σ' H' -> ∃ m', m' < m /\ W (i + 1) m' σ' H') /\ ∀ x H', (Itd a o kvs).yld i H x H' -> g x σ H' fun σ2 H2 => tb { D with nx := N, ct := N, bk := D.nx } σ2 H2)
theorem Zcv {te : TE} {g : TG} {tb : TS} {D : Ends} {σ : St} {H : Hp} : Zja (Zgp te) g tb D σ H = te σ H (ZoD g tb D σ) := rfl
theorem ZdU {a : Addr} {o : Obj} {kvs : List (ZA × V)} {g : TG} {tb : TS} {D : Ends} {σ : St} {H : Hp} (Pv : Nat -> St -> Hp -> Prop) (h0 : Pv 0 σ H) (hl : ∀ i σ H, i <= kvs.length -> Pv i σ H -> H a = some (.frz o (.dK kvs)))
  (hs : ∀ i kv σ H, kvs[i]? = some kv -> Pv i σ H -> g (kV kv.1) σ H fun σ2 H2 => tb { D with nx := Pv (i + 1), ct := Pv (i + 1), bk := D.nx } σ2 H2) (hd : ∀ σ H, Pv kvs.length σ H -> D.nx σ H) : ZoD g tb D σ (.ref a) H := by
 refine ⟨a, o, kvs, rfl, hl 0 σ H (Nat.zero_le _) h0, fun i m σ H => m = kvs.length - i /\ i <= kvs.length /\ Pv i σ H, ⟨kvs.length, by simp, Nat.zero_le _, h0⟩, ?_⟩
 rintro i m σ H ⟨rfl, hi, p⟩
 have q := hl i σ H hi p
 by_cases hlt : i < kvs.length
 ·refine .inr ⟨⟨q, hlt⟩, Pv (i + 1), fun σ' H' p' => ⟨kvs.length - (i + 1), by omega, rfl, hlt, p'⟩, fun x H' y => ?_⟩
  obtain ⟨rfl, kv, hkv, rfl⟩ := y
  exact hs i kv σ _ hkv p
 ·have e : i = kvs.length := by omega
  subst e
  exact .inl ⟨⟨q, Yd _⟩, hd _ _ p⟩
theorem ZfO {a : Addr} {o : Obj} {kvs : List (ZA × V)} {nt : Nat} {cp : St} {g : TG} {tt : TT} {te : TE} {H1 : Hp} {Q : VK} (Pv : Addr -> Nat -> List V -> Hp -> Prop) (h0 : ∀ acc H2, H1 acc = none -> Same H1 H2 -> H2 acc = some (.lst []) -> Pv acc 0 [] H2)
  (hl : ∀ acc i ys H, Pv acc i ys H -> H acc = some (.lst ys) /\ ys.length < 1000000 /\ H a = some (.frz o (.dK kvs)))
  (hs : ∀ acc i kv ys H os, H1 acc = none -> kvs[i]? = some kv -> Pv acc i ys H -> os.length = nt -> g (kV kv.1) (os ++ cp) H fun τ H3 => ∃ os', os'.length = nt /\ τ = os' ++ cp /\ tt τ H3 fun b H4 => if b = true then te τ H4 fun v H5 => H5 acc = some (.lst ys) /\ Pv acc (i + 1) (ys ++ [v]) (upd H5 acc (.lst (ys ++ [v]))) else Pv acc (i + 1) ys H4)
  (hd : ∀ acc ys H, H1 acc = none -> Pv acc kvs.length ys H -> Q (.ref acc) H) : Zd1 nt cp (Itd a o kvs) g tt te H1 Q := by
 intro acc H2 hn sm e
 refine ⟨fun i m ys H => m = kvs.length - i /\ i <= kvs.length /\ Pv acc i ys H, ⟨kvs.length, by simp, Nat.zero_le _, h0 acc H2 hn sm e⟩, ?_⟩
 rintro i m ys H ⟨rfl, hi, p⟩
 obtain ⟨q1, q2, q3⟩ := hl acc i ys H p
 refine ⟨q1, ?_⟩
 by_cases hlt : i < kvs.length
 ·refine .inr ⟨⟨q3, hlt⟩, q2, Pv acc (i + 1), fun ys' H' p' => ⟨kvs.length - (i + 1), by omega, rfl, hlt, p'⟩, fun os x H' ol y => ?_⟩
  obtain ⟨rfl, kv, hkv, rfl⟩ := y
  exact hs acc i kv ys _ os hn hkv p ol
 ·have e : i = kvs.length := by omega
  subst e
  exact .inl ⟨⟨q3, Yd _⟩, hd _ _ _ hn p⟩
theorem ZbT {K : PySem.W.Frag} {a : Addr} {xs : List V} {nt : Nat} {cp : St} {g : TG} {tt : TT} {te : TE} {H1 : Hp} {Q : VK} (Pv : Addr -> Nat -> List V -> Hp -> Prop) (h0 : ∀ acc H2, H1 acc = none -> Same H1 H2 -> H2 acc = some (.lst []) -> Pv acc 0 [] H2)
  (hl : ∀ acc i ys H, H1 acc = none -> Pv acc i ys H -> H acc = some (.lst ys) /\ ys.length < 1000000 /\ SqL K H a xs)
  (hs : ∀ acc i x ys H os, H1 acc = none -> xs[i]? = some x -> Pv acc i ys H -> os.length = nt -> g x (os ++ cp) H fun τ H3 => ∃ os', os'.length = nt /\ τ = os' ++ cp /\ tt τ H3 fun b H4 => if b = true then te τ H4 fun v H5 => H5 acc = some (.lst ys) /\ Pv acc (i + 1) (ys ++ [v]) (upd H5 acc (.lst (ys ++ [v]))) else Pv acc (i + 1) ys H4)
  (hd : ∀ acc ys H, H1 acc = none -> Pv acc xs.length ys H -> Q (.ref acc) H) : Zd1 nt cp (Itl K a) g tt te H1 Q := by
 intro acc H2 hn sm e
 refine ⟨fun i m ys H => m = xs.length - i /\ i <= xs.length /\ Pv acc i ys H, ⟨xs.length, by simp, Nat.zero_le _, h0 acc H2 hn sm e⟩, ?_⟩
 rintro i m ys H ⟨rfl, hi, p⟩
 obtain ⟨q1, q2, q3⟩ := hl acc i ys H hn p
 refine ⟨q1, ?_⟩
 by_cases hlt : i < xs.length
 ·refine .inr ⟨⟨xs, xs[i], q3, by simp [hlt]⟩, q2, Pv acc (i + 1), fun ys' H' p' => ⟨xs.length - (i + 1), by omega, rfl, hlt, p'⟩, fun os x H' ol y => ?_⟩
  obtain ⟨rfl, hy⟩ := y
  exact hs acc i x ys _ os hn (hy xs q3) p ol
 ·have e : i = xs.length := by omega
  subst e
  exact .inl ⟨⟨xs, q3, Yd _⟩, hd _ _ _ hn p⟩
end My
namespace My
open PySem PySem.Spec L2
open PyProof.Rows hiding St
def Itz (K : PySem.W.Frag) (a b : Addr) : It :=
  ⟨fun i H => ∃ xs ys x y, SqL K H a xs /\ SqL K H b ys /\ xs[i]? = some x /\ ys[i]? = some y, fun i H x H' => ∃ p u v, x = .ref p /\ H p = none /\ Same H H' /\ H' p = some (.tup [u, v]) /\ (∀ xs, SqL K H a xs -> xs[i]? = some u) /\ ∀ ys, SqL K H b ys -> ys[i]? = some v,
   fun i H => ∃ xs ys, SqL K H a xs /\ SqL K H b ys /\ (xs.length <= i \/ ys.length <= i)⟩
theorem Zje {P : Program} {w : World} {K : PySem.W.Frag} {es : List Expr} {x1} {pos : Pos} (a b z TI TO i1 i2 : Addr) (D : ZipApart z TI TO i1 i2 a b) :
  Turn P w K (.Tuple es x1 pos) (Itz K a b) [z, TI, TO, i1, i2] z (fun i h => IsZip h z TI TO .none /\ IsPair h TI (.ref i1) (.ref i2) /\ (∃ u v, IsPair h TO u v) /\ h.IsListIter i1 a i /\ h.IsListIter i2 b i) where
 mem := by simp
 obj := fun i h st c hc => by
  obtain ⟨hz, hTI, ⟨u, v, hTO⟩, ⟨o1, e1, c1, d1⟩, o2, e2, c2, d2⟩ := st
  simp only [List.mem_cons, List.not_mem_nil, or_false] at hc
  rcases hc with rfl | rfl | rfl | rfl | rfl
  ·exact ⟨_, hz, fun v z => by cases z⟩
  ·exact ⟨_, hTI, fun v z => by cases z⟩
  ·exact ⟨_, hTO, fun v z => by cases z⟩
  ·exact ⟨_, e1, fun v z => by rw [d1] at z; cases z⟩
  ·exact ⟨_, e2, fun v z => by rw [d2] at z; cases z⟩
 keep := fun i h h' st k => by
  obtain ⟨hz, hTI, ⟨u, v, hTO⟩, h1, h2⟩ := st
  exact ⟨k z (by simp) _ hz, k TI (by simp) _ hTI, ⟨u, v, k TO (by simp) _ hTO⟩, h1.at fun o x => k i1 (by simp) o x, h2.at fun o x => k i2 (by simp) o x⟩
 item := by
  intro X hP hw hK hc i pins s σ H E I hf st hg
  subst hP hw hK
  obtain ⟨hz, hTI, ⟨u0, v0, hTO⟩, h1, h2⟩ := st
  obtain ⟨xs, ys, x, y, hqa, hqb, hx, hy⟩ := hg
  obtain ⟨its, rv, p, _⟩ := I.list hqa
  obtain ⟨its2, rv2, p2, _⟩ := I.list hqb
  obtain ⟨u, hu, ru⟩ := rv.get hx
  obtain ⟨v, hv, rv'⟩ := rv2.get hy
  have hn : H s.heap.objs.size = none := I.hok.fresh (Yd _)
  have lt : ∀ c ∈ [z, TI, TO, i1, i2], c < s.heap.objs.size := fun c hc => by
   obtain ⟨o1, e1, _⟩ := h1
   obtain ⟨o2, e2, _⟩ := h2
   simp only [List.mem_cons, List.not_mem_nil, or_false] at hc
   rcases hc with rfl | rfl | rfl | rfl | rfl
   ·exact Ye hz
   ·exact Ye hTI
   ·exact Ye hTO
   ·exact Ye e1
   ·exact Ye e2
  refine wpAny_pyNext_zip_item D hz hTI hTO h1 h2 p.isList p2.isList (x := u) (y := v) (by simpa using hu) (by simpa using hv) fun h' a1 a2 a3 a4 a5 a6 kk => ?_
  refine ⟨_, rfl, wpAny_letOwnedTupleGo_zip (s := { s with heap := h' }) a1 fun h2' hz2 sb => ?_⟩
  have sb2 : ∀ c, c ≠ z -> h2'.get? c = h'.get? c := sb.2
  have nz : s.heap.objs.size ≠ z := Nat.ne_of_gt (lt z (by simp))
  have kt : h2'.get? s.heap.objs.size = some { cls := .type "tuple", data := .seq #[u, v] } := (sb2 _ nz).trans a5
  have I1 : Inv X pins σ (upd H s.heap.objs.size (.tup [x, y])) { s with heap := h2', toks := s.toks } := by
   refine ZcP (ch := [z, TI, TO, i1, i2]) I (fun c o hb q => ?_) hf ?_
   ·simp only [List.mem_cons, List.not_mem_nil, or_false, not_or] at hb
    rw [sb2 c hb.1]
    exact kk c o hb.1 hb.2.2.1 hb.2.2.2.1 hb.2.2.2.2 q
   ·exact ⟨by show 2 <= sizeLine; decide, [u, v], .cons ru (.cons rv' .nil), ⟨_, kt, rfl, _, rfl⟩⟩
  refine ⟨.ref s.heap.objs.size, _, I1, rfl, ⟨_, x, y, rfl, hn, ZC hn _, upd_same, fun zs hz => by rw [I.list_inj hz hqa]; exact hx, fun zs hz => by rw [I.list_inj hz hqb]; exact hy⟩, ⟨hz2, (sb2 _ D.TIz).trans (kk _ _ D.TIz D.TITO D.TIi1 D.TIi2 hTI), ⟨u, v, (sb2 _ D.TOz).trans a2⟩, ?_, ?_⟩, fun c hc => ?_⟩
  ·obtain ⟨o, q, r⟩ := a3
   exact ⟨o, (sb2 _ D.i1z).trans q, r⟩
  ·obtain ⟨o, q, r⟩ := a4
   exact ⟨o, (sb2 _ D.i2z).trans q, r⟩
  ·rw [Zf (Yk (lt c hc))]
   exact (hf c hc).1
 done := by
  intro X hP hw hK hc i pins s σ H E I hf st hg
  subst hP hw hK
  obtain ⟨hz, hTI, ⟨u0, v0, hTO⟩, h1, h2⟩ := st
  obtain ⟨xs, ys, hqa, hqb, he⟩ := hg
  obtain ⟨its, rv, p, _⟩ := I.list hqa
  obtain ⟨its2, rv2, p2, _⟩ := I.list hqb
  have l1 := rv.length
  have l2 := rv2.length
  refine wpAny_pyNext_zip_end (I.ok.hd hc) D hz hTI hTO h1 h2 p.isList p2.isList (he.imp (fun z => by simp; omega) fun z => by simp; omega) fun h' eb => ⟨rfl, ZiD (t' := s.toks) (ch := [z, TI, TO, i1, i2]) I (fun c o hb q => ?_) hf⟩
  simp only [List.mem_cons, List.not_mem_nil, or_false, not_or] at hb
  exact eb c o hb.1 hb.2.2.1 hb.2.2.2.1 hb.2.2.2.2 q
 self := fun _ _ _ _ _ st h => wpAny_pyIter_zip st.1 h
theorem Zin (n a b : Nat) (ha : a < n) (hb : b < n) : ZipApart (n + 4) (n + 2) (n + 3) n (n + 1) a b := by
 constructor <;> (intro z; have z' := Vp z; have z'' := Vp z.symm; omega)
def ZpY (K : PySem.W.Frag) (ta : TA) : TI := fun σ H R => ta σ H fun vs H1 => ∃ a b, vs = [.ref a, .ref b] /\ (∃ xs, SqL K H1 a xs) /\ (∃ ys, SqL K H1 b ys) /\ R (Itz K a b) H1
theorem Zj3 : bootBuiltins "zip" = some (.type "zip") := by decide +kernel
section
variable {X : Cx} {l m : Expr} {ta : TA} {p pos pos' : Pos} {es : List Expr}
theorem Zny {x1} (hg : Gl X "zip") (hm : X.mg "zip" = none) (ha : PA X [l, m] ta) (hs : starEach [l, m] X.env = [(false, eval l X.env), (false, eval m X.env)] := by rfl) (hs2 : starEach [m] X.env = [(false, eval m X.env)] := by rfl) : PI X (.Tuple es x1 pos') (.Call (.Name "zip" p) [l, m] [] pos) (ZpY X.K ta) := by
 intro pins s σ H R I h
 refine Call_ (Jm I hg hm Zj3 (Y7 (ZJ (ha pos pins s σ H _ I h) fun us s1 ⟨vs, H1, I1, r1, q1⟩ => ?_) (by rw [hs, hs2]) (by rw [hs2]; rfl)))
 obtain ⟨a, b, e, ⟨xs, hqa⟩, ⟨ys, hqb⟩, q⟩ := q1
 subst e
 obtain ⟨u, v, rfl, ru, rv⟩ := Zhj r1
 cases ru
 cases rv
 obtain ⟨its, _, pl, _⟩ := I1.list hqa
 obtain ⟨its2, _, pl2, _⟩ := I1.list hqb
 have la : a < s1.heap.objs.size := by obtain ⟨o, n, e, _⟩ := pl; exact Ye e
 have lb : b < s1.heap.objs.size := by obtain ⟨o, n, e, _⟩ := pl2; exact Ye e
 refine call_zip_2 pl.isList pl2.isList fun h' hz hTI hTO g1 g2 hsz kk => ?_
 have I2 : Inv X pins σ H1 { s1 with heap := h' } := I1.kept (t' := s1.toks) kk
 have D := Zin _ _ _ la lb
 refine wpAny_pyIter_zip (s := { s1 with heap := h' }) hz ⟨_, [s1.heap.objs.size + 4, s1.heap.objs.size + 2, s1.heap.objs.size + 3, s1.heap.objs.size, s1.heap.objs.size + 1], _, _, H1, rfl, I2, Zje a b _ _ _ _ _ D, ⟨hz, hTI, ⟨_, _, hTO⟩, g1, g2⟩, fun c hc => ?_, q⟩
 have hb' : s1.heap.objs.size <= c := by
  simp only [List.mem_cons, List.not_mem_nil, or_false] at hc
  rcases hc with rfl | rfl | rfl | rfl | rfl
  ·exact VZ _ _
  ·exact VZ _ _
  ·exact VZ _ _
  ·exact Yd _
  ·exact VZ _ _
 exact I1.fpOk hb' (I1.hok.fresh hb')
theorem ZoJ {x1} (hg : Gl X "zip") (hm : X.mg "zip" = none) (ha : QA X [l, m] ta) (hp : Zn l = true := by rfl) (hq : Zn m = true := by rfl) : QI X (.Tuple es x1 pos') (.Call (.Name "zip" p) [l, m] [] pos) (ZpY X.K ta) :=
 ⟨Zny hg hm ha.h (by rw [Zl hp, Zl hq]; rfl) (Zl hq)⟩
end
def Zqi (K : PySem.W.Frag) (g : TG) (tb : TS) (D : Ends) (σ : St) : List V -> Hp -> Prop := fun vs H1 => ∃ a b, vs = [.ref a, .ref b] /\ (∃ xs, SqL K H1 a xs) /\ (∃ ys, SqL K H1 b ys) /\ ∃ W : Nat -> Nat -> St -> Hp -> Prop, (∃ m, W 0 m σ H1) /\ ∀ i m σ H, W i m σ H ->
 ((Itz K a b).stop i H /\ D.nx σ H) \/ ((Itz K a b).go i H /\ ∃ N : St -> Hp -> Prop, (∀ σ' H', N σ' H' -> ∃ m', m' < m /\ W (i + 1) m' σ' H') /\ ∀ x H', (Itz K a b).yld i H x H' -> g x σ H' fun σ2 H2 => tb { D with nx := N, ct := N, bk := D.nx } σ2 H2)
theorem ZfP {K : PySem.W.Frag} {ta : TA} {g : TG} {tb : TS} {D : Ends} {σ : St} {H : Hp} : Zja (ZpY K ta) g tb D σ H = ta σ H (Zqi K g tb D σ) := rfl
theorem Zhl {K : PySem.W.Frag} {a b : Addr} {xs ys : List V} {g : TG} {tb : TS} {D : Ends} {σ : St} {H : Hp} (hxy : xs.length = ys.length) (Pv : Nat -> St -> Hp -> Prop) (h0 : Pv 0 σ H) (hl : ∀ i σ H, i <= xs.length -> Pv i σ H -> SqL K H a xs /\ SqL K H b ys)
  (hs : ∀ i x y σ H p H', xs[i]? = some x -> ys[i]? = some y -> Pv i σ H -> H p = none -> Same H H' -> H' p = some (.tup [x, y]) -> g (.ref p) σ H' fun σ2 H2 => tb { D with nx := Pv (i + 1), ct := Pv (i + 1), bk := D.nx } σ2 H2) (hd : ∀ σ H, Pv xs.length σ H -> D.nx σ H) :
  Zqi K g tb D σ [.ref a, .ref b] H := by
 refine ⟨a, b, rfl, ⟨xs, (hl 0 σ H (Nat.zero_le _) h0).1⟩, ⟨ys, (hl 0 σ H (Nat.zero_le _) h0).2⟩, fun i m σ H => m = xs.length - i /\ i <= xs.length /\ Pv i σ H, ⟨xs.length, by simp, Nat.zero_le _, h0⟩, ?_⟩
 rintro i m σ H ⟨rfl, hi, p⟩
 obtain ⟨qa, qb⟩ := hl i σ H hi p
 by_cases hlt : i < xs.length
 ·have hlt2 : i < ys.length := by omega
  refine .inr ⟨⟨xs, ys, xs[i], ys[i], qa, qb, by simp [hlt], by simp [hlt2]⟩, Pv (i + 1), fun σ' H' p' => ⟨xs.length - (i + 1), by omega, rfl, hlt, p'⟩, fun x H' y => ?_⟩
  obtain ⟨c, u, v, rfl, hn, sm, e, hu, hv⟩ := y
  exact hs i u v σ H c H' (hu xs qa) (hv ys qb) p hn sm e
 ·have e : i = xs.length := by omega
  subst e
  exact .inl ⟨⟨xs, ys, qa, qb, .inl (Yd _)⟩, hd _ _ p⟩
end My
namespace My
open PySem PySem.Spec
open PyProof.Rows hiding St
def Rise (l : List Nat) : Prop := l.Pairwise (· < ·)
theorem Rise.at {l : List Nat} (h : Rise l) {i j : Nat} {x y : Nat} (hi : l[i]? = some x) (hj : l[j]? = some y) (hij : i < j) : x < y := by
 obtain ⟨hi1, rfl⟩ := Yg.mp hi
 obtain ⟨hj1, rfl⟩ := Yg.mp hj
 exact List.pairwise_iff_getElem.mp h i j hi1 hj1 hij
theorem ZkA (xs : Array Nat) (j : Nat) (h : Rise xs.toList) : ∀ (f lo hi : Nat), hi - lo <= f -> lo <= hi -> hi <= xs.size -> (∀ i x, i < lo -> xs[i]? = some x -> x < j) -> (∀ i x, hi <= i -> xs[i]? = some x -> j <= x) ->
  SetTable.below.go xs j f lo hi <= xs.size /\ (∀ i x, i < SetTable.below.go xs j f lo hi -> xs[i]? = some x -> x < j) /\ ∀ i x, SetTable.below.go xs j f lo hi <= i -> xs[i]? = some x -> j <= x := by
 intro f
 induction f with
 | zero =>
  intro lo hi h1 h2 h3 h4 h5
  have : lo = hi := by omega
  subst this
  unfold SetTable.below.go
  exact ⟨h3, h4, h5⟩
 | succ f ih =>
  intro lo hi h1 h2 h3 h4 h5
  unfold SetTable.below.go
  by_cases c : lo < hi
  ·rw [if_pos c]
   have hm : (lo + hi) / 2 < xs.size := by omega
   have e : xs[(lo + hi) / 2]? = some xs[(lo + hi) / 2] := Y9 hm
   have e' : xs.toList[(lo + hi) / 2]? = some xs[(lo + hi) / 2] := by rw [YF]; exact e
   dsimp only
   rw [VE, e, Option.getD_some]
   by_cases c2 : xs[(lo + hi) / 2] < j
   ·rw [if_pos c2]
    refine ih _ _ (by omega) (by omega) h3 (fun i x hi1 hx => ?_) h5
    by_cases c3 : i = (lo + hi) / 2
    ·subst c3; rw [e] at hx; cases hx; exact c2
    ·have := h.at (by rw [YF]; exact hx) e' (show i < (lo + hi) / 2 by omega)
     omega
   ·rw [if_neg c2]
    refine ih _ _ (by omega) (by omega) (by omega) h4 fun i x hi1 hx => ?_
    by_cases c3 : i = (lo + hi) / 2
    ·subst c3; rw [e] at hx; cases hx; omega
    ·have := h.at e' (by rw [YF]; exact hx) (show (lo + hi) / 2 < i by omega)
     omega
  ·rw [if_neg c]
   have : lo = hi := by omega
   subst this
   exact ⟨h3, h4, h5⟩
theorem ZcY (xs : Array Nat) (j : Nat) (h : Rise xs.toList) : SetTable.below xs j <= xs.size /\ (∀ i x, i < SetTable.below xs j -> xs[i]? = some x -> x < j) /\ ∀ i x, SetTable.below xs j <= i -> xs[i]? = some x -> j <= x :=
 ZkA xs j h xs.size 0 xs.size (by omega) (YB _) (Yd _) (fun i x hi => absurd hi (V1 _)) fun i x hi hx => by
  rw [Array.getElem?_eq_none hi] at hx; cases hx
theorem Zkh {xs : Array Nat} {j : Nat} (h : Rise xs.toList) (hj : ¬ xs[SetTable.below xs j]? = some j) : Rise (SetTable.insertAt xs (SetTable.below xs j) j).toList := by
 obtain ⟨h1, h2, h3⟩ := ZcY xs j h
 rw [SetTable.toList_insertAt]
 generalize hp : SetTable.below xs j = p at *
 have hd : ∀ y ∈ xs.toList.drop p, j < y := fun y hy => by
  obtain ⟨i, hi⟩ := Vu hy
  rw [List.getElem?_drop, YF] at hi
  have h4 := h3 _ _ (VZ p i) hi
  by_cases c : y = j
  ·subst c
   by_cases ci : i = 0
   ·subst ci; exact absurd hi hj
   ·have hps : p < xs.size := by
     have := (Array.getElem?_eq_some_iff.mp hi).1
     omega
    have e := Y9 hps
    have h5 := h3 _ _ (Yd p) e
    have h6 := h.at (by rw [YF]; exact e) (by rw [YF]; exact hi) (show p < p + i by omega)
    omega
  ·omega
 have ht : ∀ y ∈ xs.toList.take p, y < j := fun y hy => by
  obtain ⟨i, hi⟩ := Vu hy
  have hip : i < p := by have := (Yg.mp hi).1; rw [YM] at this; omega
  rw [List.getElem?_take, if_pos hip, YF] at hi
  exact h2 _ _ hip hi
 refine List.pairwise_append.mpr ⟨h.sublist (Vn _ _), List.pairwise_cons.mpr ⟨hd, h.sublist (List.drop_sublist _ _)⟩, fun a ha b hb => ?_⟩
 rcases Yn.mp hb with rfl | hb
 ·exact ht a ha
 ·exact Nat.lt_trans (ht a ha) (hd b hb)
def TOk (b : Bool) (t : SetTable) : Prop := Rise t.place.toList /\ t.dummies = #[] /\ t.led = b
theorem ZgH (n : Nat) : Rise (Array.range n).toList := by
 rw [Array.toList_range]
 exact List.pairwise_lt_range
theorem TOk.standIn {b : Bool} {t : SetTable} (h : TOk b t) (n : Nat) : TOk b (t.standIn n) := ⟨ZgH n, rfl, h.2.2⟩
theorem TOk.orStandIn {b : Bool} {t : SetTable} (h : TOk b t) (n : Nat) : TOk b (t.orStandIn n) := by
 unfold SetTable.orStandIn
 split
 ·exact h
 ·exact h.standIn n
theorem ZlU (j : Nat) : SetTable.has #[] j = false := rfl
theorem Zge {t : SetTable} (h : t.dummies = #[]) (j : Nat) : (t.slot j = .empty /\ ¬ t.place[SetTable.below t.place j]? = some j) \/ ∃ i, t.slot j = .live i := by
 unfold SetTable.slot
 dsimp only
 by_cases c : (t.place[SetTable.below t.place j]? == some j) = true
 ·rw [if_pos c]
  exact .inr ⟨_, rfl⟩
 ·rw [if_neg c, h, ZlU]
  exact .inl ⟨rfl, fun z => c (by rw [z]; exact beq_self_eq_true _)⟩
theorem ZjD {t : SetTable} (h : t.dummies = #[]) (ha : Nat -> Int) (x : Int) : ∀ (f : Nat) (p : SetTable.Probe) (j : Nat) (d : Option Nat), p.dummy = none -> SetTable.probe.go t ha x f p = some (.empty j d) -> d = none /\ ¬ t.place[SetTable.below t.place j]? = some j := by
 intro f
 induction f with
 | zero => intro p j d _ e; unfold SetTable.probe.go at e; cases e
 | succ f ih =>
  intro p j d hp e
  unfold SetTable.probe.go at e
  have adv : (t.advance p).dummy = none := by
   unfold SetTable.advance
   split
   ·exact hp
   ·exact hp
  rcases Zge h p.j with ⟨c, c2⟩ | ⟨i, c⟩
  ·rw [c] at e
   cases e
   exact ⟨hp, c2⟩
  ·rw [c] at e
   dsimp only at e
   split at e
   ·cases e
   ·exact ih _ _ _ adv e
theorem ZeF {t : SetTable} (h : t.dummies = #[]) {x : Int} {j : Nat} {b : Bool} (e : t.freeSlot x = some (j, b)) : b = false /\ ¬ t.place[SetTable.below t.place j]? = some j := by
 unfold SetTable.freeSlot at e
 split at e
 ·rename_i j' d q
  obtain ⟨rfl, h2⟩ := ZjD h _ _ _ _ _ _ rfl q
  cases e
  exact ⟨rfl, h2⟩
 ·cases e
theorem TOk.lay {b : Bool} {t : SetTable} (h : TOk b t) (es : Array (Int × Value)) (x : Int) (v : Value) : TOk b (layNew t es x v).2.1 := by
 unfold layNew
 split
 ·rename_i j d q
  have h2 := (ZeF h.2.1 q).2
  dsimp only
  have k : TOk b (t.put j).1 := ⟨Zkh h.1 h2, by show (if SetTable.has t.dummies j then _ else t.dummies) = #[]; rw [h.2.1]; rfl, h.2.2⟩
  exact k.orStandIn _
 ·exact h.standIn _
theorem TOk.relay {b : Bool} {t : SetTable} (h : TOk b t) (es : Array (Int × Value)) (n : Nat) : TOk b (relayAll t es n).2.1 := by
 unfold relayAll
 split
 ·rename_i t' order q
  dsimp only
  split
  ·unfold SetTable.relaid SetTable.laid at q
   cases ho : SetTable.layClean (SetTable.sizeAbove n - 1) (es.map (·.1)) with
   | none => rw [ho] at q; cases q
   | some owner =>
    rw [ho] at q
    simp only [Option.bind_eq_bind, Option.bind_some, Option.pure_def, Option.some.injEq, Prod.mk.injEq] at q
    obtain ⟨rfl, _⟩ := q
    refine ⟨?_, rfl, h.2.2⟩
    show Rise (List.map (fun q : Nat × Nat => q.1) _).toArray.toList
    have key : ∀ (g : Nat -> Option Nat) (l : List Nat), l.Pairwise (· < ·) -> ((l.filterMap fun j => (g j).map (j, ·)).map (·.1)).Sublist l := by
     intro g l _
     induction l with
     | nil => exact .slnil
     | cons a l ih =>
      rename_i hp
      rw [YaA]
      cases g a with
      | none => exact (ih (List.pairwise_cons.mp hp).2).cons a
      | some y => exact (ih (List.pairwise_cons.mp hp).2).cons₂ a
    exact List.pairwise_lt_range.sublist (key (fun j => owner.getD j none) _ List.pairwise_lt_range)
  ·exact h.standIn _
 ·exact h.standIn _
end My
namespace My
open PySem PySem.Spec
open PyProof.Rows hiding St
section
variable {prog : Program} {w : World} {A : Around} {E : Value -> Shared -> Prop} {s : Shared}
def byT (w : World) : Bool := w.params.followText "set-order"
def JB (e : Int × Value) : Int := match e.2 with
 | .int k _ => k
 | _ => 0
def AllI (prog : Program) (w : World) (es : List (Int × Value)) : Prop := ∀ e ∈ es, ∃ (k : Int) (t : Tok), e.2 = .int k t /\ e.1 = (intKind prog w).hash k
theorem AllI.elems {es : List (Int × Value)} (h : AllI prog w es) : ElemsOf (intKind prog w) es := fun e he => by
 obtain ⟨k, t, h1, h2⟩ := h e he
 rw [h1]
 exact ⟨⟨k, intKind_is _ _ _ _, h2⟩, rfl⟩
theorem AllI.perm {es es' : List (Int × Value)} (h : AllI prog w es) (p : es'.Perm es) : AllI prog w es' := fun e he => h e (p.mem_iff.mp he)
theorem AllI.is {es : List (Int × Value)} (h : AllI prog w es) {e : Int × Value} (he : e ∈ es) (k : Int) : (intKind prog w).is k e.2 = true ↔ k = JB e := by
 obtain ⟨k', t, h1, h2⟩ := h e he
 have h3 : JB e = k' := by unfold JB; rw [h1]
 rw [h1, KeyKind.is_eq_decide (intKind_is _ _ k' t) k, Ve, h3]
def SetI (prog : Program) (w : World) (h : Heap) (a : Addr) (S : Int -> Prop) (n : Nat) : Prop :=
 ∃ o es ep t, h.get? a = some o /\ o.ExactSet /\ o.data = .set es ep t /\ TOk (!byT w) t /\ t.fits es.size = true /\ AllI prog w es.toList /\ (es.toList.map JB).Nodup /\ (∀ k, k ∈ es.toList.map JB ↔ S k) /\ es.size <= n
theorem SetI.keep {h h' : Heap} {a : Addr} {S : Int -> Prop} {n : Nat} (x : SetI prog w h a S n) (hk : ∀ o, h.get? a = some o -> h'.get? a = some o) : SetI prog w h' a S n :=
 let ⟨o, es, ep, t, ho, r⟩ := x; ⟨o, es, ep, t, hk o ho, r⟩
theorem SetI.lt {h : Heap} {a : Addr} {S : Int -> Prop} {n : Nat} (x : SetI prog w h a S n) : a < h.objs.size := let ⟨_, _, _, _, ho, _⟩ := x; Ye ho
theorem SetI.store {h : Heap} {a : Addr} {o : Obj} {es : Array (Int × Value)} {ep : Nat} {t : SetTable} {es' : Array (Int × Value)} {t' : SetTable} {S : Int -> Prop} {n : Nat} (ho : h.get? a = some o) (hex : o.ExactSet) (hd : o.data = .set es ep t)
  (h1 : TOk (!byT w) t') (h2 : t'.fits es'.size = true) (h3 : AllI prog w es'.toList) (h4 : (es'.toList.map JB).Nodup) (h5 : ∀ k, k ∈ es'.toList.map JB ↔ S k) (h6 : es'.size <= n) :
  (h.update a (Obj.putSet es' t')).get? a = some { o with data := .set es' (ep + 1) t' } /\ SetI prog w (h.update a (Obj.putSet es' t')) a S n := by
 have hg : (h.update a (Obj.putSet es' t')).get? a = some { o with data := .set es' (ep + 1) t' } := by
  have := Yan (Obj.putSet es' t') ho (by rw [putSet_of es' t' hd]; rfl)
  rw [putSet_of es' t' hd] at this; exact this
 exact ⟨hg, _, es', ep + 1, t', hg, hex, rfl, h1, h2, h3, h4, h5, h6⟩
theorem Zi6 {es : List (Int × Value)} (h : AllI prog w es) {k : Int} (e : es.findIdx? (fun e => (intKind prog w).is k e.2) = none) : k ∉ es.map JB := fun hm => by
 obtain ⟨x, hx, rfl⟩ := Yl.mp hm
 have := List.findIdx?_eq_none_iff.mp e x hx
 rw [(h.is hx _).mpr rfl] at this
 cases this
theorem ZhV {es : List (Int × Value)} (h : AllI prog w es) {k : Int} {j : Nat} (e : es.findIdx? (fun e => (intKind prog w).is k e.2) = some j) : k ∈ es.map JB := by
 obtain ⟨hj, hp, _⟩ := List.findIdx?_eq_some_iff_getElem.mp e
 exact Yl.mpr ⟨_, YI hj, ((h.is (YI hj) k).mp hp).symm⟩
theorem Zhx {g : Bool -> Sem Unit} (hg : ∀ (b : Bool) (s₁ : Shared) (Q' : Unit -> Shared -> Prop), Q' () s₁ -> wpAny (model prog w) A (g b) Q' E s₁) {a : Addr} {o : Obj} {es : Array (Int × Value)} {ep : Nat} {t : SetTable} (ho : s.heap.get? a = some o) (hex : o.ExactSet)
  (hd : o.data = .set es ep t) {es1 : Array (Int × Value)} {t2 : SetTable} {S : Int -> Prop} {n : Nat} (h1 : TOk (!byT w) t2) (h2 : t2.fits es1.size = true) (h3 : AllI prog w es1.toList) (h4 : (es1.toList.map JB).Nodup) (h5 : ∀ k, k ∈ es1.toList.map JB ↔ S k)
  (h6 : es1.size <= n) (hn : n < scanBound) {c : Bool} {R : Option Bool -> Shared -> Prop} (h : ∀ h', Heap.SameBut a s.heap h' -> SetI prog w h' a S n -> R (some true) { s with heap := h' }) :
  wpAny (model prog w) A (do
    storeSet a es1 t2
    if c = true then do
      g (relayAll t2 es1 (SetTable.grown es1.size)).2.2
      storeSet a (relayAll t2 es1 (SetTable.grown es1.size)).1 (relayAll t2 es1 (SetTable.grown es1.size)).2.1
      pure (some true)
     else pure (some true)) R E s := by
 have hs1 : es1.size <= sizeLine := fits_of_scanBound (Yy h6 hn)
 refine Ya (wpAny_storeSet_of ho hd ?_ hs1)
 obtain ⟨ho1, hS1⟩ := SetI.store (prog := prog) (w := w) ho hex hd h1 h2 h3 h4 h5 h6
 have sb1 := Yas s.heap a (Obj.putSet es1 t2)
 cases c with
 | false =>
  rw [if_neg (by decide)]
  exact Yb (h _ sb1 hS1)
 | true =>
  rw [if_pos rfl]
  have hp := relayAll_perm t2 es1 (SetTable.grown es1.size)
  have hf := relayAll_fits t2 es1 (SetTable.grown es1.size)
  have ht := h1.relay es1 (SetTable.grown es1.size)
  generalize relayAll t2 es1 (SetTable.grown es1.size) = Rl at hp hf ht ⊢
  obtain ⟨es2, t3, gave⟩ := Rl
  dsimp only at hp hf ht ⊢
  have hz : es2.size = es1.size := by rw [<- YG, hp.length_eq, YG]
  refine Ya (hg _ _ _ (Ya (wpAny_storeSet_of ho1 rfl ?_ (by rw [hz]; exact hs1))))
  have kp := hp.map JB
  obtain ⟨_, hS2⟩ := SetI.store (prog := prog) (w := w) (S := S) (n := n) ho1 hex rfl ht hf (h3.perm hp) (kp.nodup_iff.mpr h4) (fun k => (kp.mem_iff).trans (h5 k)) (by rw [hz]; exact h6)
  exact Yb (h _ (sb1.trans (Yas _ a _)) hS2)
theorem Zii {a : Addr} {S : Int -> Prop} {n : Nat} {k : Int} {tk : Tok} {Q : Bool -> Shared -> Prop} (hS : SetI prog w s.heap a S n) (hn : n + 1 < scanBound) (h : ∀ h' r, Heap.SameBut a s.heap h' -> SetI prog w h' a (fun k' => S k' \/ k' = k) (n + 1) -> Q r { s with heap := h' }) :
  wpAny (model prog w) A (setAddHashed a (.int k tk) ((intKind prog w).hash k)) Q E s := by
 obtain ⟨o, es, ep, t, ho, hex, hd, hT, hf, hA, hN, hM, hz⟩ := hS
 have hb : es.size < scanBound := by omega
 unfold setAddHashed setAddHashedIn
 refine YJ (Ya (Vo ho hd hf ?_))
 dsimp only
 rw [byScan_of (x := .int k tk) rfl hb hA.elems]
 simp only [↓reduceIte]
 unfold setAddByScan
 refine Ya (Ya (Vs (Ya (wpAny_setScan_of (intKind_is _ _ k tk) ho hd hf hA.elems ?_))))
 cases hr : List.findIdx? (fun e => (intKind prog w).is k e.2) es.toList with
 | some j =>
  dsimp only
  have hk := ZhV hA hr
  refine Yb (Yb ?_)
  have := h s.heap false (Heap.SameBut.refl a s.heap) ⟨o, es, ep, t, ho, hex, hd, hT, hf, hA, hN, fun k' => (hM k').trans ⟨.inl, fun z => z.elim id fun e => (hM k').mp (e ▸ hk)⟩, Nat.le_succ_of_le hz⟩
  exact this
 | none =>
  dsimp only
  have hk := Zi6 hA hr
  have hperm := layNew_perm t es ((intKind prog w).hash k) (.int k tk)
  have hfits := layNew_fits t es ((intKind prog w).hash k) (.int k tk)
  have htab := hT.lay es ((intKind prog w).hash k) (.int k tk)
  generalize layNew t es ((intKind prog w).hash k) (.int k tk) = Ly at hperm hfits htab ⊢
  obtain ⟨es1, t1, wasD, gave⟩ := Ly
  dsimp only at hperm hfits htab ⊢
  rw [Array.toList_push] at hperm
  have kp : (es1.toList.map JB).Perm (es.toList.map JB ++ [k]) := by have := hperm.map JB; rw [YY] at this; exact this
  have hA1 : AllI prog w es1.toList := fun e he => by
   rcases Yx.mp (hperm.mem_iff.mp he) with he | he
   ·exact hA e he
   ·rw [YH.mp he]; exact ⟨k, tk, rfl, rfl⟩
  have hN1 : (es1.toList.map JB).Nodup := kp.nodup_iff.mpr (List.nodup_append.mpr ⟨hN, by simp, fun x hx y hy => by rw [List.mem_singleton.mp hy]; intro e; exact hk (e ▸ hx)⟩)
  have hM1 : ∀ k', k' ∈ es1.toList.map JB ↔ (S k' \/ k' = k) := fun k' => by rw [kp.mem_iff, Yx, hM k', YH]
  have hz1 : es1.size <= n + 1 := by rw [<- Array.length_toList, hperm.length_eq, List.length_append, Array.length_toList]; simpa using hz
  have gw : ∀ (b : Bool) (s₁ : Shared) (Q' : Unit -> Shared -> Prop), Q' () s₁ -> wpAny (model prog w) A (match b with | true => rule "set.scan.the-table-gave-way" | false => pure ()) Q' E s₁ :=
   fun b s₁ Q' hq => by cases b <;> first | exact Yb hq | exact Vs hq
  refine Ya (gw _ _ _ ?_)
  have fin : ∀ h', Heap.SameBut a s.heap h' -> SetI prog w h' a (fun k' => S k' \/ k' = k) (n + 1) -> Q true { s with heap := h' } := fun h' => h h' true
  split
  ·refine Ya ?_
   rw [hashByValue_scannable 8 (x := .int k tk) rfl]
   refine Yb ?_
   refine Zhx (fun b s₁ Q' hq => by cases b <;> first | exact Yb hq | exact Vs hq) ho hex hd (S := fun k' => S k' \/ k' = k) (n := n + 1) ?_ ?_ hA1 hN1 hM1 hz1 hn fun h' sb x => Yb (fin h' sb x)
   ·exact htab
   ·exact hfits
  ·refine Ya (Yb ?_)
   simp only [↓reduceIte]
   exact Zhx (fun b s₁ Q' hq => by cases b <;> first | exact Yb hq | exact Vs hq) ho hex hd (S := fun k' => S k' \/ k' = k) (n := n + 1) htab hfits hA1 hN1 hM1 hz1 hn fun h' sb x => Yb (fin h' sb x)
end
end My
namespace My
open PySem PySem.Spec
open PyProof.Rows hiding St
section
variable {prog : Program} {w : World} {A : Around} {R : Result -> Shared -> Prop} {I : Addr} {fp wr : List Addr} {G : Array GenState -> Array GenState -> Prop} {P : Nat -> Value -> Prop} {St : Nat -> Shared -> Prop}
theorem Zdh {ns : List Int} {i : Nat} {v k : Int} (h : ns[i]? = some v) : k ∈ ns.take (i + 1) ↔ k ∈ ns.take i \/ k = v := by
 rw [Yp, h, Yx]
 simp
theorem ZjI {ns : List Int} (W : WalksS prog w A.in1 I fp wr G ns.length P St) (S : Addr) (hSf : S ∉ fp) (hval : ∀ i v, P i v -> ∃ k t, ns[i]? = some k /\ v = .int k t) (hb : ns.length + 1 < scanBound) :
  ∀ (k i : Nat) (s : Shared), ns.length - i = k -> i <= ns.length -> St i s -> SetI prog w s.heap S (· ∈ ns.take i) i ->
   (∀ s', Moved (S :: wr) G s s' -> SetI prog w s'.heap S (· ∈ ns) ns.length -> R (.ok (.ret .none)) s') -> codeAny (model prog w) A (.builtin "set.update.loop" ⟨[.ref S, .ref I], []⟩) R s := by
 have hSw : S ∉ wr := fun h => hSf (W.sub _ h)
 have hsub : ∀ b ∈ wr, b ∈ S :: wr := fun b hb => Y1 _ hb
 intro k
 induction k with
 | zero =>
  intro i s hk hi hst hS hR
  obtain rfl : i = ns.length := by omega
  refine Vi F.entry_set_update_loop ?_
  rw [Vw F.plain_set_update_loop _]
  show wpAny _ A.in1 (pyNext (.ref I) >>= _) _ _ s
  refine Ya (W.done s _ _ hst fun s' hm => ?_)
  show wpAny _ A.in1 (ret Value.none) _ _ s'
  rw [YC] at hS
  exact Yb (hR s' (hm.mono hsub) (hS.keep fun o ho => hm.heap S _ hSw ho))
 | succ k ih =>
  intro i s hk hi hst hS hR
  have hlt : i < ns.length := by omega
  refine Vi F.entry_set_update_loop ?_
  rw [Vw F.plain_set_update_loop _]
  show wpAny _ A.in1 (pyNext (.ref I) >>= _) _ _ s
  refine Ya (W.item i s _ _ hlt hst fun v s' hP hst' hm => ?_)
  obtain ⟨z, t, hz, rfl⟩ := hval i v hP
  have hS' := hS.keep (fun o ho => hm.heap S _ hSw ho)
  show wpAny _ A.in1 (holding [Value.int z t] (setAdd S (.int z t)) >>= _) _ _ s'
  refine Ya (YJ ?_)
  unfold setAdd
  refine YJ (Ya ((intKind prog w).pyHash (k := z) (intKind_is _ _ _ _) ?_))
  refine Zii (s := { s' with toks := s'.toks + 1 }) hS' (by omega) fun h' r hsb hS2 => ?_
  have hSi : SetI prog w h' S (· ∈ ns.take (i + 1)) (i + 1) := by
   rw [show (· ∈ ns.take (i + 1)) = (fun k' => k' ∈ ns.take i \/ k' = z) from funext fun k' => propext (Zdh hz)]
   exact hS2
  refine Yb ⟨VV F.plain_set_update_loop _, ih (i + 1) _ (by omega) hlt (W.frame _ s' _ _ hst' (Vr _) fun b hb o e => ?_) hSi fun s'' hm'' hS'' => ?_⟩
  ·rw [hsb.2 b (fun h : b = S => hSf (by rw [<- h]; exact hb))]; exact e
  ·refine hR s'' (Moved.trans W.gtrans ((hm.mono hsub).then_heap (Vr _) fun b o hb e => ?_) hm'') hS''
   rw [hsb.2 b (fun h : b = S => hb (by rw [h]; exact Vc))]; exact e
end
section
variable {prog : Program} {w : World} {A : Around} {E : Value -> Shared -> Prop} {s : Shared}
abbrev ZK (w : World) : Obj := { cls := .type "set", dict := none, data := .set #[] 0 (.fresh 0 0 (!byT w)) }
theorem Zh5 (a : Value) {Q₁ : Value -> Shared -> Prop} (h : Q₁ (.ref s.heap.objs.size) { s with heap := s.heap.push (ZK w) }) :
  codeAny (model prog w) A (.call (.builtin "set.__new__") ⟨[.type "set", a], []⟩) (wants Q₁ E) s := by
 refine codeAny_of_tree ?_
 show wpAny _ A.in1 (do checkBuiltinCall "set.__new__" ⟨[.type "set", a], []⟩; again (.builtin "set.__new__" ⟨[.type "set", a], []⟩)) _ _ s
 refine Ya (wpAny_of_eq (F.newCall_set_1 a) (Yb ⟨VV F.plain_set_new _, Vi F.entry_set_new ?_⟩))
 rw [Vw F.plain_set_new _]
 unfold Builtin.«set.__new__» Builtin.Frozenset.newClass
 have hsub := sub_set_self
 obtain ⟨hp, g, d, tk, os⟩ := s
 dsimp only
 wp_walk
 refine wpAny_askSetting (Yb ?_)
 dsimp only
 simp only [newObj]
 exact Ya (wpAny_alloc (Yb (Yb h)))
theorem SetI.fresh {h : Heap} {a : Addr} (e : h.get? a = some (ZK w)) : SetI prog w h a (· ∈ ([] : List Int)) 0 :=
 ⟨_, #[], 0, _, e, ⟨rfl, rfl, rfl⟩, rfl, ⟨List.Pairwise.nil, rfl, rfl⟩, rfl, (fun e he => by simp at he), List.nodup_nil, fun k => by simp, Nat.le_refl _⟩
set_option maxHeartbeats 3200000 in
theorem Zfc {l : Addr} {items : Array Value} {ns : List Int} {Q : Value -> Shared -> Prop} (hh : A.handled = none) (hl : s.heap.IsList l items) (hi : IntsAre items.toList ns) (hb : ns.length + 1 < scanBound)
  (h : ∀ (h' : Heap) (tk : Nat), SetI prog w h' s.heap.objs.size (· ∈ ns) ns.length -> (∀ b o, s.heap.get? b = some o -> h'.get? b = some o) -> Q (.ref s.heap.objs.size) { s with heap := h', toks := tk }) :
  wpAny (model prog w) A (call (.type "set") [.ref l]) Q E s := by
 obtain ⟨c, tl, hmro⟩ := F.called_set.mro
 have hmade := F.called_set.made
 have hsub := F.called_set.sub
 refine wpAny_call (codeAny_of_tree ?_)
 show wpAny _ _ (callAny (.type "set") _) _ _ _
 refine Yb ⟨Code.quiet_builtin _ (by decide +kernel), Vi F.entry_type_call ?_⟩
 rw [Around.under_plain (weight_type_call_type "set" [.ref l] []) rfl]
 have h1 := F.called_set.notType
 have h2 := F.called_set.canCreate
 have hct := F.typeCall_set_1 (.ref l)
 repeat (any_goals (first | assumption | wp_step))
 refine YV (Zh5 (.ref l) (E := E) (Q₁ := fun obj s₁ => obj = .ref s.heap.objs.size /\ s₁ = { s with heap := s.heap.push (ZK w) }) ⟨rfl, rfl⟩) fun r s₁ hr => ?_
 cases r with
 | error e => exact hr
 | ok fl =>
  cases fl with
  | ret obj =>
   obtain ⟨rfl, rfl⟩ := hr
   have hS : (s.heap.push (ZK w)).get? s.heap.objs.size = some (ZK w) := Ym _ rfl
   have hT : Shared.TypeIs { s with heap := s.heap.push (ZK w) } (.ref s.heap.objs.size) "set" := ⟨_, hS, rfl⟩
   have hli := F.called_set.init.lookup
   have hbi := F.called_set.init.bind (.ref s.heap.objs.size)
   repeat (any_goals (first | assumption | wp_step))
   refine YV (codeAny_call_builtin (R := wants (fun r s₂ => r = .none /\ ∃ h' tk, s₂ = { s with heap := h', toks := tk } /\ SetI prog w h' s.heap.objs.size (· ∈ ns) ns.length /\ (∀ b o, s.heap.get? b = some o -> h'.get? b = some o)) E)
    F.called_set.init.plain F.entry_set_init (check_set_init_1 hT ?_)) fun r₂ s₂ hr₂ => ?_
   ·obtain ⟨ol, hol, hcl, nl, hdl⟩ := hl
    obtain ⟨ocls, odict, odata, oslots⟩ := ol
    simp only at hcl hdl
    subst hcl; subst hdl
    have hol' : (s.heap.push (ZK w)).get? l = some { cls := .type "list", dict := odict, data := .seq items nl, slots := oslots } := Yf _ hol
    have hsls := F.sub_list_set
    have hslf := F.sub_list_frozenset
    have hne : (Value.type "list" == Value.type "dict") = false := by decide
    have hl1 : (s.heap.push (ZK w)).IsList l items := ⟨_, hol', rfl, nl, rfl⟩
    have hsz : items.size = ns.length := by rw [<- YG]; exact IntsAre.length hi
    unfold Builtin.«set.__init__» noKeywords Builtin.Frozenset.updateFrom
    generalize hPI : pyIter = PI
    wp_walk
    subst hPI
    refine wpAny_pyIter_list hl1 (Ya (wpAny_runValue ?_))
    have hlS : l < s.heap.objs.size := Ye hol
    have hz1 : (s.heap.push (ZK w)).objs.size = s.heap.objs.size + 1 := V5 ..
    have hneI : l ≠ (s.heap.push (ZK w)).objs.size := by rw [hz1]; exact Yk (Y3 hlS)
    have hSf : s.heap.objs.size ∉ [(s.heap.push (ZK w)).objs.size, l] := by
     rw [hz1]; simp only [List.mem_cons, List.not_mem_nil, or_false, not_or]; exact ⟨Nat.ne_of_lt (Nat.lt_succ_self _), Nat.ne_of_gt hlS⟩
    have W := (Walks.list (prog := prog) (w := w) (A := A.in1.in1.in1) (by simp [hh]) _ l hneI items).toS
    rw [hsz] at W
    refine ZjI W s.heap.objs.size hSf (fun i v hv => ?_) hb ns.length 0 _ (by omega) (YB _) ⟨⟨_, Ym _ rfl, rfl, rfl⟩, (hl1.push _)⟩ (SetI.fresh (Yf _ hS)) fun s' hm hS' => ?_
    ·have hlt : i < ns.length := by rw [<- hsz]; exact (Array.getElem?_eq_some_iff.mp hv).1
     obtain ⟨t, e⟩ := IntsAre.int_at hi i v (by rw [YF]; exact hv)
     exact ⟨ns[i], t, Yc hlt, by rw [e, List.getD_eq_getElem?_getD, Yc hlt]; rfl⟩
    ·obtain ⟨h', g', d', tk', os'⟩ := s'
     have eg : g' = s.gens := hm.gens
     have ed : d' = s.drawn := hm.drawn
     have eo : os' = s.os := hm.os
     subst eg; subst ed; subst eo
     show wpAny _ _ _ _ _ _
     refine Yb ?_
     show wpAny _ _ (ret Value.none) _ _ _
     refine Yb ⟨rfl, h', tk', rfl, hS', fun b o e => ?_⟩
     have hb := Ye e
     exact hm.heap b o (by rw [hz1]; simp only [List.mem_cons, List.not_mem_nil, or_false, not_or]; exact ⟨Nat.ne_of_lt hb, Nat.ne_of_lt (Nat.lt_succ_of_lt hb)⟩) (Heap.get?_push_of_some _ (Heap.get?_push_of_some _ e))
   ·cases r₂ with
    | error e => exact hr₂
    | ok fl₂ =>
     cases fl₂ with
     | ret r =>
      obtain ⟨rfl, h', tk, rfl, hS', hk'⟩ := hr₂
      repeat (any_goals (first | assumption | wp_step))
      exact h _ _ hS' hk'
     | _ => exact hr₂.elim
  | _ => exact hr.elim
end
end My
namespace My
open PySem PySem.Spec
open PyProof.Rows hiding St
theorem Zco : Manifest.owners.lookup (String.ofList ['r', 'o', 't', 'a', 'r', 'e', 't', 'i', '_', 't', 'e', 's'].reverse) = some Manifest.sig_set_iterator := by kernel_rfl
theorem slot_setit_next : Slot "set_iterator" "__next__" "set_iterator.__next__" :=
 .of (owner := "set_iterator") (n := "__next__") (by rw [typeLookup_type, builtinLookup_eq_fast]; kernel_rfl) (by decide +kernel) (by decide +kernel) (by decide +kernel)
  (by first | exact .inl (by decide +kernel) | exact .inr (by decide +kernel)) (by rw [isSubtype_type]; kernel_rfl)
theorem Zal : entryFor table "set_iterator.__next__" = some Builtin.«set_iterator.__next__» := entryFor_of_tree (by kernel_rfl)
theorem Zan (a : Value) : argsOk "set_iterator.__next__" ⟨[a], []⟩ := by
 unfold argsOk; rw [signature?_of (id := "set_iterator.__next__") (n := ['_', '_', 't', 'x', 'e', 'n', '_', '_']) (o := ['r', 'o', 't', 'a', 'r', 'e', 't', 'i', '_', 't', 'e', 's']) (by kernel_rfl) Zco]; kernel_rfl
theorem ZaW : Slot "set_iterator" "__iter__" "set_iterator.__iter__" :=
 .of (owner := "set_iterator") (n := "__iter__") (by rw [typeLookup_type, builtinLookup_eq_fast]; kernel_rfl) (by decide +kernel) (by decide +kernel) (by decide +kernel)
  (by first | exact .inl (by decide +kernel) | exact .inr (by decide +kernel)) (by rw [isSubtype_type]; kernel_rfl)
theorem ZcU : entryFor table "set.__iter__" = some Builtin.«frozenset.__iter__» :=
 entryFor_alias (id' := "frozenset.__iter__") (by kernel_rfl) rfl (by decide +kernel) (by kernel_rfl)
theorem ZbR : entryFor table "set_iterator.__iter__" = some Builtin.«dict_keyiterator.__iter__» :=
 entryFor_alias (id' := "dict_keyiterator.__iter__") (by kernel_rfl) rfl (by decide +kernel) (by kernel_rfl)
theorem Zb6 (a : Value) : argsOk "set_iterator.__iter__" ⟨[a], []⟩ := by
 unfold argsOk; rw [signature?_of (id := "set_iterator.__iter__") (n := ['_', '_', 'r', 'e', 't', 'i', '_', '_']) (o := ['r', 'o', 't', 'a', 'r', 'e', 't', 'i', '_', 't', 'e', 's']) (by kernel_rfl) Zco]; kernel_rfl
theorem Zc3 {α : Type} {l : List α} {i : Nat} (h : i < l.length) : (l[i] :: l.eraseIdx i).Perm l := by
 rw [List.eraseIdx_eq_take_drop_succ]
 have e : l = l.take i ++ l[i] :: l.drop (i + 1) := by rw [List.getElem_cons_drop, Yaj]
 conv => rhs; rw [e]
 exact List.perm_middle.symm
section
variable {prog : Program} {w : World} {A : Around} {E : Value -> Shared -> Prop} {s : Shared}
theorem ZiS {src : Source} {n : Nat} {Q : Nat -> Shared -> Prop} (hn : n ≠ 0) (h : ∀ k d, k < n -> Q k { s with drawn := d }) : wpAny (model prog w) A (choose src n) Q E s :=
 fun _ _ _ => ⟨hn, h _ _ (Nat.mod_lt _ (Nat.pos_of_ne_zero hn))⟩
theorem Zbh {Q : Bool -> Shared -> Prop} (h : Q (byT w) s) : wpAny (model prog w) A setsByText Q E s := by
 unfold setsByText
 exact Ya (wpAny_askSetting (Yb h))
theorem ZdW {α : Type} : ∀ (n : Nat) (xs : List α) (s : Shared) {Q : List α -> Shared -> Prop}, xs.length <= n -> (∀ ys d, ys.Perm xs -> Q ys { s with drawn := d }) -> wpAny (model prog w) A (drawOrder n xs) Q E s := by
 intro n
 induction n with
 | zero =>
  intro xs s Q hl h
  have : xs = [] := Yaf.mp (by omega)
  subst this
  unfold drawOrder
  exact Yb (h [] s.drawn .nil)
 | succ n ih =>
  intro xs s Q hl h
  cases xs with
  | nil => unfold drawOrder; exact wpAny_pure (h [] s.drawn .nil)
  | cons x xs =>
   unfold drawOrder
   refine wpAny_bind (ZiS (by simp) fun k d hk => ?_)
   have e := Yc hk
   rw [e]
   dsimp only
   refine wpAny_bind (ih _ _ (by rw [List.length_eraseIdx, if_pos hk]; simp at hl ⊢; omega) fun ys d' hp => ?_)
   exact Yb (h _ d' ((hp.cons _).trans (Zc3 hk)))
theorem Zl7 {α : Type} (f : Nat -> Nat) : ∀ (n k : Nat) (xs : List α) (out : Array α), xs.length <= n -> (pickOrder.go f n k xs out).toList.Perm (out.toList ++ xs) := by
 intro n
 induction n with
 | zero =>
  intro k xs out hl
  have : xs = [] := Yaf.mp (by omega)
  subst this
  unfold pickOrder.go
  simp
 | succ n ih =>
  intro k xs out hl
  unfold pickOrder.go
  cases xs with
  | nil => simp
  | cons x xs =>
   have hk : f k % (x :: xs).length < (x :: xs).length := Nat.mod_lt _ (by simp)
   rw [Yc hk]
   dsimp only
   refine (ih _ _ _ (by rw [List.length_eraseIdx, if_pos hk]; simp at hl ⊢; omega)).trans ?_
   rw [Array.toList_push, List.append_assoc]
   exact List.Perm.append_left _ (Zc3 hk)
theorem ZhZ {α : Type} (f : Nat -> Nat) (xs : Array α) : (pickOrder f xs).toList.Perm xs.toList := by
 unfold pickOrder
 exact (Zl7 f _ _ _ _ (by simp)).trans (by simp)
def SN (prog : Program) (w : World) (a : Addr) (o : Obj) (ep : Nat) (f : Nat -> Nat) (L : List Value) : Prop :=
 ∀ (A : Around) (E : Value -> Shared -> Prop) (s : Shared) (Q : Option (Value × Nat) -> Shared -> Prop) (i : Nat), i <= L.length -> s.heap.get? a = some o -> Q ((L[i]?).map fun v => (v, f (i + 1))) s -> wpAny (model prog w) A (setNext a (f i) i ep) Q E s
theorem ZmA {a : Addr} {o : Obj} {es : Array (Int × Value)} {ep : Nat} {t : SetTable} (hd : o.data = .set es ep t) (hf : t.fits es.size = true) (hb : byT w = true) : SN prog w a o ep (fun _ => 0) ((pickOrder (w.params.setOrder a ep) es).toList.map (·.2)) := by
 intro A E s Q i hi ho h
 unfold setNext
 refine Ya (Vo ho hd hf ?_)
 dsimp only
 refine Ya (Zbh ?_)
 rw [hb, if_pos rfl, if_neg (by simp)]
 unfold setWalk
 refine Ya (Ya (Vo ho hd hf ?_))
 dsimp only
 refine Ya (Zbh ?_)
 rw [hb, if_pos rfl]
 refine Ya (wpAny_askSetting (Yb (Yb ?_)))
 rw [Yh, YF, Option.map_map] at h
 exact h
def ZbP (p : Array Nat) (i : Nat) : Nat := match i with
 | 0 => 0
 | i + 1 => p.getD i 0 + 1
theorem Zek {p : Array Nat} (h : Rise p.toList) {i : Nat} (hi : i <= p.size) : SetTable.below p (ZbP p i) = i := by
 obtain ⟨h1, h2, h3⟩ := ZcY p (ZbP p i) h
 generalize SetTable.below p (ZbP p i) = b at h1 h2 h3
 rcases Nat.lt_trichotomy b i with c | c | c
 ·have hb : b < p.size := by omega
  have e := Y9 hb
  have h4 := h3 _ _ (Yd b) e
  cases i with
  | zero => omega
  | succ i =>
   have hi' : i < p.size := by omega
   have e2 := Y9 hi'
   have hs : ZbP p (i + 1) = p[i] + 1 := by show p.getD i 0 + 1 = _; rw [VE, e2]; rfl
   rw [hs] at h4
   by_cases c2 : b = i
   ·subst c2; omega
   ·have := h.at (by rw [YF]; exact e) (by rw [YF]; exact e2) (show b < i by omega)
    omega
 ·exact c
 ·have hi' : i < p.size := by omega
  have e := Y9 hi'
  have h4 := h2 _ _ c e
  cases i with
  | zero => exact absurd h4 (V1 _)
  | succ i =>
   have hi2 : i < p.size := by omega
   have e2 := Y9 hi2
   have hs : ZbP p (i + 1) = p[i] + 1 := by show p.getD i 0 + 1 = _; rw [VE, e2]; rfl
   rw [hs] at h4
   have := h.at (by rw [YF]; exact e2) (by rw [YF]; exact e) (VN i)
   omega
theorem ZjB {a : Addr} {o : Obj} {es : Array (Int × Value)} {ep : Nat} {t : SetTable} (hd : o.data = .set es ep t) (hf : t.fits es.size = true) (hT : TOk (!byT w) t) (hb : byT w = false) (hp : (!t.plain && decide (es.size > 1)) = false) :
  SN prog w a o ep (ZbP t.place) (es.toList.map (·.2)) := by
 intro A E s Q i hi ho h
 have hz : t.place.size = es.size := by simp only [SetTable.fits, Bool.and_eq_true, beq_iff_eq] at hf; exact hf.1
 have hl : t.led = true := by rw [hT.2.2, hb]; rfl
 unfold setNext
 refine Ya (Vo ho hd hf ?_)
 dsimp only
 refine Ya (Zbh ?_)
 rw [hb, if_neg (by decide)]
 refine VQ (fun c => absurd (hp.symm.trans c) (by decide)) (fun _ => ?_)
 refine Ya ?_
 show wpAny _ _ (if (!t.led && !es.isEmpty) = true then unsupported _ else pure ()) _ _ _
 rw [hl, if_neg (by simp)]
 refine Yb (Yb ?_)
 rw [Zek hT.1 (by rw [hz]; simpa using hi)]
 rw [Yh, YF] at h
 by_cases c : i < es.size
 ·have e := Y9 c
  have e2 := Y9 (show i < t.place.size by rw [hz]; exact c)
  rw [e, e2]
  rw [e] at h
  have hs : ZbP t.place (i + 1) = t.place[i] + 1 := by show t.place.getD i 0 + 1 = _; rw [VE, e2]; rfl
  rw [hs] at h
  exact h
 ·rw [Array.getElem?_eq_none (by omega)] at h ⊢
  exact h
abbrev ZcW (f : Value) (i : Nat) (a : Addr) (n ep : Nat) : Obj := { cls := .type "set_iterator", dict := none, data := .fields #[f, .int i 0, .ref a, .int n 0, .int ep 0], slots := #[] }
theorem Zit {I a : Addr} {o : Obj} {es : Array (Int × Value)} {ep : Nat} {t : SetTable} {f : Nat -> Nat} {L : List Value} {i : Nat} {v : Value} {Q : Option Value -> Shared -> Prop} (hne : I ≠ a) (hd : o.data = .set es ep t) (hf : t.fits es.size = true) (hsn : SN prog w a o ep f L) (hl : L.length = es.size)
  (hit : s.heap.get? I = some (ZcW (.int (f i) 0) i a es.size ep)) (ho : s.heap.get? a = some o) (hi : L[i]? = some v)
  (h : ∀ h', h'.get? I = some (ZcW (.int (f (i + 1)) 0) (i + 1) a es.size ep) -> Heap.SameBut I s.heap h' -> Q (some v) { s with heap := h' }) : wpAny (model prog w) A (pyNext (.ref I)) Q E s := by
 have hty : s.TypeIs (.ref I) "set_iterator" := ⟨_, hit, rfl⟩
 unfold pyNext
 refine Ya (Yaa (VX (name := Str.ofString "__next__") hty slot_setit_next (YU slot_setit_next hty Zal ?_ (Zan _))))
 unfold Builtin.«set_iterator.__next__»
 refine Ya (Yb ?_)
 refine Ya (wpAny_fieldsOf hit rfl ?_)
 dsimp only
 refine Ya (Y2 ho hd hf ?_)
 rw [if_neg (by simp)]
 have hil : i < L.length := (Yg.mp hi).1
 refine Ya (hsn _ _ s _ i (Yr hil) ho ?_)
 rw [hi]
 dsimp only [Option.map]
 refine wpAny_bind (wpAny_setField_rec hit (by simp) fun h1 g1 sb1 => ?_)
 refine wpAny_bind (wpAny_setField_rec (s := { s with heap := h1 }) g1 (by simp) fun h2 g2 sb2 => ?_)
 refine Yb ⟨_, rfl, Yb (h h2 ?_ (sb1.trans sb2))⟩
 rw [g2]
 simp [rawInt]
theorem Zkz {I a : Addr} {o : Obj} {es : Array (Int × Value)} {ep : Nat} {t : SetTable} {f : Nat -> Nat} {L : List Value} {Q : Option Value -> Shared -> Prop} (hh : A.handled = none) (hd : o.data = .set es ep t) (hf : t.fits es.size = true) (hsn : SN prog w a o ep f L) (hl : L.length = es.size)
  (hit : s.heap.get? I = some (ZcW (.int (f L.length) 0) L.length a es.size ep)) (ho : s.heap.get? a = some o) (h : ∀ h', Heap.ExtBut I s.heap h' -> Q none { s with heap := h' }) : wpAny (model prog w) A (pyNext (.ref I)) Q E s := by
 have hty : s.TypeIs (.ref I) "set_iterator" := ⟨_, hit, rfl⟩
 unfold pyNext
 refine Ya (Yaa (VX (name := Str.ofString "__next__") hty slot_setit_next (YU slot_setit_next hty Zal ?_ (Zan _))))
 unfold Builtin.«set_iterator.__next__»
 refine Ya (Yb ?_)
 refine Ya (wpAny_fieldsOf hit rfl ?_)
 dsimp only
 refine Ya (Y2 ho hd hf ?_)
 rw [if_neg (by simp)]
 refine Ya (hsn _ _ s _ L.length (Yd _) ho ?_)
 rw [Y0 (Yd _)]
 dsimp only [Option.map]
 refine wpAny_bind (wpAny_setField_rec hit (by simp) fun h1 g1 sb1 => ?_)
 refine Ya ?_
 simp only [newExc, newTuple]
 refine Ya (YT ?_ (by size_fits))
 refine wpAny_bind (m := firstArgMember _ _) (wpAny_of_eq (a := Value.none) (by first | rfl | (simp only [firstArgMember]; rfl)) ?_)
 refine YT ?_ (by size_fits)
 simp only [raiseNew]
 refine Ya (wpAny_handled ?_)
 rw [show A.in1.handled = none from hh]
 refine Ya (Yb (wpAny_throw ?_))
 refine Ya (VA (T := "StopIteration") (b := true) ⟨_, Ym _ rfl, rfl⟩ isSubtype_stop ?_)
 exact Yb (h _ ((sb1.extBut.push _).push _))
theorem ZhT {I a : Addr} {f : Value} {i n ep : Nat} {Q : Value -> Shared -> Prop} (hit : s.heap.get? I = some (ZcW f i a n ep)) (h : Q (.ref I) s) : wpAny (model prog w) A (pyIter (.ref I)) Q E s := by
 have hty : s.TypeIs (.ref I) "set_iterator" := ⟨_, hit, rfl⟩
 refine wpAny_pyIter_slot hty ZaW (YU ZaW hty ZbR ?_ (Zb6 _))
 show wpAny _ _ (ret (.ref I)) _ _ s
 exact Yb ⟨_, rfl, "set_iterator", _, hty, slot_setit_next.lookup, h⟩
theorem ZjV (hh : A.handled = none) {I a : Addr} {o : Obj} {es : Array (Int × Value)} {ep : Nat} {t : SetTable} {f : Nat -> Nat} {L : List Value} (hne : I ≠ a) (hd : o.data = .set es ep t) (hf : t.fits es.size = true) (hsn : SN prog w a o ep f L) (hl : L.length = es.size) :
  Walks prog w A I [I, a] [I] L.length (fun i v => L[i]? = some v) (fun i h => h.get? I = some (ZcW (.int (f i) 0) i a es.size ep) /\ h.get? a = some o) where
 sub := fun b hb => by simp only [List.mem_singleton] at hb; subst hb; simp
 frame := fun i h h' ⟨h1, h2⟩ hk => ⟨hk I (by simp) _ h1, hk a (by simp) _ h2⟩
 item := fun i s Q E hi ⟨h1, h2⟩ hQ => Zit hne hd hf hsn hl h1 h2 (Yc hi) fun h' g sb => by
  have := hQ _ h' s.toks (List.getElem?_eq_getElem hi) ⟨g, by rw [sb.2 a (fun z => hne z.symm)]; exact h2⟩ fun b o hb e => by rw [sb.2 b (fun z => hb (by rw [z]; simp))]; exact e
  exact this
 done := fun s Q E ⟨h1, h2⟩ hQ => Zkz hh hd hf hsn hl h1 h2 fun h' x => by
  have := hQ h' s.toks fun b o hb e => x b o (fun z => hb (by rw [z]; simp)) e
  exact this
 self := fun i s Q E ⟨h1, h2⟩ hQ => ZhT h1 hQ
theorem Zgw {I a T : Addr} {o oT : Obj} {es : Array (Int × Value)} {ep c : Nat} {t : SetTable} {ps : List Nat} {i p : Nat} {x : Int × Value} {Q : Option Value -> Shared -> Prop} (hd : o.data = .set es ep t) (hf : t.fits es.size = true) (hT : oT.data = .seq (ps.map fun k : Nat => rawInt k).toArray c)
  (hit : s.heap.get? I = some (ZcW (.ref T) i a es.size ep)) (ho : s.heap.get? a = some o) (hoT : s.heap.get? T = some oT) (hi : ps[i]? = some p) (hx : es[p]? = some x)
  (h : ∀ h', h'.get? I = some (ZcW (.ref T) (i + 1) a es.size ep) -> Heap.SameBut I s.heap h' -> Q (some x.2) { s with heap := h' }) : wpAny (model prog w) A (pyNext (.ref I)) Q E s := by
 have hty : s.TypeIs (.ref I) "set_iterator" := ⟨_, hit, rfl⟩
 unfold pyNext
 refine Ya (Yaa (VX (name := Str.ofString "__next__") hty slot_setit_next (YU slot_setit_next hty Zal ?_ (Zan _))))
 unfold Builtin.«set_iterator.__next__»
 refine Ya (Yb ?_)
 refine Ya (wpAny_fieldsOf hit rfl ?_)
 dsimp only
 refine Ya (Y2 ho hd hf ?_)
 rw [if_neg (by simp)]
 unfold seqItems?
 dsimp only
 refine Ya (Ya (VD hoT ?_))
 rw [hT]
 refine Yb ?_
 dsimp only
 rw [List.getElem?_toArray, Yh, VM, hi]
 dsimp only [Option.map, rawInt]
 refine Ya ?_
 unfold setNextDrawn
 refine Ya (Vo ho hd hf ?_)
 dsimp only
 rw [if_neg (by simp), Int.toNat_natCast, hx]
 refine Yb ?_
 refine wpAny_bind (wpAny_setField_rec hit (by simp) fun h1 g1 sb1 => ?_)
 refine Yb ⟨_, rfl, Yb (h h1 ?_ sb1)⟩
 rw [g1]
 simp
theorem ZhY {I a T : Addr} {o oT : Obj} {es : Array (Int × Value)} {ep c : Nat} {t : SetTable} {ps : List Nat} {Q : Option Value -> Shared -> Prop} (hh : A.handled = none) (hd : o.data = .set es ep t) (hf : t.fits es.size = true) (hT : oT.data = .seq (ps.map fun k : Nat => rawInt k).toArray c)
  (hit : s.heap.get? I = some (ZcW (.ref T) ps.length a es.size ep)) (ho : s.heap.get? a = some o) (hoT : s.heap.get? T = some oT) (h : ∀ h', Heap.ExtBut I s.heap h' -> Q none { s with heap := h' }) : wpAny (model prog w) A (pyNext (.ref I)) Q E s := by
 have hty : s.TypeIs (.ref I) "set_iterator" := ⟨_, hit, rfl⟩
 unfold pyNext
 refine Ya (Yaa (VX (name := Str.ofString "__next__") hty slot_setit_next (YU slot_setit_next hty Zal ?_ (Zan _))))
 unfold Builtin.«set_iterator.__next__»
 refine Ya (Yb ?_)
 refine Ya (wpAny_fieldsOf hit rfl ?_)
 dsimp only
 refine Ya (Y2 ho hd hf ?_)
 rw [if_neg (by simp)]
 unfold seqItems?
 dsimp only
 refine Ya (Ya (VD hoT ?_))
 rw [hT]
 refine Yb ?_
 dsimp only
 rw [List.getElem?_toArray, Yh, VM, Y0 (Yd _)]
 dsimp only [Option.map]
 refine wpAny_bind (wpAny_setField_rec hit (by simp) fun h0 g0 sb0 => ?_)
 refine wpAny_bind (wpAny_setField_rec (s := { s with heap := h0 }) g0 (by simp) fun h1 g1 sb1 => ?_)
 refine Ya ?_
 simp only [newExc, newTuple]
 refine Ya (YT ?_ (by size_fits))
 refine wpAny_bind (m := firstArgMember _ _) (wpAny_of_eq (a := Value.none) (by first | rfl | (simp only [firstArgMember]; rfl)) ?_)
 refine YT ?_ (by size_fits)
 simp only [raiseNew]
 refine Ya (wpAny_handled ?_)
 rw [show A.in1.handled = none from hh]
 refine Ya (Yb (wpAny_throw ?_))
 refine Ya (VA (T := "StopIteration") (b := true) ⟨_, Ym _ rfl, rfl⟩ isSubtype_stop ?_)
 exact Yb (h _ (((sb0.trans sb1).extBut.push _).push _))
theorem ZeJ (hh : A.handled = none) {I a T : Addr} {o oT : Obj} {es : Array (Int × Value)} {ep c : Nat} {t : SetTable} {ps : List Nat} (hne : I ≠ a) (hnT : I ≠ T) (hd : o.data = .set es ep t) (hf : t.fits es.size = true) (hT : oT.data = .seq (ps.map fun k : Nat => rawInt k).toArray c)
  (hps : ∀ (i p : Nat), ps[i]? = some p -> p < es.size) :
  Walks prog w A I [I, a, T] [I] ps.length (fun i v => ∃ p x, ps[i]? = some p /\ es[p]? = some x /\ v = x.2) (fun i h => h.get? I = some (ZcW (.ref T) i a es.size ep) /\ h.get? a = some o /\ h.get? T = some oT) where
 sub := fun b hb => by simp only [List.mem_singleton] at hb; subst hb; simp
 frame := fun i h h' ⟨h1, h2, h3⟩ hk => ⟨hk I (by simp) _ h1, hk a (by simp) _ h2, hk T (by simp) _ h3⟩
 item := fun i s Q E hi ⟨h1, h2, h3⟩ hQ => by
  have e := Yc hi
  have e2 := Y9 (hps i _ e)
  refine Zgw hd hf hT h1 h2 h3 e e2 fun h' g sb => ?_
  have := hQ _ h' s.toks ⟨_, _, e, e2, rfl⟩ ⟨g, by rw [sb.2 a (fun z => hne z.symm)]; exact h2, by rw [sb.2 T (fun z => hnT z.symm)]; exact h3⟩ fun b o hb e => by rw [sb.2 b (fun z => hb (by rw [z]; simp))]; exact e
  exact this
 done := fun s Q E ⟨h1, h2, h3⟩ hQ => ZhY hh hd hf hT h1 h2 h3 fun h' x => by
  have := hQ h' s.toks fun b o hb e => x b o (fun z => hb (by rw [z]; simp)) e
  exact this
 self := fun i s Q E ⟨h1, h2⟩ hQ => ZhT h1 hQ
theorem Zg8 : ∀ {es : List (Int × Value)}, AllI prog w es -> IntsAre (es.map (·.2)) (es.map JB)
 | [], _ => .nil
 | e :: es, h => by
  obtain ⟨k, t, h1, _⟩ := h e (Vc ..)
  have h3 : JB e = k := by unfold JB; rw [h1]
  rw [Yq, Yq, h1, h3]
  exact .cons k t (Zg8 fun x hx => h x (Y1 _ hx))
theorem Zlz {es : Array (Int × Value)} : ∀ {ps : List Nat}, (∀ (i p : Nat), ps[i]? = some p -> p < es.size) -> ∀ vs : List Value, vs.length = ps.length -> (∀ (i : Nat) v, vs[i]? = some v -> ∃ p x, ps[i]? = some p /\ es[p]? = some x /\ v = x.2) -> vs = (ps.filterMap (es[·]?)).map (·.2)
 | [], _, vs, hl, _ => by rw [Yaf.mp hl]; rfl
 | p :: ps, hps, vs, hl, hv => by
  cases vs with
  | nil => cases hl
  | cons v vs =>
   obtain ⟨p', x, e1, e2, rfl⟩ := hv 0 v rfl
   cases e1
   rw [YaA, e2]
   dsimp only
   rw [List.map_cons, <- Zlz (fun i p h => hps (i + 1) p h) vs (by simpa using hl) fun i v h => hv (i + 1) v h]
theorem Zj2 {a : Addr} {S : Int -> Prop} {n : Nat} {Q : Value -> Shared -> Prop} (hh : A.handled = none) (hS : SetI prog w s.heap a S n) (hn : n < scanBound)
  (h : ∀ (h' : Heap) d (I : Addr) (fp : List Addr) (m : Nat) (P : Nat -> Value -> Prop) (St : Nat -> Heap -> Prop), (∀ b o, s.heap.get? b = some o -> h'.get? b = some o) -> Walks prog w A I fp [I] m P St -> St 0 h' -> s.heap.objs.size <= I -> (∀ b ∈ fp, b = a \/ s.heap.objs.size <= b) -> (∀ b ∈ fp, b < h'.objs.size) ->
   m <= n -> (∀ vs : List Value, vs.length = m -> (∀ (i : Nat) v, vs[i]? = some v -> P i v) -> ∃ ks : List Int, IntsAre vs ks /\ ks.Nodup /\ ∀ k, k ∈ ks ↔ S k) -> Q (.ref I) { s with heap := h', drawn := d }) :
  wpAny (model prog w) A (pyIter (.ref a)) Q E s := by
 obtain ⟨o, es, ep, t, ho, hex, hd, hT, hf, hA, hN, hM, hz⟩ := id hS
 have hty : s.TypeIs (.ref a) "set" := ⟨_, ho, hex.1⟩
 refine wpAny_pyIter_slot hty F.slot_set_iter (YU F.slot_set_iter hty ZcU ?_ (F.args_set_iter_1 _))
 unfold Builtin.«frozenset.__iter__» Builtin.Frozenset.slot0 Builtin.Frozenset.sizeOf
 refine Ya (Ya (Yb (Yb ?_)))
 refine Ya (Ya (Y2 ho hd hf (Yb ?_)))
 unfold setDrawn
 refine Ya (Ya (Vo ho hd hf ?_))
 dsimp only
 refine Ya (Zbh (Yb ?_))
 have hlt : a < s.heap.objs.size := Ye ho
 have told : ∀ (es' : List (Int × Value)), es'.Perm es.toList -> ∀ vs : List Value, vs = es'.map (·.2) -> ∃ ks : List Int, IntsAre vs ks /\ ks.Nodup /\ ∀ k, k ∈ ks ↔ S k := fun es' hp vs hv =>
  ⟨es'.map JB, by rw [hv]; exact Zg8 (hA.perm hp), (hp.map JB).nodup_iff.mpr hN, fun k => ((hp.map JB).mem_iff).trans (hM k)⟩
 have plain : ∀ (f : Nat -> Nat) (es' : List (Int × Value)), es'.Perm es.toList -> f 0 = 0 -> SN prog w a o ep f (es'.map (·.2)) -> wpAny (model prog w) A.in1 (do
   let first <- pure (rawInt 0)
   let __do_lift <- setEpoch a
   let __do_lift <- newFields "set_iterator" [first, rawInt 0, Value.ref a, rawInt ↑es.size, rawInt ↑__do_lift]
   ret __do_lift) (fun fin s' => ∃ v, fin = Fin.done (Flow.ret v) /\ ∃ T' r, s'.TypeIs v T' /\ typeLookup (Value.type T') (Str.ofString "__next__") = pure (some r) /\ Q v s') E s := by
  intro f es' hp hf0 hsn
  refine Ya (Yb (Ya (Yav ho hd hf (Ya ?_))))
  unfold newFields
  refine YT (Yb ⟨_, rfl, "set_iterator", _, ⟨_, Ym _ rfl, rfl⟩, slot_setit_next.lookup, ?_⟩)
  have hl : (es'.map (·.2)).length = es.size := by rw [Yi, hp.length_eq, YG]
  have key := h (s.heap.push (ZcW (.int (f 0) 0) 0 a es.size ep)) s.drawn s.heap.objs.size [s.heap.objs.size, a] _ _ _ (fun b o e => Yf _ e) (ZjV hh (Vl hlt) hd hf hsn hl) ⟨Ym _ rfl, Yf _ ho⟩ (Yd _)
   (fun b hb => by simp only [List.mem_cons, List.not_mem_nil, or_false] at hb; rcases hb with rfl | rfl; exact .inr (Nat.le_refl _); exact .inl rfl)
   (fun b hb => by rw [Heap.size_push]; simp only [List.mem_cons, List.not_mem_nil, or_false] at hb; rcases hb with rfl | rfl; exact Nat.lt_succ_self _; exact Nat.lt_succ_of_lt hlt)
   (by rw [hl]; exact hz) (fun vs hvl hv => told es' hp vs (Yar fun i => by
    by_cases c : i < vs.length
    ·rw [Yc c, hv i _ (Yc c)]
    ·rw [Y0 (by omega), Y0 (by omega)]))
  rw [hf0] at key
  exact key
 cases hb : byT w with
 | true =>
  rw [if_neg (by simp)]
  exact plain (fun _ => 0) _ (ZhZ (w.params.setOrder a ep) es) rfl (ZmA hd hf hb)
 | false =>
  refine VQ (fun c => ?_) (fun c => ?_)
  ·refine wpAny_bind (ZdW _ _ _ (by simp) fun ps d hp => ?_)
   have hpl : ps.length = es.size := by rw [hp.length_eq, List.length_range]
   have hz2 : (ps.map fun i : Nat => rawInt i).length <= sizeLine := by rw [Yi, hpl]; exact fits_of_scanBound (Yy hz hn)
   refine Ya (wpAny_newTuple ?_ hz2)
   refine Ya (Yav (Yf _ ho) hd hf (Ya ?_))
   unfold newFields
   refine YT (Yb ⟨_, rfl, "set_iterator", _, ⟨_, Ym _ rfl, rfl⟩, slot_setit_next.lookup, ?_⟩)
   have hps : ∀ (i p : Nat), ps[i]? = some p -> p < es.size := fun i p e => Vj.mp (hp.mem_iff.mp (Yo e))
   have hz1 : (s.heap.push { cls := .type "tuple", data := .seq (ps.map fun i : Nat => rawInt i).toArray }).objs.size = s.heap.objs.size + 1 := V5 ..
   refine h _ d (s.heap.push _).objs.size [(s.heap.push _).objs.size, a, s.heap.objs.size] _ _ _ (fun b o e => Yf _ (Yf _ e)) (ZeJ hh (ps := ps) (c := 0) ?_ ?_ hd hf rfl hps) ⟨Ym _ rfl, Yf _ (Yf _ ho), Yf _ (Ym _ rfl)⟩ ?_ ?_ ?_ (by rw [hpl]; exact hz) fun vs hvl hv => ?_
   ·rw [hz1]; exact Vl (Y3 hlt)
   ·rw [hz1]; exact Nat.succ_ne_self _
   ·rw [hz1]; exact Vr _
   ·intro b hb
    rw [hz1] at hb
    simp only [List.mem_cons, List.not_mem_nil, or_false] at hb
    rcases hb with rfl | rfl | rfl
    ·exact .inr (Vr _)
    ·exact .inl rfl
    ·exact .inr (Yd _)
   ·intro b hb
    rw [hz1] at hb
    rw [V5, hz1]
    simp only [List.mem_cons, List.not_mem_nil, or_false] at hb
    rcases hb with rfl | rfl | rfl
    ·exact VN _
    ·exact Y3 (Y3 hlt)
    ·exact Y3 (VN _)
   ·refine told (ps.filterMap (es[·]?)) ((hp.filterMap _).trans (by rw [filterMap_getElem?_range])) vs ?_
    exact Zlz hps vs hvl hv
  ·exact plain (ZbP t.place) es.toList (.refl _) rfl (ZjB hd hf hT hb (by cases q : (!t.plain && decide (es.size > 1)) with | false => rfl | true => exact absurd (show (!false && (!t.plain && decide (es.size > 1))) = true by rw [q]; rfl) c))
end
end My
namespace My
open PySem PySem.Spec
open PyProof.Rows hiding St
section
variable {prog : Program} {w : World} {A : Around} {E : Value -> Shared -> Prop} {s : Shared}
theorem Zj1 {r : Addr} {Q : Bool -> Shared -> Prop} (hT : s.TypeIs (.ref r) "set") (h : Q false s) : wpAny (model prog w) A (Builtin.List.listLengthHint (.ref r)) Q E s := by
 unfold Builtin.List.listLengthHint
 refine Ya (wpAny_specialOf hT (show typeLookup (.type "set") "__len__" = pure (some (.builtin "set.__len__")) from by rw [typeLookup_type, builtinLookup_eq_fast]; kernel_rfl) ?_)
 generalize hid : ("set.__len__" : String) = id0
 wp_delta
 rw [show splitId id0 = some ("set", "__len__") from by subst hid; decide +kernel]
 subst hid
 refine Ya (VA (T := "set") (b := true) hT (by rw [isSubtype_type]; kernel_rfl) ?_)
 refine VQ (fun hab => absurd hab (by decide)) (fun _ => ?_)
 refine VQ (fun _ => ?_) (fun hab => absurd (by decide +kernel) hab)
 refine Ya (wpAny_typeOf hT ?_)
 exact Yb h
theorem SetI.type {a : Addr} {S : Int -> Prop} {n : Nat} (x : SetI prog w s.heap a S n) : s.TypeIs (.ref a) "set" := let ⟨o, _, _, _, ho, hex, _⟩ := x; ⟨o, ho, hex.1⟩
abbrev ZcE (c : Nat) : Obj := { cls := .type "list", data := .seq #[] c }
theorem ZgD {a L : Addr} {S : Int -> Prop} {n c₀ : Nat} {res : Value} {R : Result -> Shared -> Prop} (hh : A.handled = none) (hS : SetI prog w s.heap a S n) (hn : n < scanBound) (hLa : L ≠ a) (hL : s.heap.get? L = some (ZcE c₀))
  (hR : ∀ h' d tk (acc : Array Value) (ks : List Int) c', (∀ b o, b ≠ L -> s.heap.get? b = some o -> h'.get? b = some o) -> h'.get? L = some { cls := .type "list", dict := none, data := .seq acc c', slots := #[] } -> IntsAre acc.toList ks -> ks.Nodup -> (∀ k, k ∈ ks ↔ S k) -> acc.size <= n ->
   R (.ok (.ret res)) { s with heap := h', drawn := d, toks := tk }) :
  wpAny (model prog w) A.in1 (Builtin.List.listExtendWith (.ref L) (.ref a) res)
   (fun fin s' => match fin with | .done f => R (.ok f) s' | .again c' => c'.quiet = true /\ codeAny (model prog w) A c' R s') (fun e s' => R (.error e) s') s := by
 unfold Builtin.List.listExtendWith
 refine Ya (wpAny_typeOf (T := "set") hS.type ?_)
 have h1 : Builtin.List.listSameRef (.ref L) (.ref a) = false := by simp [Builtin.List.listSameRef, hLa]
 have h2 : (Value.type "set" == Value.type "list") = false := by decide
 have h3 : (Value.type "set" == Value.type "tuple") = false := by decide
 simp only [h1, h2, h3, Bool.or_false, Bool.false_eq_true, if_false]
 have hLlt := Ye hL
 refine Ya (Zj2 (A := A.in1) hh hS hn fun h' d I fp m P St hk W hst hI hfp hfp2 hm told => ?_)
 have hLf : L ∉ fp := fun z => by
  rcases hfp L z with e | e
  ·exact hLa e
  ·exact absurd hLlt (Nat.not_lt.mpr e)
 have hL1 : h'.get? L = some (ZcE c₀) := hk _ _ hL
 have key : ∀ (h1 : Heap) (c₁ : Nat), (∀ b o, b ≠ L -> h'.get? b = some o -> h1.get? b = some o) -> h1.get? L = some (ZcE c₁) -> codeAny (model prog w) A (.builtin "list.extend.loop" ⟨[.ref L, .ref I, res], []⟩) R { s with heap := h1, drawn := d } := by
  intro h1 c₁ k1 g1
  refine codeAny_extend_loopS W.toS (fits_of_scanBound (Yy hm hn)) L hLf res m 0 _ #[] c₁ rfl (YB _) (W.frame 0 h' h1 hst fun b hb o e => k1 b o (fun z => hLf (z ▸ hb)) e) g1 (ItemsOf.nil _) fun s' acc' c' hmv g' hacc => ?_
  rw [Moved.eq_with hmv]
  obtain ⟨ks, i1, i2, i3⟩ := told acc'.toList (by rw [YG]; exact hacc.1) fun j v e => hacc.2 j v (by rw [<- YF]; exact e)
  refine hR s'.heap d s'.toks acc' ks c' (fun b o hb e => hmv.heap b o (fun z => ?_) (k1 b o hb (hk b o e))) g' i1 i2 i3 (by rw [hacc.1]; exact hm)
  rcases Yn.mp z with z | z
  ·exact hb z
  ·rw [YH.mp z] at e
   exact absurd (Ye e) (Nat.not_lt.mpr hI)
 have hS' : SetI prog w h' a S n := hS.keep fun o e => hk _ _ e
 refine Ya (YJ (Zj1 (s := { s with heap := h', drawn := d }) hS'.type ?_))
 refine VQ (fun _ => ?_) (fun _ => Yb ⟨VV F.plain_extend_loop _, key h' c₀ (fun b o _ e => e) hL1⟩)
 refine Ya (Vs (Ya ?_))
 show wpAny _ _ (updateSeq L (·.push .none) >>= fun _ => updateSeq L (·.pop)) _ _ _
 refine Ya (wpAny_updateSeq hL1 rfl ?_)
 have g2 := Yan (Obj.mapSeq (·.push Value.none)) hL1 rfl
 refine wpAny_updateSeq (hz := by seq_fits) g2 rfl ?_
 have g3 := Yan (Obj.mapSeq (·.pop)) g2 rfl
 exact Yb ⟨VV F.plain_extend_loop _, key _ _ (fun b o hb e => (Vm _ _ (Ne.symm hb)).trans ((Vm _ _ (Ne.symm hb)).trans e)) g3⟩
theorem Ze4 {a : Addr} {S : Int -> Prop} {n : Nat} {Q : List Value -> Shared -> Prop} (hh : A.handled = none) (hS : SetI prog w s.heap a S n) (hn : n < scanBound)
  (h : ∀ h' d tk (vs : List Value) (ks : List Int), (∀ b o, s.heap.get? b = some o -> h'.get? b = some o) -> IntsAre vs ks -> ks.Nodup -> (∀ k, k ∈ ks ↔ S k) -> vs.length <= n -> s.heap.objs.size <= h'.objs.size -> Q vs { s with heap := h', drawn := d, toks := tk }) :
  wpAny (model prog w) A (collect (.ref a)) Q E s := by
 unfold collect
 refine Ya (wpAny_runValue (Vi entry_proto_collect' ?_))
 rw [Vw F.plain_proto_collect _]
 show wpAny _ A.in1 (newList [] >>= fun l => again (.builtin "list.__iadd__" ⟨[l, .ref a], []⟩)) _ _ s
 refine Ya (YT ?_)
 refine Yb ⟨VV Yaz _, Vi entry_list_iadd' ?_⟩
 rw [Vw Yaz _]
 show wpAny _ A.in1 (Builtin.List.listExtendWith (.ref s.heap.objs.size) (.ref a) (.ref s.heap.objs.size)) _ _ _
 have key := ZgD (A := A) (s := { s with heap := s.heap.push (ZcE 0) }) (L := s.heap.objs.size) (c₀ := 0) (res := .ref s.heap.objs.size) (n := n) (S := S)
  (R := fun (q : Result) (s' : Shared) => ∃ (h' : Heap) (d : Drawn) (tk : Nat) (acc : Array Value) (ks : List Int) (c' : Nat), q = .ok (.ret (.ref s.heap.objs.size)) /\ s' = { s with heap := h', drawn := d, toks := tk } /\ (∀ b o, s.heap.get? b = some o -> h'.get? b = some o) /\
   h'.get? s.heap.objs.size = some { cls := .type "list", dict := none, data := .seq acc c', slots := #[] } /\ IntsAre acc.toList ks /\ ks.Nodup /\ (∀ k, k ∈ ks ↔ S k) /\ acc.size <= n)
  hh (hS.keep fun o e => Yf _ e) hn (Vl hS.lt) (Ym _ rfl)
  (fun h' d tk acc ks c' hk g i1 i2 i3 i4 => ⟨h', d, tk, acc, ks, c', rfl, rfl, fun b o e => hk b o (Yk (Ye e)) (Yf _ e), g, i1, i2, i3, i4⟩)
 refine Yu key (fun fin s' x => ?_) fun e s' x => ?_
 ·cases fin with
  | done f =>
   obtain ⟨h', d, tk, acc, ks, c', e, rfl, hk, g, i1, i2, i3, i4⟩ := x
   cases e
   show wpAny _ A (load s.heap.objs.size >>= _) _ _ _
   exact Ya (VD g (Yb (h h' d tk acc.toList ks hk i1 i2 i3 (by rw [YG]; exact i4) (Yr (Ye g)))))
  | again c₁ =>
   refine ⟨x.1, YV x.2 fun q s₂ y => ?_⟩
   obtain ⟨h', d, tk, acc, ks, c', rfl, rfl, hk, g, i1, i2, i3, i4⟩ := y
   show wpAny _ A (load s.heap.objs.size >>= _) _ _ _
   exact Ya (VD g (Yb (h h' d tk acc.toList ks hk i1 i2 i3 (by rw [YG]; exact i4) (Yr (Ye g)))))
 ·obtain ⟨_, _, _, _, _, _, e', _⟩ := x
  cases e'
theorem ZcX {ks : List Int} (h : ks.Pairwise (· <= ·)) (hn : ks.Nodup) : ks.Pairwise (· < ·) := by
 have := List.Pairwise.and h hn
 exact this.imp fun ⟨h1, h2⟩ => Int.lt_iff_le_and_ne.mpr ⟨h1, h2⟩
theorem ZaL {h : Heap} {a b : Addr} {o : Obj} {vs : List Value} {out : Array Value} (hb : b ≠ a) (e : h.get? b = some o) : (sortedHeap h a vs out).get? b = some o := by
 unfold sortedHeap
 exact (Vm _ _ (Ne.symm hb)).trans (Yf _ (Yf _ ((Vm _ _ (Ne.symm hb)).trans e)))
theorem Zbk {h : Heap} {a : Addr} {vs : List Value} {n : Nat} {out : Array Value} (e : h.get? a = some (seqObj "list" vs.toArray n)) : ∃ c, (sortedHeap h a vs out).get? a = some { cls := .type "list", dict := none, data := .seq out c, slots := #[] } := by
 unfold sortedHeap
 exact ⟨_, V8 (Yf _ (Yf _ (V8 e fun _ => #[]))) fun _ => out⟩
theorem Zgr {a : Addr} {S : Int -> Prop} {n : Nat} {Q : Value -> Shared -> Prop} (hh : A.handled = none) (hS : SetI prog w s.heap a S n) (hn : n < 64)
  (h : ∀ (h' : Heap) d tk (D : Addr) (out : Array Value) (ks : List Int) c, (∀ b o, s.heap.get? b = some o -> h'.get? b = some o) -> s.heap.objs.size <= D -> h'.get? D = some { cls := .type "list", dict := none, data := .seq out c, slots := #[] } -> IntsAre out.toList ks -> ks.Pairwise (· < ·) -> (∀ k, k ∈ ks ↔ S k) ->
   Q (.ref D) { s with heap := h', drawn := d, toks := tk }) : wpAny (model prog w) A (call (.builtin "sorted") [.ref a]) Q E s := by
 refine Calls.call_function_entry kind_sorted plain_sorted entry_sorted (args_sorted1 _) ?_
 unfold Builtin.«sorted»
 refine Ya (m := checkCount "sorted" 1 1 _) (Yb ?_)
 refine Ya (Ze4 (A := A.in1) hh hS (Nat.lt_trans hn (by decide)) fun h' d tk vs ks hk i1 i2 i3 i4 hle => ?_)
 have hv : vs.length < 64 := by omega
 refine Ya (VU ?_ (Yj (Yr hv) (by decide)))
 have hoL : (h'.push (seqObj "list" vs.toArray 0)).get? h'.objs.size = some (seqObj "list" vs.toArray 0) := Ym _ rfl
 refine Ya (YJ (YU slot_list_sort ⟨_, hoL, rfl⟩ entry_list_sort (list_sort_tree hoL i1 hv fun out ks' a1 a2 a3 => ⟨_, rfl, ?_⟩) (args_list_sort _)))
 obtain ⟨c, e1⟩ := Zbk hoL (out := out)
 refine Yb ⟨_, rfl, h _ d tk h'.objs.size out ks' c (fun b o e => ?_) hle e1 a1 (ZcX a3 (a2.nodup_iff.mpr i2)) fun k => (a2.mem_iff).trans (i3 k)⟩
 exact ZaL (Yk (Yt (Ye e) hle)) (Yf _ (hk b o e))
end
end My
namespace My
open PySem PySem.Spec L2
open PyProof.Rows hiding St
theorem ZaY : ∀ {ns : List Int} {us : List Value}, Vals (ns.map V.int) us -> IntsAre us ns
 | [], us, h => by cases h; exact .nil
 | n :: ns, us, h => by
  cases h with
  | cons h1 h2 =>
   obtain ⟨t, rfl⟩ := h1
   exact .cons n t (ZaY h2)
theorem ZdY : ∀ {ns : List Int} {us : List Value}, IntsAre us ns -> Vals (ns.map V.int) us
 | _, _, .nil => .nil
 | _, _, .cons n t h => .cons ⟨t, rfl⟩ (ZdY h)
section
variable {X : Cx} {e : Expr} {t : TA} {p p' pos pos' : Pos}
theorem Ze1 {pins : List (Addr × Obj)} {σ : St} {H : Hp} {s : Shared} (I : Inv X pins σ H s) (d : Drawn) : Inv X pins σ H { s with drawn := d } := ⟨I.ok, I.os, I.bare, I.base, I.loc, I.cell, I.free, I.freeC, I.pin, I.hok, I.len⟩
theorem SetI.few {prog : Program} {w : World} {h : Heap} {a : Addr} {S : Int -> Prop} {n : Nat} (x : SetI prog w h a S n) (hb : ∀ k, S k -> 0 <= k /\ k < 60) : SetI prog w h a S 60 := by
 obtain ⟨o, es, ep, t, ho, hex, hd, hT, hf, hA, hN, hM, hz⟩ := x
 refine ⟨o, es, ep, t, ho, hex, hd, hT, hf, hA, hN, hM, ?_⟩
 have hs : es.toList.map JB ⊆ (List.range 60).map fun k : Nat => (k : Int) := fun k hk => by
  obtain ⟨h1, h2⟩ := hb k ((hM k).mp hk)
  exact Yl.mpr ⟨k.toNat, Vj.mpr (by omega), by omega⟩
 have := VW hN hs
 simpa using this
def ZdH : List V -> Hp -> VK -> Prop := fun xs H Q => ∃ (a : Addr) (ns : List Int), xs = [.ref a] /\ H a = some (.lst (ns.map V.int)) /\ ns.length < 4000 /\ (∀ k ∈ ns, 0 <= k /\ k < 60) /\
 ∀ l H2 (ks : List Int), H l = none -> Same H H2 -> H2 l = some (.lst (ks.map V.int)) -> ks.Pairwise (· < ·) -> (∀ k, k ∈ ks ↔ k ∈ ns) -> Q (.ref l) H2
theorem ZhU (hg : Gl X "sorted") (hm : X.mg "sorted" = none) (hg2 : Gl X "set") (hm2 : X.mg "set" = none) (ha : QA X [e] t) (hp : Zn e = true := by rfl) (hc : X.calm = true := by rfl) :
  QE X (.Call (.Name "sorted" p) [.Call (.Name "set" p') [e] [] pos'] [] pos) (tCB ZdH t) := ⟨by
 intro pins s σ H Q I h
 refine Vd (Jm I hg hm (show bootBuiltins "sorted" = some (.builtin "sorted") by decide +kernel) ?_ (by decide) (by decide))
 refine PyProof.Rows.callWith_builtin1 ?_ rfl rfl
 show wpAny _ _ (spliced ((false, eval (.Call (.Name "set" p') [e] [] pos') X.env) :: [])) _ _ s
 refine Calls.spliced_cons ?_
 refine Vd (Jm I hg2 hm2 (show bootBuiltins "set" = some (.type "set") by decide +kernel) ?_ (by decide) (by decide))
 refine Y7 (ZJ (ha.h pos' pins s σ H _ I h) fun us s1 ⟨vs, H1, I1, r1, q1⟩ => ?_) (Zl hp) rfl
 obtain ⟨a, ns, rfl, e1, hl, hb, q⟩ := q1
 obtain ⟨u, rfl, ru⟩ := Jn r1
 cases ru
 obtain ⟨_, its, n, hv, g⟩ := I1.hok a _ e1
 have hi := ZaY hv
 refine Zfc (I1.ok.hd hc) ⟨_, g, rfl, n, rfl⟩ (by simpa using hi) (by have : scanBound = 4096 := rfl; omega) fun h' tk hS hk => Calls.spliced_nil ?_
 refine Zgr (s := { s1 with heap := h', toks := tk }) (I1.ok.hd hc) (hS.few fun k hk => hb k hk) (by decide) fun h2 d tk2 D out ks c hk2 hle g2 i1 i2 i3 => ?_
 have hD : s1.heap.objs.size <= D := Yj (Yr hS.lt) hle
 have hf : H1 D = none := I1.hok.fresh hD
 have hkl : ks.length <= sizeLine := by
  have hs : ks ⊆ (List.range 60).map fun k : Nat => (k : Int) := fun k hk => by
   obtain ⟨h1, h2⟩ := hb k ((i3 k).mp hk)
   exact Yl.mpr ⟨k.toNat, Vj.mpr (by omega), by omega⟩
  have hnd : ks.Nodup := i2.imp fun h e => by rw [e] at h; exact Int.lt_irrefl _ h
  have := VW hnd hs
  exact Nat.le_trans (by simpa using this) (show 60 <= sizeLine by decide)
 exact ⟨.ref D, upd H1 D (.lst (ks.map V.int)), Ze1 (I1.laid (t' := tk2) (o := .lst (ks.map V.int)) (fun b u e => hk2 b u (hk b u e)) hD (show ObjOk X.prog X.w _ h2 _ (.lst (ks.map V.int)) from ⟨by simpa using hkl, out.toList, c, ZdY i1, by simpa using g2⟩)) d, rfl, q D _ ks hf (ZC hf _) upd_same i2 i3⟩⟩
end
end My
namespace My
open PySem PySem.Spec L2
open PyProof.Rows hiding St
section
variable {X : Cx} {a b o e : Expr} {es : List Expr} {ta tb to te : TE} {t : TA} {name : Str} {apos cpos pos p p2 : Pos} {id : String} {r : V -> List V -> Hp -> VK -> Prop}
theorem ZoE (ha : QE X a ta) (hb : QE X b tb) (hs : Zcl b := by intro _ _; rfl) : QE X (.Subscript a b pos) (tOp Zpj ta tb) := ⟨Zkq ZoS ha.h hb.h hs⟩
def Zpp : V -> Option Int -> Option Int -> Hp -> VK -> Prop := fun x lo hi H Q => ∃ z, x = .str z /\ z.length <= 1000 /\ Q (.str (Txt.slice z lo hi)) H
def ZfX : Value -> Option (Int × Tok)
 | .int i t => some (i, t)
 | _ => none
theorem Zi7 {v : Value} {o : Option Int} (h : IsPart v o) : partValue (ZfX v) = v /\ (ZfX v).map (·.1) = o := by
 cases h with
 | none => exact ⟨rfl, rfl⟩
 | int i t => exact ⟨rfl, rfl⟩
theorem Zoe : SlR X Zpp := by
 intro pins s σ H x v vl vu lo hi sl Q I rx hs pl pu h
 obtain ⟨z, rfl, hz, q⟩ := h
 obtain ⟨t, rfl⟩ := rx
 obtain ⟨e1, e2⟩ := Zi7 pl
 obtain ⟨e3, e4⟩ := Zi7 pu
 obtain ⟨os, g1, g2, g3⟩ := hs
 have hz2 : z.length <= sizeLine := Yj hz (by decide)
 refine ⟨"str", _, F.slot_str_getitem.lookup, typeIs_str _ _ _, ?_⟩
 refine wpAny_getItem_str_slice (l := ZfX vl) (u := ZfX vu) (st := none) ⟨os, g1, g2, by rw [e1, e3]; exact g3⟩ rfl ?_
 subst e2
 subst e4
 exact post_val_or_str ⟨Yj (Txt.slice_le z _ _) hz2, fun t' k => ⟨.str _, H, I.tok _, ⟨_, rfl⟩, q⟩⟩
theorem Zo0 (ha : QE X a ta) (hb : QE X b tb) : QE X (.Subscript a (.Slice none (some b) none p2) pos) (tSl Zpp ta Zcd (Zh8 tb)) := ⟨ZfV Zoe ha.h Zhi (ZiO hb.h)⟩
def tXm (r : V -> List V -> Hp -> VK -> Prop) (to : TE) (t : TA) : TE := fun σ H Q => to σ H fun x H1 => ∃ z, x = .str z /\ t σ H1 fun vs H2 => r x vs H2 Q
theorem Znu (slot : Slot "str" name id) (hty : typeOf (.builtin id) = pure (.type "method_descriptor")) (hm : MtM X id r) (ho : PE X o to) (ha : PA X (e :: es) t)
  (hbase : attributeBase o name X.env (eval o X.env) = eval o X.env := by rfl)
  (hfew : ((backTo cpos (starEach (e :: es) X.env)).all (fun x => !x.1) && (backToKw cpos (keywordEach [] X.env)).all (fun x => x.1.isSome)
   && decide ((e :: es).length + ([] : List Keyword).length + (if ([] : List Keyword).isEmpty then 0 else 1) < 30)) = true := by rfl)
  (hline : (apos.endLine == cpos.line) = true := by rfl) (hs : starEach (e :: es) X.env = (false, eval e X.env) :: starEach es X.env := by rfl) (hplain : (backTo cpos (starEach es X.env)).any (·.1) = false := by rfl) :
  PE X (.Call (.Attribute o name apos) (e :: es) [] cpos) (tXm r to t) := by
 intro pins s σ H Q I h
 refine wpAny_Call_method_late hbase hfew hline rfl (ZJ (ho pins s σ H _ I h) fun v s1 ⟨x, H1, I1, r1, z, e1, q1⟩ => ?_)
 subst e1
 obtain ⟨tk, rfl⟩ := r1
 refine ⟨"str", id, PySem.F.plainAttrs_str, slot, hty, typeIs_str _ _ _, (fun _ e => nomatch e), ?_⟩
 have hA := ha cpos pins s1 σ H1 _ I1 q1
 rw [hs] at hA ⊢
 refine VY (by show (false || (backTo cpos (starEach es X.env)).any (·.1)) = false; rw [hplain] <;> rfl) (Calls.evalArgs_plain ?_)
 exact ZJ hA fun us s2 ⟨vs, H2, I2, r2, q2⟩ => hm pins s2 σ H2 (.str z) vs _ us Q I2 ⟨tk, rfl⟩ r2 q2
def Zki : V -> List V -> Hp -> VK -> Prop := fun x vs H Q => ∃ z y, x = .str z /\ vs = [.str y] /\ Q (.int (Txt.find z y)) H
theorem ZmK : MtM X "str.find" Zki := by
 intro pins s σ H x vs v us Q I rx rv h
 obtain ⟨z, y, rfl, rfl, q⟩ := h
 obtain ⟨t, rfl⟩ := rx
 obtain ⟨u, rfl, ru⟩ := Jn rv
 obtain ⟨t2, rfl⟩ := ru
 exact SC.find ⟨.int _, H, I.tok _, ⟨_, rfl⟩, q⟩
theorem ZnZ (ho : QE X o to) (ha : QA X [e] t) (hbase : attributeBase o "find" X.env (eval o X.env) = eval o X.env := by rfl) (hline : (apos.endLine == cpos.line) = true := by rfl) (hp : Zn e = true := by rfl) :
  QE X (.Call (.Attribute o "find" apos) [e] [] cpos) (tXm Zki to t) := ⟨Znu F.slot_str_find F.type_str_find ZmK ho.h ha.h hbase (by rw [Zl hp]; rfl) hline (Zl hp) rfl⟩
theorem Zbf : ∀ {ss : List Str} {us : List Value}, Vals (ss.map V.str) us -> StrsAre us ss
 | [], us, h => by cases h; exact .nil
 | x :: ss, us, h => by
  cases h with
  | cons h1 h2 =>
   obtain ⟨t, rfl⟩ := h1
   exact .cons x t (Zbf h2)
theorem Zb5 : ∀ {ss : List Str} {us : List Value}, StrsAre us ss -> Vals (ss.map V.str) us
 | _, _, .nil => .nil
 | _, _, .cons x t h => .cons ⟨t, rfl⟩ (Zb5 h)
def ZjM : V -> List V -> Hp -> VK -> Prop := fun x vs H Q => ∃ z a ss, x = .str z /\ vs = [.ref a] /\ H a = some (.lst (List.map V.str ss)) /\ z.length <= 16 /\ (ss.map (·.length)).sum + ss.length <= 1048576 /\ Q (.str (Txt.join z ss)) H
theorem Zmd : MtM X "str.join" ZjM := by
 intro pins s σ H x vs v us Q I rx rv h
 obtain ⟨z, a, ss, rfl, rfl, e, h1, h2, q⟩ := h
 obtain ⟨t, rfl⟩ := rx
 obtain ⟨u, rfl, ru⟩ := Jn rv
 cases ru
 obtain ⟨_, its, n, hv, g⟩ := I.hok a _ e
 exact join_listW ⟨_, g, rfl, n, rfl⟩ (by simpa using Zbf hv) h1 h2 fun t' k => ⟨.str _, H, I.tok _, ⟨_, rfl⟩, q⟩
theorem Zoy (ho : QE X o to) (ha : QA X [e] t) (hbase : attributeBase o "join" X.env (eval o X.env) = eval o X.env := by rfl) (hline : (apos.endLine == cpos.line) = true := by rfl) (hp : Zn e = true := by rfl) :
  QE X (.Call (.Attribute o "join" apos) [e] [] cpos) (tXm ZjM to t) := ⟨Znu F.slot_str_join F.type_str_join Zmd ho.h ha.h hbase (by rw [Zl hp]; rfl) hline (Zl hp) rfl⟩
theorem ZjL (z : Str) (ss : List Str) : (Txt.join z ss).length <= (ss.map (·.length)).sum + ss.length * z.length := by
 show (Builtin.Str.glued z ss).length <= _
 rw [StrLaws.glued_eq_join]
 exact StrLaws.join_length_le z ss
end
end My
namespace My
open PySem PySem.Spec L2
open PyProof.Rows hiding St
def leS (a b : Str) : Prop := a.cps.toList <= b.cps.toList
theorem Zng {a b : Str} (h : (!ltCps b.cps.toList a.cps.toList) = true) : leS a b := by
 rw [ltCps_eq, Bool.not_eq_true', decide_eq_false_iff_not] at h
 exact List.not_lt.mp h
theorem Zes : ∀ (p : Str) (l : List Str), risingS p l = true -> (p :: l).Pairwise leS
 | p, [], _ => List.pairwise_singleton ..
 | p, x :: l, h => by
  unfold risingS at h
  rw [Vz] at h
  have ih := Zes x l h.2
  have hx := Zng h.1
  refine List.pairwise_cons.mpr ⟨fun y hy => ?_, ih⟩
  rcases Yn.mp hy with rfl | hy
  ·exact hx
  ·exact List.le_trans hx ((List.pairwise_cons.mp ih).1 y hy)
theorem Zej : ∀ {l : List Str}, sortedS l = true -> l.Pairwise leS
 | [], _ => List.Pairwise.nil
 | x :: l, h => Zes x l h
section
variable {X : Cx} {e : Expr} {t : TA} {p pos : Pos}
def ZbU : List V -> Hp -> VK -> Prop := fun xs H Q => ∃ (a : Addr) (ss : List Str), xs = [.ref a] /\ H a = some (.lst (ss.map V.str)) /\ ss.length < 64 /\ ∀ l H2 (ts : List Str), H l = none -> Same H H2 -> H2 l = some (.lst (ts.map V.str)) -> ts.Pairwise leS -> ts.Perm ss -> Q (.ref l) H2
theorem Zee : CallR X (.builtin "sorted") ZbU := by
 intro pins s σ H xs us Q I r h
 obtain ⟨a, ss, rfl, e, hl, q⟩ := h
 obtain ⟨u, rfl, ru⟩ := Jn r
 cases ru
 obtain ⟨_, its, n, hv, g⟩ := I.hok a _ e
 have hi := Zbf hv
 have hil : its.length = ss.length := by rw [<- hv.length, Yi]
 refine sorted_strs (vs := its) ⟨_, g, rfl, n, rfl⟩ hi (by omega) fun out ts o1 o2 o3 => ?_
 have hD : s.heap.objs.size <= s.heap.objs.size + 1 := Vr _
 have hf : H (s.heap.objs.size + 1) = none := I.hok.fresh hD
 have hz1 : ((s.heap.push (seqObj "list" #[] 0)).update s.heap.objs.size (Obj.mapSeq (· ++ its.toArray))).objs.size = s.heap.objs.size + 1 := by rw [V2, size_push']
 have hk : ∀ b o, s.heap.get? b = some o -> (sortedAll s.heap its out).get? b = some o := fun b o eb => by
  have hb := Ye eb
  unfold sortedAll
  exact ZaL (Yk (Y3 hb)) (Yf _ ((Vm _ _ (Vl hb)).trans (Yf _ eb)))
 obtain ⟨c, e1⟩ : ∃ c, (sortedAll s.heap its out).get? (s.heap.objs.size + 1) = some { cls := .type "list", dict := none, data := .seq out c, slots := #[] } := by
  unfold sortedAll
  refine Zbk (n := 0) ?_
  rw [<- hz1]
  exact Ym _ rfl
 have hol : ts.length <= sizeLine := by rw [o2.length_eq]; exact Yj (Yr hl) (by decide)
 exact ⟨.ref (s.heap.objs.size + 1), upd H (s.heap.objs.size + 1) (.lst (ts.map V.str)), I.laid (t' := s.toks) (o := .lst (ts.map V.str)) hk hD (show ObjOk X.prog X.w _ _ _ (.lst (ts.map V.str)) from ⟨by simpa using hol, out.toList, c, Zb5 o1, by simpa using e1⟩), rfl, q _ _ ts hf (ZC hf _) upd_same (Zej o3) o2⟩
theorem Zd6 (hg : Gl X "sorted") (hm : X.mg "sorted" = none) (ha : QA X [e] t) (hp : Zn e = true := by rfl) : QE X (.Call (.Name "sorted" p) [e] [] pos) (tCB ZbU t) :=
 ⟨ZaC Zee hg hm (by decide +kernel) ha.h (by decide) (by decide) (Zl hp) rfl⟩
end
end My
namespace My
open PySem PySem.Spec L2
open PyProof.Rows hiding St
section
variable {prog : Program} {w : World} {A : Around} {E : Value -> Shared -> Prop} {s : Shared}
def EqIn (prog : Program) (w : World) (A : Around) (s : Shared) (u v : Value) : Prop := ∀ (E : Value -> Shared -> Prop) (Q : Bool -> Shared -> Prop), Q true s -> wpAny (model prog w) A (eqBool u v) Q E s
theorem EqIn.of {A : Around} {u v : Value} (h : SeqAt.EqAt A s u v true) : EqIn prog w A s u v := fun E Q q => h prog w E Q q
theorem EqIn.refs {a b : Addr} (h : ∀ (E : Value -> Shared -> Prop) (Q : Value -> Shared -> Prop), Q (.bool true) s -> wpAny (model prog w) A (richCompare .Eq (.ref a) (.ref b)) Q E s) : EqIn prog w A s (.ref a) (.ref b) := fun E Q q => by
 unfold eqBool
 refine YJ ?_
 refine VQ (fun _ => Ya (Vs (Yb q))) (fun _ => ?_)
 exact Ya (h E _ (Vy q))
theorem ZkH {l b : Addr} {items items2 : Array Value} {Q : Value -> Shared -> Prop} (hl : s.heap.IsTuple l items) (hb : s.heap.IsTuple b items2) (hz : items.size = items2.size) (hu : A.units < cLine)
  (he : ∀ j (h1 : j < items.size) (h2 : j < items2.size), EqIn prog w A.in1 s items[j] items2[j]) (h : Q (.bool false) s) : wpAny (model prog w) A (richCompare .NotEq (.ref l) (.ref b)) Q E s := by
 obtain ⟨o1, g1, c1, n1, d1⟩ := id hl
 obtain ⟨o2, g2, c2, n2, d2⟩ := id hb
 have t1 : s.TypeIs (.ref l) "tuple" := ⟨o1, g1, c1⟩
 have t2 : s.TypeIs (.ref b) "tuple" := ⟨o2, g2, c2⟩
 refine wpAny_richCompare_same_room (op := .NotEq) t1 t2 F.slot_tuple_ne (YU F.slot_tuple_ne t1 F.entry_tuple_ne ?_ (F.args_tuple_ne_2 _ _)) hu
 show wpAny _ _ (slotArgs "__ne__" 1 ⟨[.ref l, .ref b], []⟩ >>= _) _ _ s
 refine Ya (Yb ?_)
 dsimp only
 refine Ya (VA (T := "tuple") (b := true) t2 AutoSeq1.sub_tuple_tuple ?_)
 rw [if_neg (by decide)]
 refine Ya (Yat g1 d1 (Ya (Yat g2 d2 ?_)))
 refine Ya (VP _ (fun rest b s' => b.1 = none /\ s' = s /\ ∃ i, rest = (items.toList.zip items2.toList).drop i) _ ?_ ?_ _ _ ⟨rfl, rfl, 0, rfl⟩)
 ·rintro ⟨y, x⟩ rest b' s' ⟨hb', rfl, i, hi⟩
  have hlt : i < (items.toList.zip items2.toList).length := by
   rcases Nat.lt_or_ge i (items.toList.zip items2.toList).length with h' | h'
   ·exact h'
   ·rw [List.drop_of_length_le h'] at hi; cases hi
  have hlt' := hlt
  rw [Vf, YG, YG] at hlt'
  have k1 : i < items.size := by omega
  have k2 : i < items2.size := by omega
  rw [Yad hlt] at hi
  injection hi with hyx hrest
  have hy : y = items[i] := by have := congrArg Prod.fst hyx; simpa using this
  have hx : x = items2[i] := by have := congrArg Prod.snd hyx; simpa using this
  subst hy hx
  refine Ya (he i k1 k2 _ _ ?_)
  rw [if_neg (by decide)]
  exact Yb ⟨rfl, rfl, i + 1, hrest⟩
 ·rintro ⟨b1, b2⟩ s' ⟨hb', rfl, _⟩
  simp only at hb'
  subst hb'
  dsimp only
  refine Yb ⟨_, rfl, ?_⟩
  rw [show Builtin.Tuple.tupleCompareSizes CmpOp.NotEq items.size items2.size = Value.bool false by rw [hz]; simp [Builtin.Tuple.tupleCompareSizes]]
  exact ⟨(fun z => nomatch z), h⟩
theorem Zjt {l b : Addr} {items items2 : Array Value} {Q : Value -> Shared -> Prop} (hl : s.heap.IsTuple l items) (hb : s.heap.IsTuple b items2) (hz : items.size = items2.size) (hu : A.units < cLine)
  (he : ∀ j (h1 : j < items.size) (h2 : j < items2.size), EqIn prog w A.in1 s items[j] items2[j]) (h : Q (.bool true) s) : wpAny (model prog w) A (richCompare .Eq (.ref l) (.ref b)) Q E s := by
 obtain ⟨o1, g1, c1, n1, d1⟩ := id hl
 obtain ⟨o2, g2, c2, n2, d2⟩ := id hb
 have t1 : s.TypeIs (.ref l) "tuple" := ⟨o1, g1, c1⟩
 have t2 : s.TypeIs (.ref b) "tuple" := ⟨o2, g2, c2⟩
 refine wpAny_richCompare_same_room (op := .Eq) t1 t2 F.slot_tuple_eq (YU F.slot_tuple_eq t1 F.entry_tuple_eq ?_ (F.args_tuple_eq_2 _ _)) hu
 show wpAny _ _ (slotArgs "__eq__" 1 ⟨[.ref l, .ref b], []⟩ >>= _) _ _ s
 refine Ya (Yb ?_)
 dsimp only
 refine Ya (VA (T := "tuple") (b := true) t2 AutoSeq1.sub_tuple_tuple ?_)
 rw [if_neg (by decide)]
 refine Ya (Yat g1 d1 (Ya (Yat g2 d2 ?_)))
 refine Ya (VP _ (fun rest b s' => b.1 = none /\ s' = s /\ ∃ i, rest = (items.toList.zip items2.toList).drop i) _ ?_ ?_ _ _ ⟨rfl, rfl, 0, rfl⟩)
 ·rintro ⟨y, x⟩ rest b' s' ⟨hb', rfl, i, hi⟩
  have hlt : i < (items.toList.zip items2.toList).length := by
   rcases Nat.lt_or_ge i (items.toList.zip items2.toList).length with h' | h'
   ·exact h'
   ·rw [List.drop_of_length_le h'] at hi; cases hi
  have hlt' := hlt
  rw [Vf, YG, YG] at hlt'
  have k1 : i < items.size := by omega
  have k2 : i < items2.size := by omega
  rw [Yad hlt] at hi
  injection hi with hyx hrest
  have hy : y = items[i] := by have := congrArg Prod.fst hyx; simpa using this
  have hx : x = items2[i] := by have := congrArg Prod.snd hyx; simpa using this
  subst hy hx
  refine Ya (he i k1 k2 _ _ ?_)
  rw [if_neg (by decide)]
  exact Yb ⟨rfl, rfl, i + 1, hrest⟩
 ·rintro ⟨b1, b2⟩ s' ⟨hb', rfl, _⟩
  simp only at hb'
  subst hb'
  dsimp only
  refine Yb ⟨_, rfl, ?_⟩
  rw [show Builtin.Tuple.tupleCompareSizes CmpOp.Eq items.size items2.size = Value.bool true by rw [hz]; simp [Builtin.Tuple.tupleCompareSizes]]
  exact ⟨(fun z => nomatch z), h⟩
end
section
variable {X : Cx} {pins : List (Addr × Obj)} {σ : St} {H : Hp} {s : Shared} {a b : Expr} {ta tb : TE} {pos : Pos} {k : Nat}
theorem ZnF {kvs : List (ZA × V)} {vs : List (ZA × Value)} (r : KV kvs vs) {i : Nat} {kv : ZA × V} {k : ZA} {v : Value} (h1 : kvs[i]? = some kv) (h2 : vs[i]? = some (k, v)) : kv.1 = k /\ RelV kv.2 v := by
 induction r generalizing i with
 | nil => simp at h1
 | cons h _ ih =>
  cases i with
  | zero =>
   simp at h1 h2
   subst h1
   subst h2
   exact h
  | succ i => exact ih (by simpa using h1) (by simpa using h2)
inductive EqP (H : Hp) : V -> V -> Nat -> Prop where
 | deep {x y : V} {n : Nat} (h : EqD H x y true n) : EqP H x y n
 | dct {a b : Addr} {ka kb : List (ZA × V)} {n : Nat} (ha : Rd H a (.dK ka)) (hb : Rd H b (.dK kb)) (hl : ka.length = kb.length) (h : ∀ (j : Nat) x y, ka[j]? = some x -> kb[j]? = some y -> x.1 = y.1 /\ EqD H x.2 y.2 true n) (hN : (ka.map (·.1)).Nodup) : EqP H (.ref a) (.ref b) (n + 2)
 | tup {a b : Addr} {xs ys : List V} {n : Nat} (ha : H a = some (.tup xs)) (hb : H b = some (.tup ys)) (hl : xs.length = ys.length) (h : ∀ (j : Nat) x y, xs[j]? = some x -> ys[j]? = some y -> EqP H x y n) : EqP H (.ref a) (.ref b) (n + 2)
theorem Zbm : ∀ {vs : List (ZA × Value)} {j : Nat} {k : ZA} {y : Value}, (vs.map (·.1)).Nodup -> vs[j]? = some (k, y) -> valueAt vs k = some y
 | [], j, k, y, _, h => by simp at h
 | (k', y') :: vs, 0, k, y, _, h => by
  simp at h
  obtain ⟨rfl, rfl⟩ := h
  simp [valueAt]
 | (k', y') :: vs, j + 1, k, y, hN, h => by
  rw [Yq, Y4] at hN
  have hm : (k, y) ∈ vs := List.mem_of_getElem? (by simpa using h)
  have hne : k' ≠ k := fun e => hN.1 (Yl.mpr ⟨_, hm, e.symm⟩)
  have ih := Zbm hN.2 (show vs[j]? = some (k, y) by simpa using h)
  unfold valueAt at ih ⊢
  rw [List.find?_cons_of_neg (by simpa using hne)]
  exact ih
theorem Zht {A : Around} {vb : List (ZA × Value)} (hN : (vb.map (·.1)).Nodup) : ∀ {va : List (ZA × Value)} (i : Nat), (∀ (j : Nat) k v, va[j]? = some (k, v) -> ∃ y, vb[i + j]? = some (k, y) /\ SeqAt.EqAt A s v y true) -> KeqHits A s vb va true
 | [], _, _ => .nil
 | (k, v) :: va, i, h => by
  obtain ⟨y, h1, h2⟩ := h 0 k v rfl
  exact .hit (e := true) (Zbm hN h1) h2 (Zht hN (i + 1) fun j k v e => by
   have := h (j + 1) k v e
   rw [show i + 1 + j = i + (j + 1) by omega]
   exact this)
theorem EqP.at (I : Inv X pins σ H s) {x y : V} {n : Nat} (h : EqP H x y n) : ∀ {A : Around} {u v : Value}, RelV x u -> RelV y v -> A.units + n < cLine -> EqIn X.prog X.w A s u v /\ ((∃ a c, x = .ref a /\ y = .ref c) ->
  (∀ (E : Value -> Shared -> Prop) (Q : Value -> Shared -> Prop), Q (.bool true) s -> wpAny (model X.prog X.w) A (richCompare .Eq u v) Q E s) /\ ∀ (E : Value -> Shared -> Prop) (Q : Value -> Shared -> Prop), Q (.bool false) s -> wpAny (model X.prog X.w) A (richCompare .NotEq u v) Q E s) := by
 induction h with
 | deep h =>
  intro A u v r1 r2 hu
  obtain ⟨z1, z2⟩ := h.at I r1 r2 hu
  exact ⟨.of z1, fun w => ⟨fun E Q q => z2 w _ _ E Q q, fun E Q q => h.neAt I r1 r2 hu w _ _ E Q q⟩⟩
 | @dct a b ka kb n ha hb hl h hN =>
  intro A u v r1 r2 hu
  cases r1
  cases r2
  obtain ⟨_, n1, va, kv1, d1⟩ := JI I.hok ha
  obtain ⟨_, n2, vb, kv2, d2⟩ := JI I.hok hb
  have hkeys : ka.map (·.1) = kb.map (·.1) := Yar fun j => by
   rw [Yh, Yh]
   by_cases c : j < ka.length
   ·have c2 : j < kb.length := by omega
    rw [Yc c, Yc c2]
    exact congrArg some (h j _ _ (Yc c) (Yc c2)).1
   ·rw [Y0 (by omega), Y0 (by omega)]
  have hNb : (vb.map (·.1)).Nodup := by rw [<- kv2.keys, <- hkeys]; exact hN
  have lA : va.length = ka.length := kv1.length.symm
  have lB : vb.length = kb.length := kv2.length.symm
  have hits : ∀ A : Around, A.units + n < cLine -> KeqHits A s vb va true := fun A hA => Zht hNb 0 fun j k v e => by
   have hj : j < ka.length := by rw [<- lA]; exact (Yg.mp e).1
   have hj2 : j < kb.length := by omega
   obtain ⟨p1, r1⟩ := ZnF kv1 (Yc hj) e
   obtain ⟨q, e2⟩ : ∃ q, vb[j]? = some q := ⟨_, Yc (by omega)⟩
   obtain ⟨p2, r2⟩ := ZnF kv2 (Yc hj2) (show vb[j]? = some (q.1, q.2) from e2)
   obtain ⟨p3, hd⟩ := h j _ _ (Yc hj) (Yc hj2)
   refine ⟨q.2, ?_, (hd.at I r1 r2 hA).1⟩
   rw [Nat.zero_add, e2, <- p1, p3, p2]
  have e1 : ∀ (E : Value -> Shared -> Prop) (Q : Value -> Shared -> Prop), Q (.bool true) s -> wpAny (model X.prog X.w) A (richCompare .Eq (.ref a) (.ref b)) Q E s := fun E Q q =>
   PySem.W.keq_eq (A := A) n1 n2 d1 d2 (by omega) (r := true) (fun _ => hits _ (by show A.units + 1 + n < cLine; omega)) (by rw [show (va.length == vb.length && true) = true by rw [lA, lB, hl]; simp]; exact q)
  refine ⟨EqIn.refs e1, fun _ => ⟨e1, fun E Q q => ?_⟩⟩
  exact PySem.W.keq_ne (A := A) n1 n2 d1 d2 (by omega) (r := true) (fun _ => hits _ (by show A.units + 1 + n < cLine; omega)) (by rw [show (!(va.length == vb.length && true)) = false by rw [lA, lB, hl]; simp]; exact q)
 | @tup a b xs ys n ha hb hl h ih =>
  intro A u v r1 r2 hu
  cases r1
  cases r2
  obtain ⟨its, v1, t1, _⟩ := I.tuple (SqT.of ha)
  obtain ⟨jts, v2, t2, _⟩ := I.tuple (SqT.of hb)
  have he : ∀ j (h1 : j < its.toArray.size) (h2 : j < jts.toArray.size), EqIn X.prog X.w A.in1 s its.toArray[j] jts.toArray[j] := fun j h1 h2 => by
   have k1 : j < xs.length := by rw [v1.length]; simpa using h1
   have k2 : j < ys.length := by rw [v2.length]; simpa using h2
   obtain ⟨u1, q1, w1⟩ := v1.get (Yc k1)
   obtain ⟨u2, q2, w2⟩ := v2.get (Yc k2)
   have g1 : its.toArray[j] = u1 := by obtain ⟨hh, this⟩ := List.getElem?_eq_some_iff.mp q1; simpa using this
   have g2 : jts.toArray[j] = u2 := by obtain ⟨hh, this⟩ := List.getElem?_eq_some_iff.mp q2; simpa using this
   rw [g1, g2]
   exact (ih j _ _ (Yc k1) (Yc k2) w1 w2 (by show A.units + 1 + n < cLine; omega)).1
  have hz : its.toArray.size = jts.toArray.size := by simp [<- v1.length, <- v2.length, hl]
  have e1 : ∀ (E : Value -> Shared -> Prop) (Q : Value -> Shared -> Prop), Q (.bool true) s -> wpAny (model X.prog X.w) A (richCompare .Eq (.ref a) (.ref b)) Q E s := fun E Q q => Zjt t1 t2 hz (by omega) he q
  exact ⟨EqIn.refs e1, fun _ => ⟨e1, fun E Q q => ZkH t1 t2 hz (by omega) he q⟩⟩
def Zpa : R2 := fun x y H Q => ∃ n a c, x = .ref a /\ y = .ref c /\ EqP H x y n /\ n <= 60 /\ Q (.bl true) H
def Zpe : R2 := fun x y H Q => ∃ n a c, x = .ref a /\ y = .ref c /\ EqP H x y n /\ n <= 60 /\ Q (.bl false) H
theorem Zob (hr : Room k X.A) : OpR X (compareOp .Eq) Zpa := by
 intro pins s σ H x y v u Q I rx ry h
 obtain ⟨n, p, c, e1, e2, h, hn, q⟩ := h
 have hu := hr.units
 exact ((h.at I rx ry (by omega)).2 ⟨p, c, e1, e2⟩).1 _ _ ⟨.bl true, H, I, rfl, q⟩
theorem Zns (hr : Room k X.A) : OpR X (compareOp .NotEq) Zpe := by
 intro pins s σ H x y v u Q I rx ry h
 obtain ⟨n, p, c, e1, e2, h, hn, q⟩ := h
 have hu := hr.units
 exact ((h.at I rx ry (by omega)).2 ⟨p, c, e1, e2⟩).2 _ _ ⟨.bl false, H, I, rfl, q⟩
theorem ZpI (hr : Room k X.A) (ha : QE X a ta) (hb : QE X b tb) : QE X (.Compare a [.Eq] [b] pos) (tOp Zpa ta tb) := ⟨Zbv (Zob hr) ha.h hb.h (Jb _)⟩
theorem Zp0 (hr : Room k X.A) (ha : QE X a ta) (hb : QE X b tb) : QT X (.Compare a [.NotEq] [b] pos) (JE (tOp Zpe ta tb)) := ⟨Z9 (Zns hr) ha.h hb.h (Jb _)⟩
end
end My
namespace My
open PySem PySem.Spec L2
open PyProof.Rows hiding St
structure BlkM (X : Cx) (ts : List Str) (caps : List Nat) (cs : List Str) (sc : Scope) (cl : List (Str × Addr)) (x : Str) : Prop where
 clos : closureFor sc X.env = pure cl
 kind : sc.kind = .function
 own : ∀ n, cellsFrom n sc.names cl = (x, n) :: cl
 own0 : ∀ n, cellsFrom n sc.names [] = [(x, n)]
 loc : ∀ y ∈ sc.names, y.2 = .local -> sc.names.lookup y.1 = some .local
 sub : ∀ y c, cl.lookup y = some c -> X.env.cells.lookup y = some c
 has : ∀ y, ((relabel sc X.env).names.lookup y = some .cell \/ (relabel sc X.env).names.lookup y = some .free) -> y = x \/ ∃ c, cl.lookup y = some c
 len : caps.length = cs.length
 cap : ∀ (k : Nat) i y, caps[k]? = some i -> cs[k]? = some y -> X.N[i]? = some y /\ (X.env.kindOf y = some .cell \/ X.env.kindOf y = some .free)
 capK : ∀ y ∈ cs, (relabel sc X.env).names.lookup y = some .cell \/ (relabel sc X.env).names.lookup y = some .free
 capX : ∀ y ∈ cs, y ≠ x
section
variable {X : Cx} {pins : List (Addr × Obj)} {σ : St} {H : Hp} {s : Shared} {ts cs : List Str} {caps : List Nat} {sc : Scope} {cl : List (Str × Addr)} {fp : List Addr} {x : Str}
variable {tg it elt : Expr} {pos : Pos} {wi : TI} {g : TG} {te : TE}
end
end My
namespace My
open PySem PySem.Spec L2
open PyProof.Rows hiding St
section
variable {prog : Program} {w : World} {A : Around} {E : Value -> Shared -> Prop} {s : Shared}
theorem ZeG {T : String} {r d : Addr} {n : Nat} {Pi : Nat -> Value -> Prop} {OK : Heap -> Prop} {Q : List Value -> Shared -> Prop} (Ks : PySem.W.KdlSrc prog w T r d n Pi OK) (hh : A.handled = none) (hok : OK s.heap) (hn : n <= sizeLine)
  (h : ∀ h' tk (acc : Array Value), (∀ b o, s.heap.get? b = some o -> h'.get? b = some o) -> ItemsOf Pi acc n -> s.heap.objs.size <= h'.objs.size -> Q acc.toList { s with heap := h', toks := tk }) :
  wpAny (model prog w) A (collect (.ref r)) Q E s := by
 unfold collect
 refine Ya (wpAny_runValue (Vi entry_proto_collect' ?_))
 rw [Vw F.plain_proto_collect _]
 show wpAny _ A.in1 (newList [] >>= fun l => again (.builtin "list.__iadd__" ⟨[l, .ref r], []⟩)) _ _ s
 refine Ya (YT ?_)
 refine Yb ⟨VV Yaz _, Vi entry_list_iadd' ?_⟩
 rw [Vw Yaz _]
 show wpAny _ A.in1 (Builtin.List.listExtendWith (.ref s.heap.objs.size) (.ref r) (.ref s.heap.objs.size)) _ _ _
 have lt := Ks.there _ hok
 have key := PySem.W.kdl_extend (A := A) (s := { s with heap := s.heap.push (ZcE 0) })
  (R := fun (q : Result) (s' : Shared) => ∃ (h' : Heap) (tk : Nat) (acc : Array Value) (c' : Nat), q = .ok (.ret (.ref s.heap.objs.size)) /\ s' = { s with heap := h', toks := tk } /\ (∀ b o, s.heap.get? b = some o -> h'.get? b = some o) /\
   h'.get? s.heap.objs.size = some { cls := .type "list", dict := none, data := .seq acc c', slots := #[] } /\ ItemsOf Pi acc n)
  Ks hh (Ks.keep _ _ hok fun b _ o e => Yf _ e) s.heap.objs.size (Vl lt.1) (Vl lt.2) (.ref s.heap.objs.size) 0 (Ym _ rfl)
  (fun h' tk acc c' hk g i1 => ⟨h', tk, acc, c', rfl, rfl, fun b o e => hk b o (Yk (Ye e)) (Yf _ e), g, i1⟩) hn
 refine Yu key (fun fin s' x => ?_) fun e s' x => ?_
 ·cases fin with
  | done f =>
   obtain ⟨h', tk, acc, c', e, rfl, hk, g, i1⟩ := x
   cases e
   show wpAny _ A (load s.heap.objs.size >>= _) _ _ _
   exact Ya (VD g (Yb (h h' tk acc hk i1 (Yr (Ye g)))))
  | again c₁ =>
   refine ⟨x.1, YV x.2 fun q s₂ y => ?_⟩
   obtain ⟨h', tk, acc, c', rfl, rfl, hk, g, i1⟩ := y
   show wpAny _ A (load s.heap.objs.size >>= _) _ _ _
   exact Ya (VD g (Yb (h h' tk acc hk i1 (Yr (Ye g)))))
 ·obtain ⟨_, _, _, _, e', _⟩ := x
  cases e'
end
section
variable {X : Cx} {c d : Expr} {p pos : Pos} {ta : TA}
theorem ZpV (hg : Gl X "max") (hm : X.mg "max" = none) (ha : QA X [c, d] ta) (hp : Zn c = true := by rfl) (hq : Zn d = true := by rfl) (hc : X.calm = true := by rfl) :
  QE X (.Call (.Name "max" p) [c, d] [] pos) (tCB (fun xs H Q => ∃ i j, xs = [.int i, .int j] /\ Q (.int (if j > i then j else i)) H) ta) := ⟨ZaC (Zix hc) hg hm (by decide +kernel) ha.h (by decide) (by decide) (Zl hp) (by rw [Zl hq]; rfl)⟩
theorem Zlb {a b : Expr} {p2 : Pos} {tx tb : TE} (ha : QE X a tx) (hb : QE X b tb) : QE X (.Subscript a (.Slice none (some b) none p2) pos) (tSl (Zpd X.K) tx Zcd (Zh8 tb)) := ⟨ZfV ZnO ha.h Zhi (ZiO hb.h)⟩
def ZfW : List V -> Hp -> VK -> Prop := fun xs H Q => ∃ (a : Addr) (kvs : List (ZA × V)) (ss : List Str), xs = [.ref a] /\ Rd H a (.dK kvs) /\ (kvs.map fun kv => kV kv.1) = ss.map V.str /\ ss.length < 64 /\ ∀ l H2 (ts : List Str), H l = none -> Same H H2 -> H2 l = some (.lst (ts.map V.str)) -> ts.Pairwise leS -> ts.Perm ss -> Q (.ref l) H2
theorem Zf5 (hc : X.calm = true) : CallR X (.builtin "sorted") ZfW := by
 intro pins s σ H xs us Q I r h
 obtain ⟨a, kvs, ss, rfl, e, hss, hl, q⟩ := h
 obtain ⟨u, rfl, ru⟩ := Jn r
 cases ru
 obtain ⟨z, hd, vs, rel, dd⟩ := JI I.hok e
 obtain ⟨ep, at_⟩ := dd.dictAt
 have hkl : kvs.length = ss.length := by have := congrArg List.length hss; simpa using this
 refine Calls.call_function_entry kind_sorted plain_sorted entry_sorted (args_sorted1 _) ?_
 unfold Builtin.«sorted»
 refine Ya (m := checkCount "sorted" 1 1 _) (Yb ?_)
 refine Ya (ZeG (A := X.A.in1) (kdl_dict hd) (I.ok.hd hc) at_ (by rw [<- rel.length]; exact z) fun h' tk acc hk hacc hD => ?_)
 obtain ⟨hs, hacc⟩ := hacc
 have hsz : acc.size = ss.length := by rw [hs, <- rel.length, hkl]
 have hv : Vals (ss.map V.str) acc.toList := by
  rw [<- hss]
  refine Zcf ?_ fun i x u e1 e2 => ?_
  ·rw [Yi, hkl, YG]; exact hsz.symm
  ·obtain ⟨k, x', g1, g2⟩ := hacc i u (by simpa using e2)
   have hi : i < kvs.length := by have := (List.getElem?_eq_some_iff.mp e1).1; simpa using this
   obtain ⟨kv, v, g3, g4⟩ := Zij rel hi
   rw [g1] at g4
   cases g4
   rw [Yh, g3] at e1
   cases e1
   exact Zjn g2
 have hS := Zbf hv
 have hal : acc.toList.length < 64 := by rw [YG, hsz]; exact hl
 refine Ya (VU ?_ (Yj (Yr hal) (by decide)))
 have hoL : (h'.push (seqObj "list" acc.toList.toArray 0)).get? h'.objs.size = some (seqObj "list" acc.toList.toArray 0) := Ym _ rfl
 refine Ya (YJ (YU slot_list_sort ⟨_, hoL, rfl⟩ entry_list_sort (list_sort_treeK strKind_oneLt hoL hS.keysOf (fun v₁ v₂ rest e => keyKind_strs (by rw [<- e]; exact hS)) hal fun st' hp hs' => ⟨_, rfl, ?_⟩) (args_list_sort _)))
 obtain ⟨ts, h1, h2, h3⟩ := sorted_out_str hS hp hs'
 obtain ⟨c, e1⟩ := Zbk hoL (out := (arrOf st').map (·.2))
 have hf : H h'.objs.size = none := I.hok.fresh hD
 have hol : ts.length <= sizeLine := by rw [h2.length_eq]; exact Yj (Yr hl) (by decide)
 refine Yb ⟨_, rfl, ?_⟩
 exact ⟨.ref h'.objs.size, upd H h'.objs.size (.lst (ts.map V.str)), I.laid (t' := tk) (o := .lst (ts.map V.str)) (fun b o eb => ZaL (Nat.ne_of_lt (Nat.lt_of_lt_of_le (Heap.lt_size eb) hD)) (Heap.get?_push_of_some _ (hk b o eb))) hD (show ObjOk X.prog X.w _ _ _ (.lst (ts.map V.str)) from ⟨by simpa using hol, ((arrOf st').map (·.2)).toList, c, Zb5 h1, by rw [Array.toArray_toList]; exact e1⟩), rfl, q _ _ ts hf (ZC hf _) upd_same (Zej h3) h2⟩
theorem Zmy {e : Expr} {t : TA} (hg : Gl X "sorted") (hm : X.mg "sorted" = none) (ha : QA X [e] t) (hp : Zn e = true := by rfl) (hc : X.calm = true := by rfl) : QE X (.Call (.Name "sorted" p) [e] [] pos) (tCB ZfW t) :=
 ⟨ZaC (Zf5 hc) hg hm (by decide +kernel) ha.h (by decide) (by decide) (Zl hp) rfl⟩
end
end My
namespace My
open PySem PySem.Spec L2
open PyProof.Rows hiding St
theorem Zc6 : ∀ {ns : List Int} {us : List Value}, Vals (ns.map V.int) us -> ∃ ps : List (Int × Tok), us = ps.map (fun p => Value.int p.1 p.2) /\ ps.map (·.1) = ns
 | [], us, h => by cases h; exact ⟨[], rfl, rfl⟩
 | n :: ns, us, h => by
  cases h with
  | cons h1 h2 =>
   obtain ⟨t, rfl⟩ := h1
   obtain ⟨ps, rfl, e⟩ := Zc6 h2
   exact ⟨(n, t) :: ps, rfl, by rw [Yq, e]⟩
theorem Zb2 {ps : List (Int × Tok)} : ∀ i, i <= ps.length -> preSum (numAt ps.toArray) i = ((ps.map (·.1)).take i).sum
 | 0, _ => rfl
 | i + 1, h => by
  have hi : i < ps.length := h
  show preSum (numAt ps.toArray) i + numAt ps.toArray i = _
  rw [Zb2 i (Yr hi), Yp, Yh, Yc hi]
  simp [numAt, hi]
section
variable {X : Cx} {e : Expr} {t : TA} {p pos : Pos}
def Zjc : List V -> Hp -> VK -> Prop := fun xs H Q => ∃ (a : Addr) (ns : List Int), xs = [.ref a] /\ H a = some (.lst (ns.map V.int)) /\ Q (.int ns.sum) H
theorem Ziw (hc : X.calm = true) : CallR X (.builtin "sum") Zjc := by
 intro pins s σ H xs us Q I r h
 obtain ⟨a, ns, rfl, e, q⟩ := h
 obtain ⟨u, rfl, ru⟩ := Jn r
 cases ru
 obtain ⟨_, its, n, hv, g⟩ := I.hok a _ e
 obtain ⟨ps, rfl, ens⟩ := Zc6 hv
 have hL : s.heap.IsList a (intItems ps.toArray) := ⟨_, g, rfl, n, by simp [intItems]⟩
 refine call_sum_walkG (iter_intList hL fun s₂ es st hfp hlI => ?_)
 subst es
 refine ⟨_, _, _, _, _, _, numAt ps.toArray, rfl, Walks.list (A := X.A.in1) (I.ok.hd hc) _ a hlI (intItems ps.toArray), st, hfp, (fun _ _ => intItems_at), fun h' tk t' hk => ?_⟩
 have hsz : (intItems ps.toArray).size = ps.length := by simp [intItems]
 rw [hsz, Zb2 _ (Yd _), ens, List.take_of_length_le (by rw [<- ens, Yi]; exact Yd _)]
 exact ⟨.int ns.sum, H, I.kept (old_kept hk), ⟨t', rfl⟩, q⟩
theorem Zih (hg : Gl X "sum") (hm : X.mg "sum" = none) (ha : QA X [e] t) (hp : Zn e = true := by rfl) (hc : X.calm = true := by rfl) : QE X (.Call (.Name "sum" p) [e] [] pos) (tCB Zjc t) :=
 ⟨ZaC (Ziw hc) hg hm (by decide +kernel) ha.h (by decide) (by decide) (Zl hp) rfl⟩
end
end My
namespace My
open PySem PySem.Spec L2
open PyProof.Rows hiding St
section
variable {X : Cx} {pins : List (Addr × Obj)} {σ : St} {H : Hp} {s : Shared} {a : Addr} {kvs : List (ZA × V)}
end
section
variable {X : Cx} {o e f : Expr} {apos cpos : Pos} {td ty tx : TE}
end
end My
namespace My
open PySem PySem.Spec L2
open PyProof.Rows hiding St
section
variable {X : Cx} {a b : Expr} {p2 pos : Pos} {tx tb : TE}
end
end My
set_option maxHeartbeats 4000000
namespace L2
open PySem PySem.Spec PyProof.Rows PySem.W
def ZeR (H : Hp) (P : Addr) (q : Str) : Prop := ∃ t, H P = some (.tbl #[.str q t])
def ZcA (mg : Str -> Option Value) (h : Heap) : Prop := ∃ bm o, mg "__builtins__" = some (.ref bm) /\ bm ≠ builtinsNs /\ h.get? bm = some o /\ o.cls = .type "module" /\ o.dict = some builtinsNs /\ o.data = .plain
theorem Zh7 {P : Program} {w : World} {K : PySem.W.Frag} {mg mb : Str -> Option Value} {CX : CXT} {k : Nat} {fa a : Addr} {fd : FuncData} {x : Str} {sp : Sp} {s₁ : Shared} {vs : List Value} {ns : List Int} {T : Addr -> Option Str}
  (KX : K.In s₁.heap) (hns : s₁.heap.Ns mainGlobals mg) (hb : s₁.heap.Ns builtinsNs mb) (hbb : ∀ x : Str, x ≠ "__name__" -> mb x = bootBuiltins x) (hlim : s₁.heap.NoLimit) (hg : s₁.gens = #[])
  (ha : s₁.heap.get? a = some { cls := .type "list", data := .seq vs.toArray }) (hi : IntsAre vs ns) (hl : ns.length <= sizeLine) (hr : Room k callerA)
  (hT : ∀ b q, T b = some q -> (∃ c, CodeHd s₁.heap c b) /\ s₁.heap.get? b = some (tabObj #[])) (hKT : ∀ b q, T b = some q -> K.lookup b = none)
  (hB : ZcA mg s₁.heap) (F : ∀ base : Heap, K.In base -> base.Ns mainGlobals mg -> ZcA mg base -> FnOk P w K mg base CX k fa fd [x] sp) (hbind : ∀ (s : Shared) (u : Value), BindsTo s fd ⟨[u], []⟩ [(x, u)])
  (hsp : ∀ H : Hp, (∀ b q, T b = some q -> ZeR H b q) -> SqL K H a (ns.map V.int) -> sp [.ref a] H (fun v _ => v = .bl true) fun _ _ _ => False)
  (hCX : ∀ H e s', CX [] H s₁ (fun _ _ _ => False) e s' -> False) :
  codeAny (model P w) callerA (.call (.ref fa) ⟨[.ref a], []⟩) (fun r s' => r = .ok (.ret (.bool true)) /\ OldK s₁.heap s'.heap /\ s'.os = s₁.os /\ AllBare s'.gens) s₁ := by
 have rv := ZaY hi
 have lenV := hi.length
 let so : Obj := { cls := .type "list", data := .seq vs.toArray }
 have hTa : T a = none := by
  cases q : T a with
  | none => rfl
  | some z =>
   have e := (hT a z q).2
   rw [ha] at e
   cases e
 -- what may be tracked: the script, or a table
 have core : ∀ H : Hp, (∀ b u, H b = some u -> (b = a /\ K.lookup a = none /\ u = .frz so (.lst (ns.map V.int))) \/ ∃ q, T b = some q /\ u = .tbl #[.str q 0]) -> (∀ b q, T b = some q -> ZeR H b q) -> SqL K H a (ns.map V.int) ->
   codeAny (model P w) callerA (.call (.ref fa) ⟨[.ref a], []⟩) (fun r s' => r = .ok (.ret (.bool true)) /\ OldK s₁.heap s'.heap /\ s'.os = s₁.os /\ AllBare s'.gens) s₁ := by
  intro H hO hTH hS
  have hok : HOk P w H s₁.heap := fun b u e => by
   rcases hO b u e with ⟨rfl, _, rfl⟩ | ⟨q, hq, rfl⟩
   ·exact ⟨ha, by rw [Yi]; exact hl, vs, _, rv, ha⟩
   ·exact ⟨#[], (hT b q hq).2, trivial, fun pos v z => by cases z⟩
  have free : ∀ {b : Addr} {o : Obj}, s₁.heap.get? b = some o -> (∀ xs n, o.data ≠ .seq xs n) -> (∀ ps, o.data ≠ .fields ps) -> H b = none := fun {b o} e d1 d2 => by
   cases q : H b with
   | none => rfl
   | some u =>
    rcases hO b u q with ⟨rfl, _, _⟩ | ⟨z, hz, _⟩
    ·rw [ha] at e; cases e; exact absurd rfl (d1 _ _)
    ·rw [(hT b z hz).2] at e; cases e; exact absurd rfl (d2 _)
  have nsK : ∀ {b : Addr} {m : Str -> Option Value}, s₁.heap.Ns b m -> (Zks s₁.heap H).Ns b m := fun {b m} ⟨o, es, ep, e, d, r⟩ =>
   ⟨o, es, ep, Zdz e (free e (fun _ _ z => by rw [d] at z; cases z) fun _ z => by rw [d] at z; cases z), d, r⟩
  have hKb : K.In (Zks s₁.heap H) := fun b o e => Zdz (KX b o e) (by
   cases q : H b with
   | none => rfl
   | some u =>
    rcases hO b u q with ⟨rfl, z, _⟩ | ⟨z, hz, _⟩
    ·rw [z] at e; cases e
    ·rw [hKT b z hz] at e; cases e)
  have hM : Mod K mg (Zks s₁.heap H) := ⟨hKb, nsK hns, ⟨mb, nsK hb, hbb⟩, let ⟨mc, h1, h2⟩ := hlim; ⟨mc, nsK h1, h2⟩⟩
  have hBb : ZcA mg (Zks s₁.heap H) := by
   obtain ⟨bm, o, b1, b2, b3, b4, b5, b6⟩ := hB
   exact ⟨bm, o, b1, b2, Zdz b3 (free b3 (fun _ _ z => by rw [b6] at z; cases z) fun _ z => by rw [b6] at z; cases z), b4, b5, b6⟩
  have e0 : Env0 P w K mg (Zks s₁.heap H) callerA [] s₁ H := ⟨rfl, hM, fun b o e => ZmJ e, Nat.le_of_eq (ZgW _ _), trivial, fun b hb => absurd (show b ∈ ([] : List Addr) from hb) (by simp), hok, .of_eq hg⟩
  refine YV ((F _ hKb (nsK hns) hBb).run callerA [] s₁ H ⟨[.ref a], []⟩ [.ref a] [.ref a] _ _ hr e0 (hbind s₁ (.ref a)) (.cons rfl .nil) (hsp H hTH hS)) fun r s' h => ?_
  match r, h with
  | .error e, h => exact (hCX H e s' h).elim
  | .ok .next, h => exact False.elim h
  | .ok .brk, h => exact False.elim h
  | .ok .cont, h => exact False.elim h
  | .ok (.ret u), h =>
   obtain ⟨v, H', os, bare, un, hok', r', q⟩ := h
   have q' : v = .bl true := q
   subst q'
   obtain rfl : u = Value.bool true := r'
   have kept : ∀ b o, s₁.heap.get? b = some o -> s'.heap.get? b = some o \/ ∃ ps, o = tabObj #[] /\ isCodeTable s₁.heap b /\ s'.heap.get? b = some (tabObj ps) := fun b o e => by
    cases q : H b with
    | none => exact .inl (un.keep b o e q (by intro z; exact absurd (show b ∈ ([] : List Addr) from z) (by simp)) (by simp))
    | some u =>
     rcases hO b u q with ⟨rfl, _, rfl⟩ | ⟨z, hz, rfl⟩
     ·obtain ⟨e2, _⟩ := hok' b _ (un.frzs b _ _ q)
      rw [ha] at e
      cases e
      exact .inl e2
     ·obtain ⟨more, q2⟩ := un.tbls b _ q
      obtain ⟨ps, e2, _⟩ := hok' b _ q2
      obtain ⟨⟨c, hc⟩, e3⟩ := hT b z hz
      rw [e3] at e
      cases e
      exact .inr ⟨ps, rfl, (hc.tab e3).isCodeTable, e2⟩
   refine ⟨rfl, ⟨fun b o e => ?_, fun b o e => ?_⟩, os, bare⟩
   ·rcases kept b o e with z | ⟨ps, rfl, ht, z⟩
    ·exact .inl z
    ·exact .inr (.inl ⟨ht, rfl, #[], ps, rfl, by rw [Array.empty_append]; exact z⟩)
   ·rcases kept b o e with z | ⟨ps, rfl, ht, z⟩
    ·exact ⟨o, z⟩
    ·exact ⟨_, z⟩
 cases hk : K.lookup a with
 | some o =>
  have e := KX a o hk
  rw [ha] at e
  cases e
  refine core (fun b => (T b).map fun q => .tbl #[.str q 0]) (fun b u z => ?_) (fun b q z => ⟨0, by simp [z]⟩) (.inr ⟨_, vs.toArray, _, hk, rfl, rfl, rfl, by rw [List.size_toArray, lenV]; exact hl, by simpa using rv⟩)
  obtain ⟨q, h1, h2⟩ := YD.mp z
  exact .inr ⟨q, h1, h2.symm⟩
 | none =>
  refine core (fun b => if b = a then some (.frz so (.lst (ns.map V.int))) else (T b).map fun q => .tbl #[.str q 0]) (fun b u z => ?_) (fun b q z => ⟨0, ?_⟩) (.inl (.inr ⟨so, if_pos rfl⟩))
  ·by_cases hb : b = a
   ·have z' := (if_pos hb).symm.trans z
    cases z'
    exact .inl ⟨hb, hk, rfl⟩
   ·have z' := (if_neg hb).symm.trans z
    obtain ⟨q, h1, h2⟩ := YD.mp z'
    exact .inr ⟨q, h1, h2.symm⟩
  ·have hb : b ≠ a := fun e => by rw [e, hTa] at z; cases z
   show (if b = a then some (HO.frz so (.lst (ns.map V.int))) else (T b).map fun q => .tbl #[.str q 0]) = _
   rw [if_neg hb, z]
   rfl
theorem Zf3 (pos pos' : Pos) (c : Value) (l : List Value) (h : TriplesOk l) (v : Value) (e : codeAmong pos' (l ++ [rawInt pos.line, rawInt pos.col, c]) = some v) : codeAmong pos' l = some v \/ v = c := by
 fun_induction TriplesOk l with
 | case1 =>
  simp only [List.nil_append, codeAmong, rawInt] at e
  split at e
  ·cases e; exact .inr rfl
  ·cases e
 | case2 a t b u x rest ih =>
  simp only [List.cons_append, codeAmong] at e ⊢
  split at e
  ·rename_i q
   rw [if_pos q]
   exact .inl e
  ·rename_i q
   rw [if_neg q]
   exact ih h e
 | case3 => exact h.elim
def ZqL (P : Addr) (q : Str) (clos : List (Str × Addr)) (params : Arguments) (body : Expr) (scope : Scope) : TE := fun _ H Q =>
 ∃ t, H P = some (.tbl #[.str q t]) /\ ∀ (f c' : Addr) (oc : Obj) (pm ctv : Value) (vs : Array Value) (t' : Tok) (H2 : Hp), H f = none -> H2 f = some (.frz (kla_obj "<lambda>" q params body scope clos pm c' ctv) (.own P)) ->
  H2 c' = some (.frz oc (.own P)) -> oc.data = .fields vs -> vs[1]? = some (.str q t') -> Same H H2 -> Q (.ref f) H2
theorem Zo3 {X : Cx} {params : Arguments} {body : Expr} {scope : Scope} {pos : Pos} {c P : Addr} {q : Str} {clos : List (Str × Addr)} (hdef : defaultsOf params X.env = ([], [])) (hcl : closureFor scope X.env = pure clos) (hcode : X.env.code = .ref c)
  (hC : CodeHd X.base c P) (hb : X.base.BuiltinsAt X.mg P) (hq : X.env.qual ++ "<lambda>" = q) : PE X (.Lambda params body scope pos) (ZqL P q clos params body scope) := by
 intro pins s σ H Q I ⟨t, hP, k⟩
 subst hq
 obtain ⟨qs, e, ht, hf⟩ := I.hok P _ hP
 have hgs : s.heap.Ns mainGlobals X.mg := I.ok.mod.glob.keeps I.bk
 obtain ⟨bm, ob, b1, b2, b3, b4, b5, b6⟩ := hb
 have hb' : s.heap.BuiltinsAt X.mg P := ⟨bm, ob, b1, b2, b3, b4, I.bk _ _ b5, b6⟩
 have hgP : mainGlobals ≠ P := fun z => by
  obtain ⟨o, es, ep, e1, _⟩ := I.ok.mod.glob
  have := (I.bs _ _ e1).2
  rw [z, hP] at this
  cases this
 have same : ∀ {f : Addr} {u : HO}, H f = none -> Same H (upd H f u) := fun h b o z => by rw [Zf (Zk z h)]; exact z
 cases hn : codeAmong pos qs.toList with
 | some v =>
  obtain ⟨c', oc, vs, q0, t0, t1, rfl, h1, h2, h3, h4⟩ := hf pos v hn
  have hq0 : q0 = X.env.qual ++ "<lambda>" := by
   have h5 : some (Value.str (X.env.qual ++ "<lambda>") t) = some (.str q0 t1) := h4
   cases h5
   rfl
  subst hq0
  refine kla_eval hdef (kla_makeFunctionHit (mg := X.mg) hcl I.ok.glob hgs hcode (hC.keeps I.bk) e ht hn hb' fun ctv h' tk hk hsz => ?_)
  have hF : H h'.objs.size = none := I.hok.fresh hsz
  refine ⟨.ref h'.objs.size, upd H h'.objs.size (.frz _ (.own P)), I.laid (t' := tk) (fun b o z => Yf _ (hk b o z)) hsz ⟨Ym _ rfl, ⟨_, Ym _ rfl⟩⟩, rfl, ?_⟩
  exact k _ c' oc _ ctv vs t0 _ hF upd_same (same hF _ _ h1) h2 h3 (same hF)
 | none =>
  refine kla_eval hdef (kla_makeFunction (mg := X.mg) hcl I.ok.glob hgs hcode (hC.keeps I.bk) e ht hn hgP hb' fun c' ctv h' tk hx hge hlt hrec htb => ?_)
  obtain ⟨c2, oc, vs, t2, e2, hoc, hd, hv⟩ := hrec
  cases e2
  have hc : H c' = none := I.hok.fresh hge
  have hF0 : s.heap.objs.size <= h'.objs.size := Yj hge (Yr hlt)
  have hF : H h'.objs.size = none := I.hok.fresh hF0
  have hne : c' ≠ h'.objs.size := Yk hlt
  let fo : Obj := kla_obj "<lambda>" (X.env.qual ++ "<lambda>") params body scope clos ((X.mg "__name__").getD .none) c' ctv
  let H1 : Hp := upd H c' (.frz oc (.own P))
  let H2 : Hp := upd H1 h'.objs.size (.frz fo (.own P))
  have hF1 : H1 h'.objs.size = none := by show upd H c' _ _ = _; rw [Zf (Ne.symm hne)]; exact hF
  have old : ∀ b o, H b = some o -> H2 b = some o := fun b o z => by
   show upd H1 _ _ b = _
   rw [Zf (Zk (same hc b o z) hF1)]
   exact same hc b o z
  have keep : ∀ b u, b ≠ P -> s.heap.get? b = some u -> (h'.push fo).get? b = some u := fun b u hb z => Yf _ (hx b u hb z)
  have neP : ∀ b, H b = none -> b ≠ P := fun b z w => by rw [w, hP] at z; cases z
  have atc : H2 c' = some (.frz oc (.own P)) := by show upd H1 _ _ c' = _; rw [Zf hne]; exact upd_same
  have tab : (h'.push fo).get? P = some (tabObj (qs ++ #[rawInt pos.line, rawInt pos.col, .ref c'])) := Yf _ htb
  have un : Un X.fs [] H H2 s.heap (h'.push fo) := ⟨fun b o z n _ _ => keep b o (neP b n) z, fun b o z n _ _ => ⟨o.slots, keep b o (neP b n) z⟩, fun b o z n _ => by
    have hlt : b < s.heap.objs.size := Ye z
    show upd H1 _ _ b = _
    rw [Zf (Yk (Yt hlt hF0))]
    show upd H _ _ b = _
    rw [Zf (Yk (Yt hlt hge))]
    exact n, fun b o z _ => by
    by_cases w : b = P
    ·subst w; exact ⟨_, tab⟩
    ·exact ⟨o, keep b o w z⟩, fun b xs z => old b _ z, fun b o u z => old b _ z, fun b ps z => ⟨#[], by rw [Array.append_empty]; exact old b _ z⟩⟩
  have hok : HOk X.prog X.w H2 (h'.push fo) := fun b u z => by
   by_cases w1 : b = h'.objs.size
   ·subst w1
    have z' : some (HO.frz fo (.own P)) = some u := upd_same.symm.trans z
    cases z'
    exact ⟨Ym _ rfl, ⟨_, Ym _ rfl⟩⟩
   ·by_cases w2 : b = c'
    ·subst w2
     rw [atc] at z
     cases z
     exact ⟨Yf _ hoc, ⟨_, Yf _ hoc⟩⟩
    ·have z' : H b = some u := by
      have z2 : upd H1 h'.objs.size (.frz fo (.own P)) b = some u := z
      rw [Zf w1] at z2
      have z3 : upd H c' (.frz oc (.own P)) b = some u := z2
      rw [Zf w2] at z3
      exact z3
     by_cases w3 : b = P
     ·subst w3
      rw [hP] at z'
      cases z'
      refine ⟨_, tab, ?_, fun pos' v g => ?_⟩
      ·rw [Array.toList_append]; exact TriplesOk_snoc _ _ _ _ ht
      ·rw [Array.toList_append] at g
       rcases Zf3 pos pos' _ _ ht v g with g | g
       ·obtain ⟨c3, o3, v3, q3, t3, t4, g1, g2, g3⟩ := hf pos' v g
        exact ⟨c3, o3, v3, q3, t3, t4, g1, old _ _ g2, g3⟩
       ·exact ⟨c', oc, vs, _, t2, t, g, atc, hd, hv, rfl⟩
     ·refine (I.hok b u z').stay (fun x v hxx g => keep x v (fun w => ?_) g) (fun x g => old x _ g) (fun x xs g => old x _ g) fun x o g => old x _ g
      rcases hxx with w4 | w4
      ·exact w3 (w4.symm.trans w)
      ·rw [w, hP] at w4
       cases w4
  exact ⟨.ref h'.objs.size, H2, I.un (t' := tk) un hok, rfl, k _ c' oc _ ctv vs t2 H2 hF upd_same atc hd hv old⟩
theorem Za7 {u : Value} {y : Str} : ∀ {ps : List Str} {us : List Value} {i : Nat}, ps.Nodup -> us.length = ps.length -> ps[i]? = some y -> us[i]? = some u -> (ps.zip us).reverse.lookup y = some u
 | [], _, _, _, _, h, _ => by simp at h
 | _ :: _, [], _, _, h, _, _ => by simp at h
 | p :: ps, v :: us, 0, nd, _, h1, h2 => by
  simp at h1 h2
  subst h1 h2
  rw [List.zip_cons_cons, List.reverse_cons]
  have : (ps.zip us).reverse.lookup p = none := by
   rw [List.lookup_eq_none_iff]
   intro z hz
   have hz' := (VO (a := z.1) (b := z.2) (List.mem_reverse.mp hz)).1
   simp only [beq_eq_false_iff_ne, ne_eq, Bool.not_eq_true, bne_iff_ne]
   intro e
   exact (Y4.mp nd).1 (by rw [e]; exact hz')
  rw [List.lookup_append, this]
  simp
 | p :: ps, v :: us, i + 1, nd, hl, h1, h2 => by
  rw [List.zip_cons_cons, List.reverse_cons, List.lookup_append, Za7 (List.nodup_cons.mp nd).2 (by simpa using hl) (by simpa using h1) (by simpa using h2)]
  rfl
def ZkD (CX : CXT) (P : Program) (w : World) (K : PySem.W.Frag) (mg : Str -> Option Value) (base : Heap) (N : List Str) (q : Str) (scope : Scope) (f c' : Addr) (clos : List (Str × Addr)) (A : Around) (outer : List Env) (s : Shared) (H : Hp) (E : XK) : Cx where
 prog := P
 w := w
 K := K
 mg := mg
 base := base
 A := A.deeper (envX q scope s.heap.objs.size f (.ref c') clos)
 N := N
 s₀ := s
 H₀ := H
 env := envX q scope s.heap.objs.size f (.ref c') clos
 outer := outer
 stack := envX q scope s.heap.objs.size f (.ref c') clos :: outer
 ex := []
 calm := true
 fn := fun _ => false
 pn := []
 xe := fun e s' => wpAny (model P w) (A.deeper (envX q scope s.heap.objs.size f (.ref c') clos)) (leaving (envX q scope s.heap.objs.size f (.ref c') clos) e) (fun _ s'' => CX outer H s E e s'') (fun e' s'' => CX outer H s E e' s'') s'
structure LamScope (ps fs : List Str) (sc : Scope) (clos : List (Str × Addr)) : Prop where
 kind : sc.kind = .function
 co : sc.isCoroutine = false
 gen : sc.isGenerator = false
 nd : (ps ++ fs).Nodup
 par : ∀ x ∈ ps, sc.names.lookup x = some .local
 fre : ∀ x ∈ fs, sc.names.lookup x = some .free
 nocell : ∀ y ∈ sc.names, y.2 ≠ .cell
 has : ∀ y, sc.names.lookup y = some .free -> ∃ c, clos.lookup y = some c
structure Frees (fs : List Str) (ws : List V) (clos : List (Str × Addr)) (outer : List Env) (H : Hp) (h : Heap) : Prop where
 len : fs.length = ws.length
 val : ∀ (i : Nat) (x : Str) (v : V), fs[i]? = some x -> ws[i]? = some v -> ∃ c u, clos.lookup x = some c /\ RelV v u /\ h.IsCell c (some u)
 cell : ∀ x c, clos.lookup x = some c -> (∃ v, h.IsCell c v) /\ H c = none
 inj : ∀ x y c, clos.lookup x = some c -> clos.lookup y = some c -> x = y
theorem ZoY {CX : CXT} {P : Program} {w : World} {K : PySem.W.Frag} {mg : Str -> Option Value} {base : Heap} {k : Nat} {f c' : Addr} {q : Str} {params : Arguments} {body : Expr} {scope : Scope} {clos : List (Str × Addr)} {pm ctv : Value} {ps fs : List Str}
  {A : Around} {outer : List Env} {s : Shared} {H : Hp} {args : Args} {us : List Value} {vs ws : List V} {Q : VK} {E : XK} {t : TE}
  (hr : Room (k + 1) A) (e0 : Env0 P w K mg base A outer s H) (ho : s.heap.get? f = some (kla_obj "<lambda>" q params body scope clos pm c' ctv)) (hcd : s.heap.CodeRec (.ref c') q)
  (hbind : bindArgs (kla_fn "<lambda>" q params body scope clos pm (.ref c') ctv) args = pure (ps.zip us)) (hl : vs.length = ps.length) (r : Vals vs us) (S : LamScope ps fs scope clos) (W : Frees fs ws clos outer H s.heap)
  (hbody : PE (ZkD CX P w K mg base (ps ++ fs) q scope f c' clos A outer s H E) body t) (hq : t ((vs ++ ws).map some) H Q) : codeAny (model P w) A (.call (.ref f) args) (CR CX outer P w H s Q E) s := by
 have lim : s.heap.NoLimit := e0.mod.nolimit.keeps fun b o e => (e0.bs b o e).1
 have hlu : us.length = ps.length := by rw [<- r.length]; exact hl
 refine kla_callFunE (by have := hr.dp; omega) ho rfl S.co S.gen rfl hcd ?_
 rw [hbind]
 refine Yb (wpAny_newFunctionEnv S.nocell (fun y hy => S.par _ (VO hy).1) (fun h₁ hns hsb => ⟨lim.fresh _ hsb, ?_⟩) S.kind)
 show codeAny _ _ (.expr body (envX q scope s.heap.objs.size f (.ref c') clos)) _ _
 have hk : ∀ b o, s.heap.get? b = some o -> h₁.get? b = some o := fun b o e => hsb.extBut b o (Yk (Ye e)) (Yf _ e)
 have I : Inv (ZkD CX P w K mg base (ps ++ fs) q scope f c' clos A outer s H E) [] ((vs ++ ws).map some) H { s with heap := h₁, toks := s.toks + (ps.zip us).length } := by
  have noA : ∀ b : Addr, b ∉ (ZkD CX P w K mg base (ps ++ fs) q scope f c' clos A outer s H E).ex := fun b z => absurd (show b ∈ ([] : List Addr) from z) (by simp)
  refine ⟨⟨e0.mod, S.kind, rfl, rfl, Yd _, W.inj, fun y hy => ?_, fun y c z _ => absurd z Yz, fun _ => hr.hd, Around.frames_deeper e0.frames, .inr ⟨rfl, rfl⟩, fun b z => absurd z (noA b), e0.bs, e0.bsz, fun b _ _ => noA b, fun b z => absurd z (noA b), e0.funs, e0.frf⟩,
   rfl, e0.bare, Un.kept hk, ⟨_, hns, fun i y v h1 h2 h3 => ?_⟩, fun y c h => ?_, e0.hok.fresh (Nat.le_refl _), fun y c h => (W.cell y c h).2, fun p hp => absurd (show p ∈ ([] : List (Addr × Obj)) from hp) (by simp), e0.hok.kept hk, ?_⟩
  ·have hy : scope.names.lookup y = some .cell \/ scope.names.lookup y = some .free := hy
   rcases hy with hy | hy
   ·exact absurd rfl (S.nocell _ (Vb hy))
   ·exact S.has y hy
  ·have h1 : (ps ++ fs)[i]? = some y := h1
   rw [Yh] at h2
   obtain ⟨v', h2, h4⟩ := YD.mp h2
   cases h4
   by_cases hi : i < ps.length
   ·rw [Y8 hi] at h1
    rw [Y8 (by omega)] at h2
    obtain ⟨u, hu, rv⟩ := r.get h2
    refine ⟨u, rv, .inl ⟨S.par y (Yo h1), ?_⟩⟩
    have nd : ps.Nodup := (Yaq.mp S.nd).1
    exact Za7 nd hlu h1 hu
   ·rw [YZ (by omega)] at h1
    rw [YZ (by omega), hl] at h2
    obtain ⟨c, u, g1, g2, g3⟩ := W.val _ y v h1 h2
    obtain ⟨o, g4, g5⟩ := g3
    exact ⟨u, g2, .inr ⟨.inr (S.fre y (Yo h1)), c, g1, o, hk _ _ g4, g5⟩⟩
  ·obtain ⟨⟨v, o, g1, g2⟩, _⟩ := W.cell y c h
   exact ⟨v, o, hk _ _ g1, g2⟩
  ·show ((vs ++ ws).map some).length = (ps ++ fs).length
   rw [Yi, YS, YS, hl, W.len]
 refine kla_codeExpr (Yu (hbody [] _ _ H Q I hq) (fun v s' hs => ?_) fun e s' hs => hs)
 obtain ⟨x, H', J, rv, g⟩ := hs
 exact ⟨x, H', J.os, J.bare, J.base, J.hok, rv, g⟩
end L2
namespace My
open PySem PySem.Spec L2
open PyProof.Rows hiding St
def Zpu (h : Heap) (ex : List Addr) : List (Addr × Obj) := (List.range h.objs.size).filterMap fun a => if a ∈ ex then none else (h.get? a).map fun o => (a, o)
theorem mem_led3 {h : Heap} {ex : List Addr} {a : Addr} {o : Obj} : (a, o) ∈ Zpu h ex ↔ a ∉ ex /\ h.get? a = some o := by
 unfold Zpu
 rw [List.mem_filterMap]
 constructor
 ·rintro ⟨b, _, e⟩
  split at e
  ·cases e
  ·rename_i hb
   obtain ⟨o', ho, e'⟩ := YD.mp e
   cases e'
   exact ⟨hb, ho⟩
 ·rintro ⟨n1, ho⟩
  refine ⟨a, Vj.mpr (Ye ho), ?_⟩
  rw [if_neg n1, ho] <;> rfl
def Zb1 (b : Bool) (ks : List Int) (xs ys : List V) : Prop := ∃ ps : List (Int × V), ps.Perm (ks.zip xs) /\ ys = ps.map Prod.snd /\ ps.Pairwise (fun p q => if b then q.1 <= p.1 else p.1 <= q.1)
theorem Zi1 {zs : List (Int × V)} {ws ps : List (Int × Value)} (h : Paired (fun (p : Int × V) (q : Int × Value) => p.1 = q.1 /\ RelV p.2 q.2) zs ws) (p : ps.Perm ws) : ∃ qs : List (Int × V), qs.Perm zs /\ Paired (fun (p : Int × V) (q : Int × Value) => p.1 = q.1 /\ RelV p.2 q.2) qs ps := by
 induction p generalizing zs with
 | nil => exact ⟨zs, .refl _, h⟩
 | @cons x l1 l2 _ ih =>
  cases h with
  | @cons a b as bs h1 h2 =>
   obtain ⟨qs, g1, g2⟩ := ih h2
   exact ⟨_ :: qs, .cons _ g1, .cons h1 g2⟩
 | @swap x y l =>
  cases h with
  | @cons a b as bs h1 h2 =>
   cases h2 with
   | @cons c d cs ds h3 h4 => exact ⟨_, .swap _ _ _, .cons h3 (.cons h1 h4)⟩
 | @trans l1 l2 l3 _ _ ih1 ih2 =>
  obtain ⟨q2, g1, g2⟩ := ih2 h
  obtain ⟨q1, g3, g4⟩ := ih1 g2
  exact ⟨q1, g3.trans g1, g4⟩
theorem ZfC : ∀ {ks : List Int} {xs : List V} {vs : List Value}, Vals xs vs -> Paired (fun (p : Int × V) (q : Int × Value) => p.1 = q.1 /\ RelV p.2 q.2) (ks.zip xs) (ks.zip vs)
 | [], _, _, _ => by rw [List.zip_nil_left, List.zip_nil_left]; exact .nil
 | _ :: _, _, _, .nil => .nil
 | k :: ks, _, _, .cons h1 h2 => .cons ⟨rfl, h1⟩ (ZfC h2)
theorem Zko {b : Bool} {ks : List Int} {xs : List V} {vs out : List Value} (hv : Vals xs vs) (h : KskOut b ks vs out) : ∃ ys, Vals ys out /\ Zb1 b ks xs ys := by
 obtain ⟨ps, h1, rfl, h3⟩ := h
 obtain ⟨qs, g1, g2⟩ := Zi1 (ZfC (ks := ks) hv) h1
 refine ⟨qs.map Prod.snd, ?_, qs, g1, rfl, ?_⟩
 ·clear h1 h3 g1
  induction g2 with
  | nil => exact .nil
  | cons h _ ih => exact .cons h.2 ih
 ·clear h1 g1
  induction g2 with
  | nil => exact .nil
  | @cons p q ps' qs' h t ih =>
   rw [List.pairwise_cons] at h3 ⊢
   refine ⟨fun x hx => ?_, ih h3.2⟩
   have : ∃ y ∈ qs', x.1 = y.1 := by
    clear ih h3
    induction t with
    | nil => cases hx
    | cons h' _ ih' =>
     rcases Yn.mp hx with rfl | hx
     ·exact ⟨_, Vc .., h'.1⟩
     ·obtain ⟨y, hy, e⟩ := ih' hx
      exact ⟨y, Y1 _ hy, e⟩
   obtain ⟨y, hy, e⟩ := this
   have := h3.1 y hy
   rw [h.1, e]
   exact this
end My
namespace My
open PySem PySem.Spec L2
open PyProof.Rows hiding St
section
variable {X : Cx} {pins : List (Addr × Obj)} {σ : St} {H : Hp} {s : Shared} {l : Addr} {xs : List V} {ks : List Int} {b : Bool} {f : Value} {kw : List (Str × Value)} {E : Value -> Shared -> Prop} {Q : Value -> Shared -> Prop}
theorem Zkd {D kS : Addr} {oK oD : Obj} {H1 : Hp} {s1 : Shared} {h' : Heap} {tk c : Nat} {out : Array Value} {ys : List V} (I : Inv X (pins ++ [(kS, oK), (D, oD)]) σ H1 s1) (fD : Jy X pins H1 D) (fK : Jy X pins H1 kS)
  (ns : ∀ m, s1.heap.Ns X.env.locals m -> h'.Ns X.env.locals m) (kp : ∀ a o, a ≠ X.env.locals -> a ≠ kS -> a ≠ D -> s1.heap.get? a = some o -> h'.get? a = some o) (eD : h'.get? D = some (seqObj "list" out c)) (hz : ys.length <= sizeLine) (hv : Vals ys out.toList) :
  Inv X pins σ (upd H1 D (.lst ys)) { s1 with heap := h', toks := tk } := by
 have I0 : Inv X pins σ H1 s1 := I.unpinned
 have ne : ∀ {a : Addr} {o : HO}, H1 a = some o -> a ≠ D /\ a ≠ kS := fun e => ⟨Zk e fD.1, Zk e fK.1⟩
 have off : ∀ {a : Addr} {o : HO}, H1 a = some o -> upd H1 D (.lst ys) a = some o := fun e => by rw [Zf (ne e).1]; exact e
 refine I0.step (g' := s1.gens) (d' := s1.drawn) (t' := tk) (ch := [kS, D]) (fun a ha => ?_) (fun a o h1 _ hc e _ => ?_) (fun a o h1 _ hc e _ => ?_) (fun a o hc e n => ?_) (fun a o hc e => ?_) (fun a zs e => off e) (fun a o u e => off e) (fun a ps e => ⟨#[], by rw [Array.append_empty]; exact off e⟩) ns (fun a u e => ?_) I0.bare
 ·rcases Yn.mp ha with rfl | ha
  ·exact ⟨fK.2.2.2.1, fK.2.1, fK.2.2.2.2.1, fK.2.2.2.2.2⟩
  ·rw [YH.mp ha]
   exact ⟨fD.2.2.2.1, fD.2.1, fD.2.2.2.2.1, fD.2.2.2.2.2⟩
 ·exact kp a o h1 (fun z => hc (by simp [z])) (fun z => hc (by simp [z])) e
 ·exact ⟨o.slots, kp a o h1 (fun z => hc (by simp [z])) (fun z => hc (by simp [z])) e⟩
 ·rw [Zf (fun z => hc (by simp [z]))]
  exact n
 ·by_cases z : a = X.env.locals
  ·subst z
   obtain ⟨m, hn, _⟩ := I0.loc
   obtain ⟨o', _, _, e', _⟩ := ns m hn
   exact ⟨o', e'⟩
  ·exact ⟨o, kp a o z (fun z => hc (by simp [z])) (fun z => hc (by simp [z])) e⟩
 ·by_cases z : a = D
  ·subst z
   rw [upd_same] at e
   cases e
   exact ⟨hz, out.toList, c, hv, by simpa using eD⟩
  ·rw [Zf z] at e
   have trk : ∀ c' : Addr, (c' = a \/ H1 c' = some (.own a)) -> c' ≠ X.env.locals /\ c' ≠ kS /\ c' ≠ D := fun c' hc => by
    have : ∃ o', H1 c' = some o' := by
     rcases hc with rfl | hc
     ·exact ⟨_, e⟩
     ·exact ⟨_, hc⟩
    obtain ⟨o', e'⟩ := this
    exact ⟨(fun w => by rw [w, I0.free] at e'; cases e'), (ne e').2, (ne e').1⟩
   refine (I0.hok a u e).stay (fun c' v hc q => ?_) (fun c' q => off q) (fun c' zs q => off q) fun c' o q => off q
   obtain ⟨n1, n2, n3⟩ := trk c' hc
   exact kp c' v n1 n2 n3 q
theorem Zkf {D kS : Addr} {e1 : Nat} {vs : List Value} {P : PySem.Fin -> Shared -> Prop} {s0 : Shared} {H0 : Hp} (I : Inv X (pins ++ [(kS, seqObj "list" #[] 0), (D, seqObj "list" #[] e1)]) σ H0 s0) (sH : Same H H0) (hHD : H D = none) (fD : Jy X pins H0 D) (fK : Jy X pins H0 kS) (hDK : kS ≠ D) (hv : Vals xs vs) (hlen : ks.length = xs.length) (h64 : xs.length < 64)
  (turn : ∀ (i : Nat) (x : V) (k : Int), xs[i]? = some x -> ks[i]? = some k -> ∀ (pins' : List (Addr × Obj)) (H' : Hp) (s' : Shared) (u : Value), Inv X pins' σ H' s' -> Same H H' -> RelV x u ->
   wpAny (model X.prog X.w) X.A.in1.in1 (call f [u]) (fun v s'' => ∃ t H'', v = .int k t /\ Inv X pins' σ H'' s'' /\ Same H' H'') (fun _ _ => False) s')
  (h : ∀ (H' : Hp) (s' : Shared) (ys : List V), Inv X pins σ H' s' -> Same H H' -> H' D = some (.lst ys) -> Zb1 b ks xs ys -> P (.done (.ret .none)) s') :
  wpAny (model X.prog X.w) X.A.in1.in1 (ksk_rest D f b vs.toArray e1 (.ref kS)) P E s0 := by
 have hvl : vs.length = xs.length := hv.length.symm
 have mK : ∀ {oK oD : Obj}, (kS, oK) ∈ X.pn ++ (pins ++ [(kS, oK), (D, oD)]) := Yv _ (Yv _ (.head _))
 have mD : ∀ {oK oD : Obj}, (D, oD) ∈ X.pn ++ (pins ++ [(kS, oK), (D, oD)]) := Yv _ (Yv _ (.tail _ (.head _)))
 unfold ksk_rest
 refine Ya (Vs ?_)
 first
  | rw [List.forIn_toArray]
  | (rw [<- Array.forIn_toList]; simp only [List.toList_toArray])
  | rw [<- Array.forIn_toList]
 refine wpAny_bind (ksk_fold (fun i s' => ∃ kA e H', Inv X (pins ++ [(kS, seqObj "list" kA e), (D, seqObj "list" #[] e1)]) σ H' s' /\ Same H H' /\ IntsAre kA.toList (ks.take i)) vs 0 s0 ⟨#[], 0, H0, I, sH, by simpa using IntsAre.nil⟩ ?step ?done)
 case step =>
  rintro j x s' hx ⟨kA, e, H1, I1, sH1, hk⟩
  simp only [Nat.zero_add] at hk ⊢
  have hj : j < vs.length := (Yg.mp hx).1
  obtain ⟨k, hkj⟩ : ∃ k, ks[j]? = some k := ⟨_, Yc (by omega)⟩
  have hxj : xs[j]? = some xs[j] := Yc (by omega)
  obtain ⟨u, hu, rv⟩ := hv.get hxj
  rw [hx] at hu
  cases hu
  have hz : kA.size <= vs.length := by
   have h1 := hk.length
   rw [YG, YM] at h1
   omega
  refine Ya (Yaa (Yu (turn j _ k hxj hkj _ H1 s' x I1 sH1 rv) (fun v s'' he => ?_) fun _ _ hF => hF.elim))
  obtain ⟨t, H2, rfl, I2, sH2⟩ := he
  try dsimp only
  have nk := I2.pin (kS, seqObj "list" kA e) mK
  have na := I2.pin (D, seqObj "list" #[] e1) mD
  have s1 := Yas s''.heap kS (Obj.mapSeq (·.push (.int k t)))
  obtain ⟨c2, hc2⟩ : ∃ c2, (s''.heap.update kS (Obj.mapSeq (·.push (.int k t)))).get? kS = some (seqObj "list" (kA.push (.int k t)) c2) := ⟨_, V8 nk.1 (·.push (.int k t))⟩
  have ek : ks.take (j + 1) = ks.take j ++ [k] := by rw [List.take_add_one, hkj]; simp
  have ea : (kA.push (Value.int k t)).toList = kA.toList ++ [Value.int k t] := by simp
  refine Ya (listUpdate_at nk.1 rfl ?_ (by rw [YK]; omega) (Yj (Vp (Array.size_push ..)) (by rw [YK]; omega)))
  have I3 : Inv X pins σ H2 s'' := I2.unpinned
  have I4 : Inv X pins σ H2 { s'' with heap := s''.heap.update kS (Obj.mapSeq (·.push (.int k t))), toks := s''.toks } := I3.turned (fun b o hb q => (s1.2 b hb).trans q) nk.2.1 fK.2.1 fK.2.2.2.1 fK.2.2.2.2.1 fK.2.2.2.2.2
  refine Yb ⟨rfl, kA.push (.int k t), c2, H2, I4.pins_of fun p hp => ?_, sH1.trans sH2, by rw [ea, ek]; exact ksk_snoc hk⟩
  rcases Yx.mp hp with hp | hp
  ·exact I4.pin p (Yv _ hp)
  ·rcases Yn.mp hp with rfl | hp
   ·exact ⟨hc2, nk.2.1, nk.2.2.1, nk.2.2.2.1, fun v z => by cases z⟩
   ·rw [YH.mp hp]
    exact ⟨(s1.2 D hDK.symm).trans na.1, na.2.1, na.2.2.1, na.2.2.2.1, fun v z => by cases z⟩
 case done =>
  rintro s' ⟨kA, e, H1, I1, sH1, hk⟩
  have hk' : IntsAre kA.toList ks := by
   have e3 : ks.take (0 + vs.length) = ks := List.take_of_length_le (by omega)
   rw [e3] at hk
   exact hk
  have nk := I1.pin (kS, seqObj "list" kA e) mK
  have na := I1.pin (D, seqObj "list" #[] e1) mD
  obtain ⟨m0, hn, _⟩ := id I1.loc
  try dsimp only
  refine Ya (listItems_at nk.1 rfl ?_)
  have N : News (Att.noObjs s'.heap) X.env.locals s'.heap (Zpu s'.heap [X.env.locals, kS, D] ++ [(kS, seqObj "list" kA e), (D, seqObj "list" #[] e1)]) := by
   rintro ⟨a, o⟩ hp
   rcases Yx.mp hp with hp | hp
   ·obtain ⟨g1, g2⟩ := mem_led3.mp hp
    exact ⟨g2, fun z => g1 (by simp [show a = X.env.locals from z]), Att.noObjs_get _ _⟩
   ·rcases Yn.mp hp with q | hp
    ·cases q
     exact ⟨nk.1, fK.2.1, Att.noObjs_get _ _⟩
    ·cases YH.mp hp
     exact ⟨na.1, fD.2.1, Att.noObjs_get _ _⟩
  refine ksk_end_ (h₀ := Att.noObjs s'.heap) (L := X.env.locals) (m := m0) (Att.fr_all hn) N hDK (fun p hp z => ?_) (fun p hp z => ?_) hk' (by omega) (by omega) fun h3 tk3 out c F3 N3 k3 => ?_
  ·obtain ⟨a, o⟩ := p
   exact (mem_led3.mp hp).1 (by simp [show a = kS from z])
  ·obtain ⟨a, o⟩ := p
   exact (mem_led3.mp hp).1 (by simp [show a = D from z])
  ·obtain ⟨ys, hys, hsk⟩ := Zko hv k3
   have hyl : ys.length = xs.length := by
    obtain ⟨ps, g1, g2, _⟩ := hsk
    rw [g2, Yi, g1.length_eq, Vf]
    omega
   have fD1 : Jy X pins H1 D := ⟨na.2.1, fD.2⟩
   have fK1 : Jy X pins H1 kS := ⟨nk.2.1, fK.2⟩
   refine h _ _ ys (Zkd (tk := tk3) (c := c) (out := out) I1 fD1 fK1 (fun m hm => ?_) (fun a o n1 n2 n3 q => ?_) (N3 (D, seqObj "list" out c) (Vc ..)).1 (by rw [hyl, YK]; omega) hys) (Zr hHD sH1) upd_same hsk
   ·rw [hm.eq_nsMap, <- hn.eq_nsMap]
    exact F3.ns
   ·exact (N3 (a, o) (List.mem_cons_of_mem _ (mem_led3.mpr ⟨by simp [n1, n2, n3], q⟩))).1
theorem ZgO (I : Inv X pins σ H s) (hl : H l = some (.lst xs)) (h64 : xs.length < 64)
  (ha1 : argsOk "sorted" ⟨[.ref l], kw⟩) (ha2 : ∀ x, argsOk "list.sort" ⟨[.ref x], kw⟩) (ht : ∀ x, Builtin.«list.sort» ⟨[.ref x], kw⟩ = ksk_tree x f b)
  (rest : ∀ (D kS : Addr) (e1 : Nat) (vs : List Value) (s0 : Shared) (P : PySem.Fin -> Shared -> Prop), Inv X (pins ++ [(kS, seqObj "list" #[] 0), (D, seqObj "list" #[] e1)]) σ H s0 -> H D = none -> Jy X pins H D -> Jy X pins H kS -> kS ≠ D -> Vals xs vs ->
   (∀ s', Q (.ref D) s' -> P (.done (.ret .none)) s') -> wpAny (model X.prog X.w) X.A.in1.in1 (ksk_rest D f b vs.toArray e1 (.ref kS)) P E s0) :
  wpAny (model X.prog X.w) X.A (call (.builtin "sorted") [.ref l] kw) Q E s := by
 obtain ⟨hz, vs, n, hv, hvl, e⟩ := I.lstM hl
 have hvl' : vs.length = xs.length := by omega
 refine call_function_entry_kw kind_sorted plain_sorted entry_sorted ha1 ?_
 unfold Builtin.«sorted»
 refine Ya (m := checkCount "sorted" 1 1 _) (Yb ?_)
 refine Ya (collect_list (vs := vs) ⟨_, e, rfl, n, rfl⟩ ?_ (by rw [YK]; omega))
 refine Ya (VU ?_ (by rw [YK]; omega))
 have hsz : ((s.heap.push (seqObj "list" #[] 0)).update s.heap.objs.size (Obj.mapSeq (· ++ vs.toArray))).objs.size = s.heap.objs.size + 1 := by
  rw [V2, size_push']
 have hoL : (((s.heap.push (seqObj "list" #[] 0)).update s.heap.objs.size (Obj.mapSeq (· ++ vs.toArray))).push (seqObj "list" vs.toArray 0)).get? (s.heap.objs.size + 1) = some (seqObj "list" vs.toArray 0) := by
  rw [<- hsz]; exact Ym _ rfl
 have keep : ∀ b o, s.heap.get? b = some o -> (((s.heap.push (seqObj "list" #[] 0)).update s.heap.objs.size (Obj.mapSeq (· ++ vs.toArray))).push (seqObj "list" vs.toArray 0)).get? b = some o := fun b o q => by
  have hlt : b < s.heap.objs.size := Ye q
  rw [Yay _ _ _ (by rw [hsz]; exact Yk (Y3 hlt)), Heap.get?_update_ne _ _ _ _ (Yk hlt), Yay _ _ _ (Yk hlt)]
  exact q
 have hsz3 : (((s.heap.push (seqObj "list" #[] 0)).update s.heap.objs.size (Obj.mapSeq (· ++ vs.toArray))).push (seqObj "list" vs.toArray 0)).objs.size = s.heap.objs.size + 2 := by rw [size_push', hsz]
 show wpAny _ _ _ _ _ { s with heap := ((s.heap.push (seqObj "list" #[] 0)).update s.heap.objs.size (Obj.mapSeq (· ++ vs.toArray))).push (seqObj "list" vs.toArray 0) }
 rw [hsz]
 generalize hh3 : ((s.heap.push (seqObj "list" #[] 0)).update s.heap.objs.size (Obj.mapSeq (· ++ vs.toArray))).push (seqObj "list" vs.toArray 0) = h3 at hoL keep hsz3 ⊢
 clear hh3 hsz
 refine Ya (YJ (wpAny_call_entry_kw slot_list_sort ⟨_, hoL, rfl⟩ entry_list_sort ?body (ha2 _)))
 case body =>
  have ht' := ht (s.heap.objs.size + 1)
  show wpAny (model X.prog X.w) X.A.in1.in1 (Builtin.«list.sort» ⟨[.ref (s.heap.objs.size + 1)], kw⟩) _ _ _
  rw [ht']
  generalize hD : s.heap.objs.size + 1 = D at hoL ⊢
  obtain ⟨e1, ho1⟩ : ∃ e1, (h3.update D (Obj.mapSeq fun _ => (#[] : Array Value))).get? D = some (seqObj "list" #[] e1) := ⟨_, V8 hoL fun _ => #[]⟩
  have s1 := Yas h3 D (Obj.mapSeq fun _ => (#[] : Array Value))
  have hsz4 : (h3.update D (Obj.mapSeq fun _ => (#[] : Array Value))).objs.size = s.heap.objs.size + 2 := by rw [V2, hsz3]
  have keep4 : ∀ b o, s.heap.get? b = some o -> (h3.update D (Obj.mapSeq fun _ => (#[] : Array Value))).get? b = some o := fun b o q => (s1.2 b (Yk (hD ▸ Y3 (Ye q)))).trans (keep b o q)
  unfold ksk_tree
  refine Ya (listItems_at hoL rfl ?_)
  refine Ya (listUpdate_at hoL rfl ?_ (by rw [YE, YK]; omega) (YB _))
  refine Ya (seqEpoch_at ho1 rfl ?_)
  refine Ya (wpAny_newTuple ?_ (by show vs.length <= _; rw [YK]; omega))
  refine Ya (VU ?_ (YB _))
  refine YJ ?_
  have hkS : ((h3.update D (Obj.mapSeq fun _ => (#[] : Array Value))).push (seqObj "tuple" vs.toArray 0)).objs.size = s.heap.objs.size + 3 := by rw [size_push', hsz4]
  have keep5 : ∀ b o, s.heap.get? b = some o -> (((h3.update D (Obj.mapSeq fun _ => (#[] : Array Value))).push (seqObj "tuple" vs.toArray 0)).push (seqObj "list" #[] 0)).get? b = some o := fun b o q => Yf _ (Yf _ (keep4 b o q))
  have fD : Jy X pins H D := I.fpOk (by omega) (I.hok.fresh (by omega))
  have fK : Jy X pins H (s.heap.objs.size + 3) := I.fpOk (by omega) (I.hok.fresh (by omega))
  have I5 : Inv X (pins ++ [(s.heap.objs.size + 3, seqObj "list" #[] 0), (D, seqObj "list" #[] e1)]) σ H { s with heap := ((h3.update D (Obj.mapSeq fun _ => (#[] : Array Value))).push (seqObj "tuple" vs.toArray 0)).push (seqObj "list" #[] 0), toks := s.toks } := by
   refine (I.kept (t' := s.toks) keep5).pins_of fun p hp => ?_
   rcases Yx.mp hp with hp | hp
   ·exact (I.kept (t' := s.toks) keep5).pin p (Yv _ hp)
   ·rcases Yn.mp hp with rfl | hp
    ·exact ⟨by rw [<- hkS]; exact Ym _ rfl, fK.1, fK.2.1, fK.2.2.1, fun v z => by cases z⟩
    ·rw [YH.mp hp]
     exact ⟨Yf _ (Yf _ ho1), fD.1, fD.2.1, fD.2.2.1, fun v z => by cases z⟩
  show wpAny (model X.prog X.w) X.A.in1.in1 (ksk_rest D f b vs.toArray e1 (.ref ((h3.update D (Obj.mapSeq fun _ => (#[] : Array Value))).push (seqObj "tuple" vs.toArray 0)).objs.size)) _ E { s with heap := ((h3.update D (Obj.mapSeq fun _ => (#[] : Array Value))).push (seqObj "tuple" vs.toArray 0)).push (seqObj "list" #[] 0), toks := s.toks }
  rw [hkS]
  exact rest D _ e1 vs _ _ I5 fD.1 fD fK (fun z => absurd (hD.trans z.symm) (by omega)) hv fun s' hq => ⟨_, rfl, Yb ⟨_, rfl, hq⟩⟩
theorem ZpP (I : Inv X pins σ H s) (hl : H l = some (.lst xs)) (hlen : ks.length = xs.length) (h64 : xs.length < 64)
  (ha1 : argsOk "sorted" ⟨[.ref l], kw⟩) (ha2 : ∀ x, argsOk "list.sort" ⟨[.ref x], kw⟩) (ht : ∀ x, Builtin.«list.sort» ⟨[.ref x], kw⟩ = ksk_tree x f b)
  (turn : ∀ (i : Nat) (x : V) (k : Int), xs[i]? = some x -> ks[i]? = some k -> ∀ (pins' : List (Addr × Obj)) (H' : Hp) (s' : Shared) (u : Value), Inv X pins' σ H' s' -> Same H H' -> RelV x u ->
   wpAny (model X.prog X.w) X.A.in1.in1 (call f [u]) (fun v s'' => ∃ t H'', v = .int k t /\ Inv X pins' σ H'' s'' /\ Same H' H'') (fun _ _ => False) s')
  (h : ∀ (D : Addr) (H' : Hp) (s' : Shared) (ys : List V), H D = none -> Inv X pins σ H' s' -> Same H H' -> H' D = some (.lst ys) -> Zb1 b ks xs ys -> Q (.ref D) s') :
  wpAny (model X.prog X.w) X.A (call (.builtin "sorted") [.ref l] kw) Q E s := by
 refine ZgO I hl h64 ha1 ha2 ht fun D kS e1 vs s0 P I5 hD fD fK hDK hv hP => ?_
 exact Zkf I5 (fun _ _ q => q) hD fD fK hDK hv hlen h64 turn fun H' s' ys I' sH' e' hsk => hP _ (h D H' s' ys hD I' sH' e' hsk)
end
end My
namespace My
open PySem PySem.W PySem.Calls PyProof.Rows
structure KaOrd (lt : Nat -> Nat -> Bool) : Prop where
 refl : ∀ a, lt a a = false
 trans : ∀ a b c, lt b a = false -> lt c b = false -> lt c a = false
 asym : ∀ a b, lt a b = true -> lt b a = false
section
variable {lt : Nat -> Nat -> Bool} {cmp : Nat -> Nat -> (Bool -> Shared -> Prop) -> Shared -> Prop} {I : Shared -> Prop} {N : Nat}
def Zdr (lt : Nat -> Nat -> Bool) (cmp : Nat -> Nat -> (Bool -> Shared -> Prop) -> Shared -> Prop) (I : Shared -> Prop) (N : Nat) : Prop :=
 ∀ i j, i < N -> j < N -> ∀ (C : Bool -> Shared -> Prop) s, I s -> (∀ s', I s' -> C (lt i j) s') -> cmp i j C s
def KaIn (N : Nat) (p : Array Nat) : Prop := p.Perm (List.range N).toArray
theorem KaIn.size {p : Array Nat} (h : KaIn N p) : p.size = N := by
 have := (Array.perm_iff_toList_perm.mp h).length_eq
 simpa using this
theorem KaIn.blw {p : Array Nat} (h : KaIn N p) {i : Nat} (hi : i < N) : p.getD i 0 < N := by
 have hs := h.size
 have hm : p.getD i 0 ∈ p.toList := by
  rw [Array.getD, dif_pos (hs ▸ hi)]
  exact Array.getElem_mem_toList _
 have := (List.Perm.mem_iff (Array.perm_iff_toList_perm.mp h)).mp hm
 simpa using this
theorem KaIn.rev {p : Array Nat} (h : KaIn N p) (i j : Nat) : KaIn N (kas_rev p i j) := (mirror_perm p i j _).trans h
theorem KaIn.bub {p : Array Nat} (h : KaIn N p) (i j : Nat) : KaIn N (bubble p i j) := (bubble_perm p i j).trans h
theorem Zce {p q : Array Nat} {i j : Nat} (h : p[i]? = q[j]?) : p.getD i 0 = q.getD j 0 := by
 rw [VE, VE, h]
theorem Zfu {p : Array Nat} {i j : Nat} (hj : j <= p.size) (k : Nat) : (kas_rev p i j).getD k 0 = if i <= k /\ k < j then p.getD (i + j - 1 - k) 0 else p.getD k 0 := by
 have e := getElem?_mirror_all (i := i) hj k
 unfold kas_rev
 by_cases h1 : i <= k /\ k < j
 ·rw [if_pos h1] at e ⊢; exact Zce e
 ·rw [if_neg h1] at e ⊢; exact Zce e
theorem Zk4 {p : Array Nat} {src d : Nat} (hs : src < p.size) (hd : d <= src) (k : Nat) : (bubble p src d).getD k 0 = if k = src - d then p.getD src 0 else if src - d < k /\ k <= src then p.getD (k - 1) 0 else p.getD k 0 := by
 have e := getElem?_bubble hs d hd k
 by_cases h1 : k = src - d
 ·rw [if_pos h1] at e ⊢; exact Zce e
 ·rw [if_neg h1] at e ⊢
  by_cases h2 : src - d < k /\ k <= src
  ·rw [if_pos h2] at e ⊢; exact Zce e
  ·rw [if_neg h2] at e ⊢; exact Zce e
def JW (lt : Nat -> Nat -> Bool) (p : Array Nat) (k : Nat) : Prop := ∀ i j, i <= j -> j < k -> lt (p.getD j 0) (p.getD i 0) = false
def JM (lt : Nat -> Nat -> Bool) (p : Array Nat) (k : Nat) : Prop := ∀ i j, i <= j -> j < k -> lt (p.getD i 0) (p.getD j 0) = false
theorem Zl0 (O : KaOrd lt) {p : Array Nat} {k : Nat} (h1 : 1 <= k) (h : JW lt p k) (e : lt (p.getD k 0) (p.getD (k - 1) 0) = false) : JW lt p (k + 1) := by
 intro i j hij hj
 by_cases hk : j < k
 ·exact h i j hij hk
 ·have : j = k := by omega
  subst this
  by_cases hi : i = j
  ·rw [hi]; exact O.refl _
  ·exact O.trans _ _ _ (h i (j - 1) (by omega) (by omega)) e
theorem Zbo (O : KaOrd lt) {p : Array Nat} {k : Nat} (h1 : 1 <= k) (h : JM lt p k) (e : lt (p.getD (k - 1) 0) (p.getD k 0) = false) : JM lt p (k + 1) := by
 intro i j hij hj
 by_cases hk : j < k
 ·exact h i j hij hk
 ·have : j = k := by omega
  subst this
  by_cases hi : i = j
  ·rw [hi]; exact O.refl _
  ·exact O.trans _ _ _ e (h i (j - 1) (by omega) (by omega))
theorem ZhG (O : KaOrd lt) (hc : Zdr lt cmp I N) {p : Array Nat} (hp : KaIn N p) : ∀ (f k : Nat) {Q : Nat -> Shared -> Prop} {s : Shared}, I s -> 1 <= k -> k + f = N -> JW lt p k ->
  (∀ m s', I s' -> k <= m -> m <= N -> JW lt p m -> (m < N -> lt (p.getD m 0) (p.getD (m - 1) 0) = true) -> Q m s') -> (kas_asc p f k).kasWp cmp Q s
 | 0, k, Q, s, hi, h1, hf, hu, q => q k s hi (Yd _) (by omega) hu fun h => absurd h (by omega)
 | f + 1, k, Q, s, hi, h1, hf, hu, q => by
  refine hc _ _ (hp.blw (by omega)) (hp.blw (by omega)) _ s hi fun s' hi' => ?_
  cases hl : lt (p.getD k 0) (p.getD (k - 1) 0) with
  | true =>
   dsimp only
   rw [if_pos rfl]
   exact q k s' hi' (Yd _) (by omega) hu fun _ => hl
  | false =>
   dsimp only
   rw [if_neg (by simp)]
   exact ZhG O hc hp f (k + 1) hi' (by omega) (by omega) (Zl0 O h1 hu hl) fun m s2 i2 g1 g2 => q m s2 i2 (by omega) g2
theorem Zdp {p : Array Nat} {k a b : Nat} (hb : b <= p.size) (hbk : b <= k) (h : JM lt p k) (he : ∀ i j, a <= i -> i < b -> a <= j -> j < b -> lt (p.getD i 0) (p.getD j 0) = false) : JM lt (kas_rev p a b) k := by
 intro i j hij hj
 rw [Zfu hb, Zfu hb]
 split
 ·split
  ·exact he _ _ (by omega) (by omega) (by omega) (by omega)
  ·exact h _ _ (by omega) (by omega)
 ·split
  ·exact h _ _ (by omega) (by omega)
  ·exact h _ _ hij hj
theorem Zde (O : KaOrd lt) (hc : Zdr lt cmp I N) : ∀ (f : Nat) (p : Array Nat) (k q : Nat) {Q : Array Nat × Nat × Nat -> Shared -> Prop} {s : Shared}, KaIn N p -> I s -> 1 <= k -> q + 1 <= k -> k + f = N -> JM lt p k ->
  (∀ i j, k - (q + 1) <= i -> i < k -> k - (q + 1) <= j -> j < k -> lt (p.getD i 0) (p.getD j 0) = false) ->
  (∀ p' m r s', KaIn N p' -> I s' -> 1 <= m -> m <= N -> r + 1 <= m -> JM lt p' m -> (∀ i j, m - (r + 1) <= i -> i < m -> m - (r + 1) <= j -> j < m -> lt (p'.getD i 0) (p'.getD j 0) = false) -> Q (p', m, r) s') ->
  (kas_desc f p k q).kasWp cmp Q s
 | 0, p, k, q, Q, s, hp, hi, h1, hq, hf, hd, he, g => g p k q s hp hi h1 (by omega) hq hd he
 | f + 1, p, k, q, Q, s, hp, hi, h1, hq, hf, hd, he, g => by
  have hs := hp.size
  refine hc _ _ (hp.blw (by omega)) (hp.blw (by omega)) _ s hi fun s' hi' => ?_
  cases hl : lt (p.getD k 0) (p.getD (k - 1) 0) with
  | true =>
   dsimp only
   rw [if_pos rfl]
   have hd' : JM lt p (k + 1) := Zbo O h1 hd (O.asym _ _ hl)
   have one : ∀ (p' : Array Nat) i j, k + 1 - (0 + 1) <= i -> i < k + 1 -> k + 1 - (0 + 1) <= j -> j < k + 1 -> lt (p'.getD i 0) (p'.getD j 0) = false := by
    intro p' i j a b c d
    have e1 : i = k := by omega
    have e2 : j = k := by omega
    rw [e1, e2]; exact O.refl _
   split
   ·exact Zde O hc f _ (k + 1) 0 (hp.rev _ _) hi' (by omega) (by omega) (by omega) (Zdp (by omega) (by omega) hd' he) (one _) g
   ·exact Zde O hc f _ (k + 1) 0 hp hi' (by omega) (by omega) (by omega) hd' (one _) g
  | false =>
   dsimp only
   rw [if_neg (by simp)]
   refine hc _ _ (hp.blw (by omega)) (hp.blw (by omega)) _ s' hi' fun s2 hi2 => ?_
   cases hm : lt (p.getD (k - 1) 0) (p.getD k 0) with
   | true =>
    dsimp only
    rw [if_pos rfl]
    exact g p k q s2 hp hi2 h1 (by omega) hq hd he
   | false =>
    dsimp only
    rw [if_neg (by simp)]
    refine Zde O hc f p (k + 1) (q + 1) hp hi2 (by omega) (by omega) (by omega) (Zbo O h1 hd hm) (fun i j a b c d => ?_) g
    by_cases e1 : i = k
    ·by_cases e2 : j = k
     ·rw [e1, e2]; exact O.refl _
     ·rw [e1]; exact O.trans _ _ _ (he (k - 1) j (by omega) (by omega) (by omega) (by omega)) hl
    ·by_cases e2 : j = k
     ·rw [e2]; exact O.trans _ _ _ hm (he i (k - 1) (by omega) (by omega) (by omega) (by omega))
     ·exact he i j (by omega) (by omega) (by omega) (by omega)
theorem Zfo (O : KaOrd lt) (hc : Zdr lt cmp I N) {p : Array Nat} {k : Nat} {Q : Nat × Array Nat -> Shared -> Prop} {s : Shared} (hp : KaIn N p) (hi : I s) (h1 : 1 <= k) (hk : k <= N) (hd : JM lt p k)
  (g : ∀ m p' s', KaIn N p' -> I s' -> 1 <= m -> m <= N -> JW lt p' m -> Q (m, p') s') : (kas_tail3 k N p).kasWp cmp Q s := by
 have hs := hp.size
 unfold kas_tail3
 rw [V4]
 refine ZhG O hc (hp.rev 0 k) (N - k) k hi h1 (by omega) (fun i j a b => ?_) fun m s' i' a b c _ => g m _ s' (hp.rev _ _) i' (by omega) b c
 rw [Zfu (by omega), Zfu (by omega), if_pos ⟨by omega, by omega⟩, if_pos ⟨by omega, by omega⟩]
 exact hd _ _ (by omega) (by omega)
theorem Zcy (O : KaOrd lt) (hc : Zdr lt cmp I N) {p : Array Nat} {k : Nat} {Q : Nat × Array Nat -> Shared -> Prop} {s : Shared} (hp : KaIn N p) (hi : I s) (h1 : 1 <= k) (hk : k + 1 <= N) (hd : JM lt p (k + 1))
  (g : ∀ m p' s', KaIn N p' -> I s' -> 1 <= m -> m <= N -> JW lt p' m -> Q (m, p') s') : (kas_descPart k N p).kasWp cmp Q s := by
 unfold kas_descPart
 rw [V4]
 refine Zde O hc (N - (k + 1)) p (k + 1) 0 hp hi (by omega) (by omega) (by omega) hd (fun i j a b c d => ?_) fun p' m r s' hp' i' g1 g2 g3 g4 g5 => ?_
 ·have e1 : i = k := by omega
  have e2 : j = k := by omega
  rw [e1, e2]; exact O.refl _
 ·have hs := hp'.size
  show KasT.kasWp cmp (if r > 0 then kas_tail3 m N (kas_rev p' (m - (r + 1)) m) else kas_tail3 m N p') Q s'
  split
  ·exact Zfo O hc (hp'.rev _ _) i' g1 g2 (Zdp (by omega) (Yd _) g4 g5) g
  ·exact Zfo O hc hp' i' g1 g2 g4 g
theorem ZjT (O : KaOrd lt) (hc : Zdr lt cmp I N) {p : Array Nat} {Q : Nat × Array Nat -> Shared -> Prop} {s : Shared} (hN : 1 <= N) (hp : KaIn N p) (hi : I s)
  (g : ∀ m p' s', KaIn N p' -> I s' -> 1 <= m -> m <= N -> JW lt p' m -> Q (m, p') s') : (kas_count N p).kasWp cmp Q s := by
 have hs := hp.size
 unfold kas_count
 rw [V4]
 refine ZhG O hc hp (N - 1) 1 hi (Yd _) (by omega) (fun i j a b => ?_) fun m s' i' g1 g2 g3 g4 => ?_
 ·have e1 : i = 0 := by omega
  have e2 : j = 0 := by omega
  rw [e1, e2]; exact O.refl _
 ·by_cases e : m = N
  ·rw [if_pos (by simp [e])]
   exact g m p s' hp i' g1 g2 g3
  ·rw [if_neg (by simp [e])]
   have hl := g4 (by omega)
   split
   ·refine hc _ _ (hp.blw (by omega)) (hp.blw (by omega)) _ s' i' fun s2 i2 => ?_
    cases hm : lt (p.getD 0 0) (p.getD (m - 1) 0) with
    | true =>
     dsimp only
     rw [if_pos rfl]
     exact g m p s2 hp i2 g1 g2 g3
    | false =>
     dsimp only
     rw [if_neg (by simp)]
     have heq : ∀ i j, i < m -> j < m -> lt (p.getD i 0) (p.getD j 0) = false := fun i j a b =>
      O.trans _ _ _ (g3 j (m - 1) (by omega) (by omega)) (O.trans _ _ _ hm (g3 0 i (by omega) a))
     have hd : JM lt p (m + 1) := Zbo O g1 (fun i j _ b => heq i j (by omega) b) (O.asym _ _ hl)
     exact Zcy O hc (hp.rev _ _) i2 g1 (by omega) (Zdp (by omega) (by omega) hd fun i j _ b _ d => heq i j b d) g
   ·have e1 : m = 1 := by omega
    subst e1
    refine Zcy O hc hp i' g1 (by omega) (Zbo O g1 (fun i j a b => ?_) (O.asym _ _ hl)) g
    have e1 : i = 0 := by omega
    have e2 : j = 0 := by omega
    rw [e1, e2]; exact O.refl _
theorem Zdm (O : KaOrd lt) (hc : Zdr lt cmp I N) {p : Array Nat} {k : Nat} (hp : KaIn N p) (hk : k < N) (hu : JW lt p k) : ∀ (f l r : Nat) {Q : Nat -> Shared -> Prop} {s : Shared}, I s -> l <= r -> r <= k -> r - l <= f ->
  (∀ i, i < l -> lt (p.getD k 0) (p.getD i 0) = false) -> (∀ i, r <= i -> i < k -> lt (p.getD k 0) (p.getD i 0) = true) ->
  (∀ m s', I s' -> m <= k -> (∀ i, i < m -> lt (p.getD k 0) (p.getD i 0) = false) -> (∀ i, m <= i -> i < k -> lt (p.getD k 0) (p.getD i 0) = true) -> Q m s') -> (kas_place p k f l r).kasWp cmp Q s
 | 0, l, r, Q, s, hi, h1, h2, hf, a, b, g => g l s hi (by omega) a fun i x y => b i (by omega) y
 | f + 1, l, r, Q, s, hi, h1, h2, hf, a, b, g => by
  unfold kas_place
  by_cases e : l >= r
  ·rw [if_pos e]
   exact g l s hi (by omega) a fun i x y => b i (by omega) y
  ·rw [if_neg e]
   refine hc _ _ (hp.blw hk) (hp.blw (by omega)) _ s hi fun s' i' => ?_
   cases hl : lt (p.getD k 0) (p.getD ((l + r) / 2) 0) with
   | true =>
    dsimp only
    rw [if_pos rfl]
    refine Zdm O hc hp hk hu f l ((l + r) / 2) i' (by omega) (by omega) (by omega) a (fun i x y => ?_) g
    cases hx : lt (p.getD k 0) (p.getD i 0) with
    | true => rfl
    | false => exact absurd (O.trans _ _ _ (hu _ _ x y) hx) (by rw [hl]; simp)
   | false =>
    dsimp only
    rw [if_neg (by simp)]
    exact Zdm O hc hp hk hu f ((l + r) / 2 + 1) r i' (by omega) h2 (by omega) (fun i x => O.trans _ _ _ (hu i _ (by omega) (by omega)) hl) b g
theorem Zlt (O : KaOrd lt) (hc : Zdr lt cmp I N) : ∀ (f : Nat) (p : Array Nat) (k : Nat) {Q : Array Nat -> Shared -> Prop} {s : Shared}, KaIn N p -> I s -> k + f = N -> JW lt p k ->
  (∀ p' s', KaIn N p' -> I s' -> JW lt p' N -> Q p' s') -> (kas_bin f p k).kasWp cmp Q s
 | 0, p, k, Q, s, hp, hi, hf, hu, g => g p s hp hi (by rw [show N = k by omega]; exact hu)
 | f + 1, p, k, Q, s, hp, hi, hf, hu, g => by
  have hs := hp.size
  unfold kas_bin
  rw [V4]
  refine Zdm O hc hp (by omega) hu k 0 k hi (by omega) (Yd _) (by omega) (fun i x => absurd x (by omega)) (fun i x y => absurd x (by omega)) fun m s' i' g1 g2 g3 => ?_
  refine Zlt O hc f _ (k + 1) (hp.bub _ _) i' (by omega) (fun i j a b => ?_) g
  have ek : k - (k - m) = m := by omega
  rw [Zk4 (by omega) (by omega), Zk4 (by omega) (by omega), ek]
  repeat' split
  all_goals first
   | exact O.refl _
   | exact hu _ _ (by omega) (by omega)
   | exact g2 _ (by omega)
   | exact O.asym _ _ (g3 _ (by omega) (by omega))
   | (exfalso; omega)
theorem Zl5 (O : KaOrd lt) (hc : Zdr lt cmp I N) {Q : Array Nat -> Shared -> Prop} {s : Shared} (hN : 1 <= N) (hi : I s) (g : ∀ p s', KaIn N p -> I s' -> JW lt p N -> Q p s') : (kas_sort N).kasWp cmp Q s := by
 unfold kas_sort
 rw [V4]
 refine ZjT O hc hN (Array.Perm.refl _) hi fun m p' s' hp' i' g1 g2 g3 => ?_
 show KasT.kasWp cmp (if m < N then kas_bin (N - max m 1) p' (max m 1) else .ret p') Q s'
 have e : max m 1 = m := by omega
 rw [e]
 split
 ·exact Zlt O hc (N - m) p' m hp' i' (by omega) g3 g
 ·exact g p' s' hp' i' (by rw [show N = m by omega]; exact g3)
end
end My
namespace My
open PySem PySem.SeqAt PySem.MeetsSeq PySem.MeetsSeq2 PySem.MeetsSeq3 PyProof.Rows
open AutoSeq1 (wpAny_loadPart')
end My
namespace My
open PySem PySem.Spec L2
open PyProof.Rows hiding St
open PySem.W (kat_end kas_ask KatFin KasFin katRev)
theorem ZiY {xs : List V} {vs : List Value} (h : Vals xs vs) (i : Nat) : RelV (xs.getD i .non) (vs.getD i Value.none) := by
 induction h generalizing i with
 | nil => exact rfl
 | cons h1 _ ih =>
  cases i with
  | zero => exact h1
  | succ i => exact ih i
theorem ZfN {xs : List V} {vs : List Value} (h : Vals xs vs) : ∀ l : List Nat, Vals (l.map fun i => xs.getD i .non) (l.map fun i => vs.getD i Value.none)
 | [] => .nil
 | i :: l => .cons (ZiY h i) (ZfN h l)
section
variable {X : Cx} {pins : List (Addr × Obj)} {σ : St} {H : Hp} {s : Shared} {l : Addr} {xs : List V} {f : Value} {kw : List (Str × Value)} {E : Value -> Shared -> Prop} {Q : Value -> Shared -> Prop} {KeyIs : Nat -> Hp -> Value -> Prop} {lt : Nat -> Nat -> Bool} {κ : SortKind}
end
end My
namespace My
open PySem PySem.Spec L2
open PyProof.Rows hiding St
open PySem.W (kat_lt kat_cons kat_nil kat_yes kat_no kat_one kat_kind KatTups KatLex KatGo)
structure Sto {α : Type} (r : α -> α -> Bool) : Prop where
 irr : ∀ a, r a a = false
 tr : ∀ a b c, r a b = true -> r b c = true -> r a c = true
 tri : ∀ a b, r a b = false -> r b a = false -> a = b
theorem Sto.asym {α : Type} {r : α -> α -> Bool} (h : Sto r) {a b : α} (e : r a b = true) : r b a = false := by
 cases q : r b a with
 | false => rfl
 | true => have := h.tr _ _ _ e q; rw [h.irr] at this; cases this
theorem Sto.ka {α : Type} {r : α -> α -> Bool} (h : Sto r) (f : Nat -> α) : KaOrd fun i j => r (f i) (f j) where
 refl a := h.irr _
 trans a b c h1 h2 := by
  cases q : r (f c) (f a) with
  | false => rfl
  | true =>
   exfalso
   cases q2 : r (f b) (f c) with
   | true => have := h.tr _ _ _ q2 q; rw [h1] at this; cases this
   | false =>
    have e := h.tri _ _ q2 h2
    rw [e, q] at h1
    cases h1
 asym a b e := h.asym e
theorem sto_str : Sto fun x y : Str => decide (x.cps.toList < y.cps.toList) where
 irr a := YX (List.lt_irrefl _)
 tr a b c h1 h2 := YQ (List.lt_trans (VJ h1) (VJ h2))
 tri a b h1 h2 := by
  have e : a.cps.toList = b.cps.toList := List.le_antisymm (Yao h2) (Yao h1)
  cases a; cases b
  simpa using e
section
variable {X : Cx} {pins : List (Addr × Obj)} {σ : St} {H : Hp} {s : Shared} {E : Value -> Shared -> Prop}
end
end My
namespace My
open PySem PySem.Spec L2
open PyProof.Rows hiding St
def Zqk (q : V -> Hp -> Prop) : List V -> Hp -> Prop
 | [v], H => q v H
 | _, _ => False
theorem ZlR {q : V -> Hp -> Prop} {vs : List V} {H : Hp} (h : Zqk q vs H) : ∃ v, vs = [v] /\ q v H := by
 match vs, h with
 | [v], h => exact ⟨v, rfl, h⟩
section
variable {X : Cx} {p pos kp : Pos} {e ek : Expr} {te tk : TE} {k : Nat}
end
end My
namespace My
open PySem PySem.Spec L2
open PyProof.Rows hiding St
section
variable {X : Cx} {j k : Nat} {x y : Str} {sp : Sp} {p : Pos}
theorem Zon {pins : List (Addr × Obj)} {σ : L2.St} {H : Hp} {s : Shared} {Q : VK} {us : List Value} {f : Addr} (I : Inv X pins σ H s) (h : codeAny (model X.prog X.w) X.A.in1.in1 (.call (.ref f) ⟨us, []⟩) (CR Zw X.stack X.prog X.w H s Q E0) s) :
  wpAny (model X.prog X.w) X.A.in1.in1 (call (.ref f) us) (EP X pins σ Q) (fun _ _ => False) s := by
 refine wpAny_call (YV h fun r s' hq => ?_)
 cases r with
 | error e => exact hq
 | ok fl =>
  cases fl with
  | ret u => exact I.after hq
  | next => exact False.elim hq
  | brk => exact False.elim hq
  | cont => exact False.elim hq
theorem Zqy {P : Program} {w : World} {K : PySem.W.Frag} {mg : Str -> Option Value} {base : Heap} {x qual : Str} {st : Stmt} {f c : Addr} {fd : FuncData} {N ps : List Str} {k : Nat} {sp : Sp} (F : Fun K x qual st f fd) (hc : fd.code = .ref c) (S : FnScope N ps (Zb st)) (len : ∀ vs H Q E, sp vs H Q E -> vs.length = ps.length)
  (hbody : ∀ (A : Around) (outer : List Env) (s : Shared) (H : Hp) (vs : List V) (Q : VK) (E : XK), Room k (A.deeper (envOfC qual (Zb st) s.heap.objs.size f (.ref c))) -> sp vs H Q E ->
   ∃ t, QB (J0 Zw P w K mg base N qual (Zb st) f (.ref c) A outer s H E).nox (Zq st) t /\ t { nx := fun _ H' => Q .non H', rt := Q } (Zu N vs) H) : FnOk P w K mg base Zw (k + 1) f fd ps sp := by
 obtain ⟨oc, od, kV, doc, pm, an, cdv, ct, osl, rfl, lk, hcd⟩ := F.ex
 have hc : cdv = .ref c := hc
 subst hc
 refine ZlS lk hcd S len fun A outer s H vs Q E hr hsp => ?_
 obtain ⟨t, h, q⟩ := hbody A outer s H vs Q E hr hsp
 exact ⟨t, h.h.nox, q⟩
end
end My
namespace L2
open PySem PySem.Spec PyProof.Rows PySem.W
theorem Zh6 {l : PySem.W.OpenLaw} {n k : Nat} {q : Program} {loose : List Str} {XP : (Str -> Option Value) -> Heap -> Prop} {YP : World -> Heap -> Prop} {d : DefRec} {K : Params -> PySem.W.Frag} {CX : CXT} {sp : PySem.W.Frag -> Sp} {x : Str} (T : Addr -> Option Str)
  (hn : l.most = some n) (hn2 : n <= sizeLine) (hdf : d.params.defaults = []) (hr : Room k callerA)
  (hY : ∀ (w : World) (h : Heap), YP w h -> (K w.params).In h)
  (hT : ∀ (w : World) (h : Heap), YP w h -> ∀ b q, T b = some q -> (∃ c, CodeHd h c b) /\ h.get? b = some (tabObj #[])) (hKT : ∀ (w : World) b q, T b = some q -> (K w.params).lookup b = none)
  (F : ∀ (w : World) (mg : Str -> Option Value) (fa : Addr) (h : Heap), (K w.params).In h -> h.Ns mainGlobals mg -> mg d.name = some (.ref fa) ->
   ∃ fd : FuncData, (∀ (s : Shared) (u : Value), BindsTo s fd ⟨[u], []⟩ [(x, u)]) /\
    ∀ base : Heap, (K w.params).In base -> base.Ns mainGlobals mg -> ZcA mg base -> FnOk l.prog w (K w.params) mg base CX k fa fd [x] (sp (K w.params)))
  (hsp : ∀ (K : PySem.W.Frag) (H : Hp) (a : Addr) (ns : List Int), ns.length <= n -> (∀ b q, T b = some q -> ZeR H b q) -> SqL K H a (ns.map V.int) -> sp K [.ref a] H (fun v _ => v = .bl true) fun _ _ _ => False)
  (hCX : ∀ (H : Hp) (s : Shared) (e : Value) (s' : Shared), CX [] H s (fun _ _ _ => False) e s' -> False) :
  PySem.W.WalkO q loose XP YP l.row.toRowW d [] (fun f vs => PySem.call f vs) := by
 refine Att.attach_call hn hdf fun w s₀ s₁ mg mb fa o pm cd doc a vs ns G Y ho hd hcd hmg hobj hints hlen hg => ?_
 have KX := hY w _ Y
 obtain ⟨fd, hb, hF⟩ := F w mg fa _ KX G.T.g hmg
 exact Zh7 (T := T) KX G.T.g G.T.b G.T.builtins G.T.nolimit hg hobj hints (Yj hlen hn2) hr (hT w _ Y) (hKT w) (by obtain ⟨bm, o, b1, b2, b3, b4, b5, b6⟩ := G.T.bmain; exact ⟨bm, o, b1, b2, b3, b4, b5, b6⟩) hF hb (fun H hO hS => hsp (K w.params) H a ns hlen hO hS) fun H e s' => hCX H s₁ e s'
end L2
namespace My
open PySem PySem.Spec L2
open PyProof.Rows hiding St
instance (a b : Str) : Decidable (leS a b) := inferInstanceAs (Decidable (a.cps.toList <= b.cps.toList))
end My
namespace My
open PySem PySem.Spec L2
open PyProof.Rows hiding St
def Zlj (X : Cx) (σ : L2.St) (H : Hp) (ky : V -> Int) (xs : List V) (fv : V) : Prop := ∃ f, fv = .ref f /\ ∀ (pins : List (Addr × Obj)) (H' : Hp) (s' : Shared) (x : V) (u : Value), x ∈ xs -> Inv X pins σ H' s' -> Same H H' -> RelV x u ->
 wpAny (model X.prog X.w) X.A.in1.in1 (call (.ref f) [u]) (fun v s'' => ∃ t H'', v = .int (ky x) t /\ Inv X pins σ H'' s'' /\ Same H' H'') (fun _ _ => False) s'
def Zmq (X : Cx) (σ : L2.St) (Q : VK) (v : V) : V -> Hp -> Prop := fun fv H2 => ∃ a xs ky, v = .ref a /\ H2 a = some (.lst xs) /\ xs.length < 64 /\ Zlj X σ H2 ky xs fv /\ ∀ D H3 ys, H2 D = none -> Same H2 H3 -> H3 D = some (.lst ys) -> Zb1 true (xs.map ky) xs ys -> Q (.ref D) H3
def ZkZ (X : Cx) (te tk : TE) : TE := fun σ H Q => te σ H fun v H1 => tk σ H1 (Zmq X σ Q v)
def Zqn (q : V -> Hp -> Prop) : List V -> Hp -> Prop
 | [v, .bl true], H => q v H
 | _, _ => False
theorem ZlM {q : V -> Hp -> Prop} {vs : List V} {H : Hp} (h : Zqn q vs H) : ∃ v, vs = [v, .bl true] /\ q v H := by
 match vs, h with
 | [v, .bl true], h => exact ⟨v, rfl, h⟩
section
variable {X : Cx} {p pos kp kp2 : Pos} {e ek eb : Expr} {te tk : TE}
theorem ZkG (hg : Gl X "sorted") (hm : X.mg "sorted" = none) (ha : PE X e te) (hk : PE X ek tk) (hb : PE X eb (tC (.bl true))) (hs : starEach [e] X.env = [(false, eval e X.env)] := by rfl)
  (hks : (backToKw pos (keywordEach [⟨some "key", ek, kp⟩, ⟨some "reverse", eb, kp2⟩] X.env)).filterMap (·.1) = [Str.ofString "key", Str.ofString "reverse"] := by rfl) :
  PE X (.Call (.Name "sorted" p) [e] [⟨some "key", ek, kp⟩, ⟨some "reverse", eb, kp2⟩] pos) (ZkZ X te tk) := by
 intro pins s σ H Q I h
 refine Vd (Jm I hg hm (show bootBuiltins "sorted" = some (.builtin "sorted") from rfl) ?_ (by decide) (by decide))
 refine callWith_kw ?_ (by rw [hs]; rfl) (by rw [hs]; rfl)
 refine ZJ (ZhO ha Zln hs pos pins s σ H (Zqk fun v H1 => tk σ H1 (Zmq X σ Q v)) I h) ?_
 rintro us s1 ⟨vs, H1, I1, r1, q⟩
 obtain ⟨v, rfl, q⟩ := ZlR q
 refine ZJ (ZiL (kws := [⟨some "reverse", eb, kp2⟩]) hk (ZiL hb ZoB) pos pins s1 σ H1 (Zqn (Zmq X σ Q v)) I1 q) ?_
 rintro ws s2 ⟨zs, H2, I2, r2, q2⟩
 obtain ⟨fv, rfl, q2⟩ := ZlM q2
 obtain ⟨a, xs, ky, rfl, hl, h64, ⟨f, rfl, hf⟩, q3⟩ := q2
 cases r1 with
 | cons r1 r1' =>
  cases r1'
  cases r1
  cases r2 with
  | cons r2 r2' =>
   cases r2' with
   | cons r3 r3' =>
    cases r3'
    cases r2
    cases r3
    rw [hks]
    refine ZpP (b := true) (f := .ref f) (ks := xs.map ky) I2 hl (Yi ..) h64 (ksk_s2 _ _ _) (fun x => ksk_l2 _ _ _) (fun x => ksk_t2 _ _ _) (fun i x k hx hki pins' H' s' u I' sm r => ?_) fun D H' s' ys hD I' sm e' hs => ⟨.ref D, H', I', rfl, q3 D H' ys hD sm e' hs⟩
    rw [Yh, hx] at hki
    cases hki
    exact hf pins' H' s' x u (Yo hx) I' sm r
def Zkc (X : Cx) (P : Addr) (q : Str) (i : Nat) (t : TE) : TE := fun σ H Q => ZeR H P q /\ ∃ w, σ[i]? = some (some w) /\ ∀ fv H2, Same H H2 -> (∀ (xs : List V) (ky : V -> Int), (∀ x ∈ xs, ∀ (H' : Hp) (k : VK), Same H2 H' -> (∀ H'', Same H' H'' -> k (.int (ky x)) H'') -> t [some x, some w] H' k) -> Zlj X σ H2 ky xs fv) -> Q fv H2
theorem Zgk {params : Arguments} {body : Expr} {scope : Scope} {c P cz : Addr} {q y z : Str} {t : TE} {i k : Nat} (hdef : defaultsOf params X.env = ([], [])) (hcl : closureFor scope X.env = pure [(z, cz)]) (hcz : X.env.cells.lookup z = some cz) (hcode : X.env.code = .ref c)
  (hC : codeHdIn X.K c P = true) (hB : ZcA X.mg X.base) (hq : X.env.qual ++ "<lambda>" = q) (hr : Room (k + 3) X.A) (S : LamScope [y] [z] scope [(z, cz)]) (hN : X.N[i]? = some z) (hv : Vis X.env.scope z) (hloc : X.env.scope.names.lookup z ≠ some .local)
  (hbind : ∀ (pm ctv u : Value) (c' : Addr), bindArgs (PySem.W.kla_fn "<lambda>" q params body scope [(z, cz)] pm (.ref c') ctv) ⟨[u], []⟩ = pure [(y, u)])
  (hbody : ∀ (f c' : Addr) (s : Shared) (H : Hp), QE (ZkD Zw X.prog X.w X.K X.mg X.base [y, z] q scope f c' [(z, cz)] X.A.in1.in1 X.stack s H E0) body t) :
  PE X (.Lambda params body scope pos) (Zkc X P q i t) := by
 intro pins s σ H Q I ⟨⟨tk, hP⟩, w, hw, h⟩
 have hb : X.base.BuiltinsAt X.mg P := by
  obtain ⟨bm, o, b1, b2, b3, b4, b5, b6⟩ := hB
  refine ⟨bm, o, b1, b2, fun z => ?_, fun z => ?_, b3, b4, b5, b6⟩
  ·obtain ⟨o', es, ep, e, d, _⟩ := I.ok.mod.glob
   rw [z, e] at b3
   cases b3
   rw [d] at b6
   cases b6
  ·have := (I.bs _ _ b3).2
   rw [z, hP] at this
   cases this
 refine Zo3 hdef hcl hcode (codeHd_of_K I.ok.mod.kin hC) hb hq pins s σ H Q I ⟨tk, hP, fun f c' oc pm ctv vs t' H2 hf hf2 hc2 hd hv' sm => h _ H2 sm fun xs ky hx => ⟨f, rfl, fun pins' H' s' x u hxm I' sm' r => ?_⟩⟩
 have ho := (I'.hok f _ (sm' _ _ hf2)).1
 have hoc := (I'.hok c' _ (sm' _ _ hc2)).1
 refine ZJ (Zon (Q := fun v H'' => v = .int (ky x) /\ Same H' H'') I' (ZoY (k := k) (ps := [y]) (fs := [z]) (ws := [w]) (vs := [x]) (us := [u]) hr.in1.in1 ?_ ho ⟨c', oc, vs, t', rfl, hoc, hd, hv'⟩ (hbind _ _ _ _) rfl (.cons r .nil) S ?_ (hbody f c' s' H').h (hx x hxm H' _ sm' fun H'' sm2 => ⟨rfl, sm2⟩))) ?_
 ·exact ⟨I'.ok.frames, I'.ok.mod, I'.bs, Yj I'.ok.bsz I'.sz, I'.stack, I'.stkFree, I'.hok, I'.bare⟩
 ·have hcell : ∀ x c0, List.lookup x [(z, cz)] = some c0 -> x = z /\ c0 = cz := fun x c0 e => by
   simp only [List.lookup] at e
   split at e
   ·rename_i hh
    cases e
    exact ⟨by simpa using hh, rfl⟩
   ·cases e
  refine ⟨rfl, fun j x v e1 e2 => ?_, fun x c0 e => ?_, fun x x' c0 e e' => by rw [(hcell _ _ e).1, (hcell _ _ e').1]⟩
  ·match j with
   | 0 =>
    cases e1
    cases e2
    obtain ⟨m, _, hl⟩ := I'.loc
    obtain ⟨u', ru, lk⟩ := hl i z w hN hw hv
    rcases lk with ⟨hl', _⟩ | ⟨_, c0, hc0, hce⟩
    ·exact absurd hl' hloc
    ·have : c0 = cz := YO (hc0.symm.trans hcz)
     subst this
     exact ⟨c0, u', by simp, ru, hce⟩
   | j + 1 => cases e1
  ·obtain ⟨rfl, rfl⟩ := hcell x c0 e
   exact ⟨I'.cell _ _ hcz, I'.freeC _ _ hcz⟩
 ·rintro v s'' ⟨w', H'', I'', r'', rfl, sm2⟩
  obtain ⟨t2, rfl⟩ := r''
  exact ⟨t2, H'', rfl, I'', sm2⟩
theorem ZmQ (hg : Gl X "sorted") (hm : X.mg "sorted" = none) (ha : QE X e te) (hk : QE X ek tk) (hb : QE X eb (tC (.bl true))) (hp : Zn e = true := by rfl) : QE X (.Call (.Name "sorted" p) [e] [⟨some "key", ek, kp⟩, ⟨some "reverse", eb, kp2⟩] pos) (ZkZ X te tk) :=
 ⟨ZkG hg hm ha.h hk.h hb.h (Zl hp) rfl⟩
end
end My
namespace My
open PySem PySem.Spec L2
open PyProof.Rows hiding St
section
variable {prog : Program} {w : World} {A : Around} {E : Value -> Shared -> Prop} {s : Shared} {κ : Type} [DecidableEq κ] {knd : KeyKind prog w κ}
end
section
variable {prog : Program} {w : World} {A : Around} {E : Value -> Shared -> Prop} {s : Shared}
end
section
variable {X : Cx} {l m : Expr} {ta : TA} {p pos pos' : Pos} {es : List Expr}
end
end My
namespace My
open PySem PySem.Spec L2
open PyProof.Rows hiding St
section
variable {prog : Program} {w : World} {A : Around} {E : Value -> Shared -> Prop} {s : Shared} {κ : Type} [DecidableEq κ] {knd : KeyKind prog w κ}
theorem Zkn (mask finger moves : Nat) (led plain : Bool) : SetTable.laid mask finger moves led plain #[] = some ({ mask, place := #[], dummies := #[], finger, led, moves, plain }, #[]) := by
 unfold SetTable.laid SetTable.layClean
 simp
 intro j hj
 simp [hj]
theorem Zj7 : ∀ m < 65, SetTable.sizeAbove m <= 128 := by decide +kernel
theorem ZlE {a : Addr} {o : Obj} {ep : Nat} {t : SetTable} {n : Nat} {Q : Unit -> Shared -> Prop} (ho : s.heap.get? a = some o) (hex : o.ExactSet) (hd : o.data = .set #[] ep t) (hf : t.fits 0 = true) (hp : t.place = #[]) (hn : n <= 30)
  (q : ∀ h', Heap.SameBut a s.heap h' -> h'.SetOf knd a (fun _ => false) 0 -> Q () { s with heap := h' }) : wpAny (model prog w) A (setRoomFor a n) Q E s := by
 have h0 : s.heap.SetOf knd a (fun _ => false) 0 := ⟨o, #[], ep, t, ho, hex, hd, fun e he => by simp at he, fun k => by simp, by decide, hf, rfl⟩
 unfold setRoomFor
 refine Ya (Vo ho hd hf ?_)
 dsimp only
 cases hr : t.roomFor n with
 | none => exact Yb (q s.heap (Heap.SameBut.refl a s.heap) h0)
 | some wanted =>
  have hw : wanted < 65 := by
   unfold SetTable.roomFor at hr
   split at hr
   ·cases hr
    rw [hp]
    show (0 + n) * 2 < 65
    omega
   ·cases hr
  have hsz := Zj7 wanted hw
  unfold setRelay
  refine Ya (Vo ho hd hf ?_)
  dsimp only
  rw [if_neg (by rw [YK]; omega)]
  have er : t.relaid (Array.map (fun x : Int × Value => x.1) #[]) wanted = some ({ mask := SetTable.sizeAbove wanted - 1, place := #[], dummies := #[], finger := t.finger, led := t.led, moves := t.movedTo (SetTable.sizeAbove wanted - 1), plain := t.plain }, #[]) := by
   unfold SetTable.relaid
   rw [Array.map_empty]
   exact Zkn _ _ _ _ _
  rw [er]
  refine Ya (wpAny_of_eq (a := ((#[] : Array (Int × Value)), ({ mask := SetTable.sizeAbove wanted - 1, place := #[], dummies := #[], finger := t.finger, led := t.led, moves := t.movedTo (SetTable.sizeAbove wanted - 1), plain := t.plain } : SetTable))) rfl ?_)
  dsimp only
  refine wpAny_storeSet_of ho hd (q _ (Heap.SameBut.update _ _ _) ?_) (by simp)
  exact (SetOf_store (knd := knd) ho hex hd (es' := #[]) (fun e he => by simp at he) (fun k => by simp) (by decide) (by simp [SetTable.fits, SetTable.fill])).2
theorem Zm5 {d S : Addr} {es : Array DictEntry} {ep : Nat} {od : Obj} {kvs : List (κ × Value)} {nm : String} {Q : Unit -> Shared -> Prop} (hne : d ≠ S) (hod : s.heap.get? d = some od) (hdd : od.data = .dict es ep) (hko : KeysOf knd es) (hpo : Pairs knd es.toList kvs) (hno : (kvs.map (·.1)).Nodup)
    (hsc : ∀ e ∈ es.toList, e.key.scannable = true) (hn : kvs.length <= 30) (h0 : s.heap.SetOf knd S (fun _ => false) 0) (q : ∀ h', Heap.SameBut S s.heap h' -> h'.SetOf knd S (fun k => decide (k ∈ kvs.map (·.1))) kvs.length -> Q () { s with heap := h' }) :
    wpAny (model prog w) A (do
          let __do_lift <- dictEntries d
          forIn [:__do_lift.size] PUnit.unit fun i __s => do
              let __do_lift <- dictEntries d
              match __do_lift[i]? with
                | some e => do
                  let _ <- holding [e.key] (setAddHashed S e.key e.hash)
                  let __do_lift <- dictEpoch d
                  if (__do_lift != ep) = true then do
                      unsupported nm
                      pure (ForInStep.yield PUnit.unit)
                    else pure (ForInStep.yield PUnit.unit)
                | x => do
                  unsupported "internal:set-from-dict"
                  pure (ForInStep.yield PUnit.unit)
          pure ()) Q E s := by
  have hlen : kvs.length = es.size := by rw [<- hpo.length]; simp
  refine Ya (wpAny_dictEntries hod hdd (Ya ?_))
  rw [Std.Legacy.Range.forIn_eq_forIn_range']
  simp only [Std.Legacy.Range.size, Nat.sub_zero, Nat.add_sub_cancel, Nat.div_one]
  refine VP _ (fun rest _ s' => ∃ h' i, s' = { s with heap := h' } /\ rest = List.range' i (es.size - i) /\ i <= es.size /\ h'.SetOf knd S (fun k => decide (k ∈ (kvs.take i).map (·.1))) i /\ h'.get? d = some od /\ Heap.SameBut S s.heap h') _ ?_ ?_ _ _
    ⟨s.heap, 0, rfl, by simp, Nat.zero_le _, by simpa using h0, hod, Heap.SameBut.refl _ _⟩
  · rintro x rest b s' ⟨h', i, rfl, hr, hi, hS, hod', sb⟩
    have hlt : i < es.size := Nat.lt_of_le_of_ne hi fun z => by rw [z, Nat.sub_self] at hr; cases hr
    obtain ⟨rfl, hrest⟩ : x = i /\ rest = List.range' (i + 1) (es.size - (i + 1)) := by
      rw [show es.size - i = (es.size - (i + 1)) + 1 by omega, List.range'_succ] at hr
      injection hr with a1 a2
      exact ⟨a1, a2⟩
    refine Ya (wpAny_dictEntries hod' hdd ?_)
    rw [Y9 hlt]
    have hltk : x < kvs.length := by omega
    have hkv := Yc hltk
    obtain ⟨hkey, _⟩ := hpo.get? (e := es[x]) (k := kvs[x].1) (v := kvs[x].2) (by simp [hlt]) hkv
    obtain ⟨k', hk', hh⟩ := hko es[x] (Array.getElem_mem hlt)
    obtain rfl : k' = kvs[x].1 := knd.inj _ _ _ hk' hkey
    have hnew : kvs[x].1 ∉ (kvs.take x).map (·.1) := fun hm => by
      have h1 : ((kvs.take (x + 1)).map (·.1)).Nodup := hno.sublist ((Vn _ _).map _)
      rw [Yp, hkv, YY] at h1
      exact (List.nodup_append.mp h1).2.2 _ hm _ (by simp) rfl
    show wpAny _ _ (holding [es[x].key] (setAddHashed S es[x].key es[x].hash) >>= fun _ => _) _ _ _
    rw [hh]
    refine wpAny_bind (wpAny_holding (wpAny_setAddHashed_of hkey (hsc _ (by simp)) hS (by have : scanBound = 4096 := rfl; omega) fun h2 sb2 hS2 => ?_))
    have hod2 : h2.get? d = some od := (sb2.2 d hne).trans hod'
    refine Ya (wpAny_dictEpoch hod2 hdd ?_)
    rw [if_neg (by simp)]
    refine Yb ⟨h2, x + 1, rfl, hrest, hlt, ?_, hod2, sb.trans sb2⟩
    simp only [hnew, decide_false, if_false, Bool.false_eq_true] at hS2
    rw [Yp, hkv]
    have e : (fun k' => decide (k' ∈ (kvs.take x ++ (some kvs[x]).toList).map (·.1))) = fun k' => (decide (k' ∈ (kvs.take x).map (·.1)) || decide (k' = kvs[x].1)) := by
      funext k'
      rw [YY, VB]
      simp only [Option.toList_some, List.map_cons, List.map_nil, List.mem_append, List.mem_singleton, Bool.or_eq_true, decide_eq_true_eq]
    rw [e]
    exact hS2
  · rintro b s' ⟨h', i, rfl, hr, hi, hS, hod', sb⟩
    have hin : i = es.size := Nat.le_antisymm hi (Nat.le_of_not_lt fun c => by rw [show es.size - i = (es.size - (i + 1)) + 1 by omega, List.range'_succ] at hr; cases hr)
    rw [hin, <- hlen, YC] at hS
    exact Yb (q h' sb hS)
set_option maxHeartbeats 3200000 in
theorem ZeN {d : Addr} {kvs : List (κ × Value)} {Q : Value -> Shared -> Prop} (hd0 : (d == sysModules) = false) (hm : s.heap.DictOf knd d kvs) (hsc : ∀ k u, knd.is k u = true -> u.scannable = true) (hn : kvs.length <= 30)
  (h : ∀ (h' : Heap), h'.SetOf knd s.heap.objs.size (fun k => decide (k ∈ kvs.map (·.1))) kvs.length -> (∀ b o, s.heap.get? b = some o -> h'.get? b = some o) -> Q (.ref s.heap.objs.size) { s with heap := h' }) :
  wpAny (model prog w) A (call (.type "set") [.ref d]) Q E s := by
 obtain ⟨c, tl, hmro⟩ := F.called_set.mro
 have hmade := F.called_set.made
 have hsub := F.called_set.sub
 refine wpAny_call (codeAny_of_tree ?_)
 show wpAny _ _ (callAny (.type "set") _) _ _ _
 refine Yb ⟨Code.quiet_builtin _ (by decide +kernel), Vi F.entry_type_call ?_⟩
 rw [Around.under_plain (weight_type_call_type "set" [.ref d] []) rfl]
 have h1 := F.called_set.notType
 have h2 := F.called_set.canCreate
 have hct := F.typeCall_set_1 (.ref d)
 repeat (any_goals (first | assumption | wp_step))
 refine YV (Zh5 (.ref d) (E := E) (Q₁ := fun obj s₁ => obj = .ref s.heap.objs.size /\ s₁ = { s with heap := s.heap.push (ZK w) }) ⟨rfl, rfl⟩) fun r s₁ hr => ?_
 cases r with
 | error e => exact hr
 | ok fl =>
  cases fl with
  | ret obj =>
   obtain ⟨rfl, rfl⟩ := hr
   have hS : (s.heap.push (ZK w)).get? s.heap.objs.size = some (ZK w) := Ym _ rfl
   have hT : Shared.TypeIs { s with heap := s.heap.push (ZK w) } (.ref s.heap.objs.size) "set" := ⟨_, hS, rfl⟩
   have hli := F.called_set.init.lookup
   have hbi := F.called_set.init.bind (.ref s.heap.objs.size)
   repeat (any_goals (first | assumption | wp_step))
   refine YV (codeAny_call_builtin (R := wants (fun r s₂ => r = .none /\ ∃ h', s₂ = { s with heap := h' } /\ h'.SetOf knd s.heap.objs.size (fun k => decide (k ∈ kvs.map (·.1))) kvs.length /\ (∀ b o, s.heap.get? b = some o -> h'.get? b = some o)) E)
    F.called_set.init.plain F.entry_set_init (check_set_init_1 hT ?_)) fun r₂ s₂ hr₂ => ?_
   ·obtain ⟨od, es, ep, hod, ⟨hcl, hdc, hsl⟩, hdd, hko, hpo, hno⟩ := hm
    obtain ⟨ocls, odict, odata, oslots⟩ := od
    simp only at hcl hdc hsl hdd
    subst hcl hdc hsl hdd
    have hod' : (s.heap.push (ZK w)).get? d = some { cls := .type "dict", dict := none, data := .dict es ep, slots := #[] } := Yf _ hod
    have hsls := F.sub_dict_set
    have hslf := F.sub_dict_frozenset
    have hdS : d < s.heap.objs.size := Ye hod
    unfold Builtin.«set.__init__» noKeywords Builtin.Frozenset.updateFrom
    generalize hPI : setRoomFor = PI
    wp_walk
    subst hPI
    have hlen : kvs.length = es.size := by rw [<- hpo.length]; simp
    refine ZlE (knd := knd) hS ⟨rfl, rfl, rfl⟩ rfl (by rfl) rfl (by omega) fun h3 sb3 hS3 => ?_
    have hne : d ≠ s.heap.objs.size := Yk hdS
    refine Zm5 (s := { s with heap := h3 }) hne ((sb3.2 d hne).trans hod') rfl hko hpo hno (fun e he => ?_) hn hS3 fun h4 sb4 hS4 => ?_
    ·obtain ⟨k, hk, _⟩ := hko e (by simpa using he)
     exact hsc k _ hk
    ·refine Yb ⟨rfl, h4, rfl, hS4, fun b o e => ?_⟩
     have hb : b ≠ s.heap.objs.size := Yk (Ye e)
     exact (sb4.2 b hb).trans ((sb3.2 b hb).trans (Yf _ e))
   ·cases r₂ with
    | error e => exact hr₂
    | ok fl₂ =>
     cases fl₂ with
     | ret r =>
      obtain ⟨rfl, h', rfl, hS', hk'⟩ := hr₂
      repeat (any_goals (first | assumption | wp_step))
      exact h _ hS' hk'
     | _ => exact hr₂.elim
  | _ => exact hr.elim
end
end My
namespace My
open PySem PySem.Spec L2
open PyProof.Rows hiding St
theorem Zev : entryFor table "set.__ne__" = some Builtin.«frozenset.__ne__» :=
 entryFor_alias (id' := "frozenset.__ne__") (by kernel_rfl) (by first | rfl | decide +kernel | (unfold String.splitOn; simp +decide [String.splitOnAux])) (by decide +kernel) (by kernel_rfl)
section
variable {prog : Program} {w : World} {A : Around} {E : Value -> Shared -> Prop} {s : Shared} {κ : Type} [DecidableEq κ] {knd : KeyKind prog w κ}
theorem ZbO {d : Addr} {kvs : List (κ × Value)} {Q : Value -> Shared -> Prop} (hd0 : (d == sysModules) = false) (hm : s.heap.DictOf knd d kvs) (hsc : ∀ k u, knd.is k u = true -> u.scannable = true) (hn : kvs.length <= 30)
  (h : ∀ (h' : Heap) (S : κ -> Bool), (∀ k, S k = true ↔ k ∈ kvs.map (·.1)) -> h'.SetOf knd s.heap.objs.size S kvs.length -> (∀ b o, s.heap.get? b = some o -> h'.get? b = some o) -> Q (.ref s.heap.objs.size) { s with heap := h' }) :
  wpAny (model prog w) A (call (.type "set") [.ref d]) Q E s := ZeN hd0 hm hsc hn fun h' hS hk => h h' _ (fun k => by simp) hS hk
theorem Zjr {x : Value} (h : x.scannable = true) : Builtin.Frozenset.quietEq x = pure true := by
 cases x <;> first | rfl | (simp [Value.scannable] at h)
theorem Ze6 : isSubtype (.type "set") (.type "frozenset") = pure false := by rw [isSubtype_type]; kernel_rfl
theorem Zfd {a b : Addr} {oa ob : Obj} {es es' : Array (Int × Value)} {ep ep' : Nat} {t t' : SetTable} {Q : List (Int × Value) -> Shared -> Prop} (hoa : s.heap.get? a = some oa) (hda : oa.data = .set es ep t) (hf : t.fits es.size = true) (hel : ElemsOf knd es.toList)
  (hob : s.heap.get? b = some ob) (hdb : ob.data = .set es' ep' t') (hf' : t'.fits es'.size = true) (hel' : ElemsOf knd es'.toList) (q : Q es.toList s) : wpAny (model prog w) A (Builtin.Frozenset.walkUnseen a b) Q E s := by
 unfold Builtin.Frozenset.walkUnseen
 refine Ya (Y2 hoa hda hf (Ya (Y2 hob hdb hf' (Ya ?_))))
 refine VP _ (fun rest q' s' => s' = s /\ q' = (none, ()) /\ ∀ e ∈ rest, e.2.scannable = true) _ ?_ ?_ _ _ ⟨rfl, rfl, fun e he => ?_⟩
 ·intro e rest q' s' h
  obtain ⟨rfl, rfl, hs⟩ := h
  obtain ⟨hh, x⟩ := e
  show wpAny _ _ (Builtin.Frozenset.quietEq x >>= fun _ => _) _ _ _
  exact Ya (wpAny_of_eq (Zjr (hs _ (.head _))) (Yb ⟨rfl, rfl, fun e he => hs e (.tail _ he)⟩))
 ·rintro q' s' ⟨rfl, rfl, _⟩
  exact Yb q
 ·rcases Yx.mp he with h | h
  ·exact (hel e h).2
  ·exact (hel' e h).2
theorem ZhA {a b : Addr} {S S' : κ -> Bool} {n m : Nat} {nm : String} {Q : Bool -> Shared -> Prop} (ha : s.heap.SetOf knd a S n) (hb : s.heap.SetOf knd b S' m) (hnm : n <= m)
  (q : ∀ r : Bool, (r = true ↔ ∀ k, S k = true -> S' k = true) -> Q r s) : wpAny (model prog w) A (Builtin.Frozenset.subsetOf nm a b) Q E s := by
 obtain ⟨oa, es, ep, t, hoa, _, hda, hel, hmem, hz, hf, hn⟩ := id ha
 obtain ⟨ob, es', ep', t', hob, _, hdb, hel', hmem', hz', hf', hn'⟩ := id hb
 unfold Builtin.Frozenset.subsetOf Builtin.Frozenset.sizeOf
 refine Ya (Ya (Y2 hoa hda hf (Yb (Ya (Ya (Y2 hob hdb hf' (Yb ?_)))))))
 rw [if_neg (by omega)]
 refine Ya (Yav hoa hda hf (Ya (Zfd hoa hda hf hel hob hdb hf' hel' (Ya ?_))))
 refine VP _ (fun rest q' s' => s' = s /\ q' = (none, ()) /\ ∃ pre, es.toList = pre ++ rest /\ ∀ e ∈ pre, ∃ k, knd.is k e.2 = true /\ S' k = true) _ ?_ ?_ _ _ ⟨rfl, rfl, [], rfl, fun e he => by cases he⟩
 ·rintro ⟨hh, x⟩ rest q' s' ⟨rfl, rfl, pre, hpre, hin⟩
  have hx : (hh, x) ∈ es.toList := by rw [hpre]; simp
  obtain ⟨⟨k, hk, ehh⟩, hsc⟩ := hel _ hx
  dsimp only at hk ehh hsc ⊢
  rw [ehh]
  refine Ya (YJ (wpAny_setFind_of hk hsc hb fun r hr => ?_))
  cases r with
  | none =>
   have hS' : S' k = false := by rw [<- hr]; rfl
   dsimp only [Option.isNone]
   rw [if_pos rfl]
   refine Yb (Yb (q false ⟨(fun z => by cases z), fun z => ?_⟩))
   have := z k ((hmem k).mpr ⟨_, hx, hk⟩)
   rw [hS'] at this
   cases this
  | some j =>
   have hS' : S' k = true := by rw [<- hr]; rfl
   dsimp only [Option.isNone]
   rw [if_neg (by decide)]
   unfold Builtin.Frozenset.unchanged
   refine Ya (Ya (Yav hoa hda hf ?_))
   rw [if_neg (by simp)]
   refine wpAny_pure (wpAny_pure ⟨rfl, rfl, pre ++ [(hh, x)], by rw [hpre]; simp, fun e he => ?_⟩)
   rcases Yx.mp he with h | h
   ·exact hin e h
   ·rw [YH.mp h]; exact ⟨k, hk, hS'⟩
 ·rintro q' s' ⟨rfl, rfl, pre, hpre, hin⟩
  rw [Y5] at hpre
  refine Yb (q true ⟨fun _ k hk => ?_, fun _ => rfl⟩)
  obtain ⟨e, he, hke⟩ := (hmem k).mp hk
  rw [hpre] at he
  obtain ⟨k', hk', hS'⟩ := hin e he
  obtain rfl : k' = k := knd.inj _ _ _ hk' hke
  exact hS'
set_option maxHeartbeats 3200000 in
theorem Zn3 {a b : Addr} {S S' : κ -> Bool} {n m : Nat} {Q : Value -> Shared -> Prop} (ha : s.heap.SetOf knd a S n) (hb : s.heap.SetOf knd b S' m) (hu : A.units < cLine)
  (q : ∀ r : Bool, (r = true ↔ (n = m /\ ∀ k, S k = true -> S' k = true)) -> Q (.bool !r) s) : wpAny (model prog w) A (compareOp .NotEq (.ref a) (.ref b)) Q E s := by
 refine wpAny_richCompare_same_room (op := .NotEq) ha.typeIs hb.typeIs PySem.F.slot_set_ne (YU PySem.F.slot_set_ne ha.typeIs Zev ?_ (PySem.F.args_set_ne_2 _ _)) hu
 obtain ⟨oa, es, ep, t, hoa, ⟨hc1, hc2, hc3⟩, hda, hel, hmem, hz, hf, hn⟩ := id ha
 obtain ⟨ob, es', ep', t', hob, ⟨hc1', hc2', hc3'⟩, hdb, hel', hmem', hz', hf', hn'⟩ := id hb
 have hs1 : isSubtype (.type "set") (.type "set") = pure true := F.called_set.sub
 show wpAny _ _ (Builtin.Frozenset.slot1 "__ne__" ⟨[.ref a, .ref b], []⟩ >>= fun _ => _) _ _ s
 refine Ya ?_
 unfold Builtin.Frozenset.slot1
 refine Ya (wpAny_of_eq (a := (Value.ref a, [Value.ref b])) rfl (Yb ?_))
 unfold Builtin.Frozenset.isAnySet
 refine Ya (Ya (VA hb.typeIs hs1 (Yb ?_)))
 rw [if_neg (by decide)]
 dsimp only
 refine Ya (Yb (Ya (Yb ?_)))
 unfold Builtin.Frozenset.sizeOf
 refine Ya (Ya (Y2 hoa hda hf (Yb (Ya (Ya (Y2 hob hdb hf' (Yb (Ya ?_))))))))
 have fin : ∀ r : Bool, (r = true ↔ (n = m /\ ∀ k, S k = true -> S' k = true)) -> wpAny (model prog w) A.in1 (ret (.bool !r)) (fun fin s' => ∃ v, fin = .done (.ret v) /\ (v ≠ .notImplemented /\ Q v s')) E s := fun r hr => Yb ⟨_, rfl, (fun z => by cases z), q r hr⟩
 by_cases e : es.size = es'.size
 ·rw [if_neg (by simp [e])]
  refine Ya (Ya (VA ha.typeIs Ze6 (Yb ?_)))
  rw [if_neg (by decide)]
  exact ZhA ha hb (by omega) fun r hr => fin r ⟨fun z => ⟨by omega, hr.mp z⟩, fun z => hr.mpr z.2⟩
 ·rw [if_pos (by simpa using e)]
  exact Yb (fin false ⟨(fun z => by cases z), fun z => absurd (by omega) e⟩)
end
end My
namespace My
open PySem PySem.Spec L2
open PyProof.Rows hiding St
def Zhh (ta tb : TA) : TE := fun σ H Q => ta σ H fun vs H1 => ∃ a ka, vs = [.ref a] /\ Rd H1 a (.dK ka) /\ ka.length <= 30 /\ tb σ H1 fun us H2 => ∃ b kb, us = [.ref b] /\ Rd H2 b (.dK kb) /\ kb.length <= 30 /\
 ∀ r : Bool, (r = true ↔ (ka.length = kb.length /\ ∀ k ∈ ka.map (·.1), k ∈ kb.map (·.1))) -> Q (.bl !r) H2
theorem ZfS {P : Program} {w : World} (k : ZA) (u : Value) (h : (ZI P w).is k u = true) : u.scannable = true := by
 have r := Zjn h
 cases k with
 | inl i => obtain ⟨t, rfl⟩ := (show ∃ t, u = Value.int i t from r); rfl
 | inr z => obtain ⟨t, rfl⟩ := (show ∃ t, u = Value.str z t from r); rfl
section
variable {X : Cx} {e1 e2 : Expr} {ta tb : TA} {p1 p2 q1 q2 pos : Pos}
theorem Inv.addPin {pins : List (Addr × Obj)} {σ : L2.St} {H : Hp} {s : Shared} {p : Addr × Obj} (I : Inv X pins σ H s) (h : s.heap.get? p.1 = some p.2 /\ H p.1 = none /\ p.1 ≠ X.env.locals /\ p.1 ∉ X.fs /\ ∀ v, p.2.data ≠ .cell v) : Inv X (p :: pins) σ H s :=
 ⟨I.ok, I.os, I.bare, I.base, I.loc, I.cell, I.free, I.freeC, fun x hx => by
  rcases Yx.mp hx with hx | hx
  ·exact I.pin x (VF _ hx)
  ·rcases Yn.mp hx with rfl | hx
   ·exact h
   ·exact I.pin x (Yv _ hx), I.hok, I.len⟩
theorem Inv.dropPin {pins : List (Addr × Obj)} {σ : L2.St} {H : Hp} {s : Shared} {p : Addr × Obj} (I : Inv X (p :: pins) σ H s) : Inv X pins σ H s :=
 ⟨I.ok, I.os, I.bare, I.base, I.loc, I.cell, I.free, I.freeC, fun x hx => I.pin x (by
  rcases Yx.mp hx with hx | hx
  ·exact VF _ hx
  ·exact Yv _ (Y1 _ hx)), I.hok, I.len⟩
theorem ZjX (hu : X.A.units < cLine) (hg : Gl X "set") (hm : X.mg "set" = none) (ha : QA X [e1] ta) (hb : QA X [e2] tb) (hp1 : Zn e1 = true := by rfl) (hp2 : Zn e2 = true := by rfl) :
  PC X .NotEq (.Call (.Name "set" p1) [e1] [] q1) (.Call (.Name "set" p2) [e2] [] q2) (Zhh ta tb) := by
 intro pins s σ H Q I h
 refine Vd (Jm I hg hm (show bootBuiltins "set" = some (.type "set") by decide +kernel) ?_ (by decide) (by decide))
 refine Y7 (ZJ (ha.h q1 pins s σ H _ I h) fun us s1 ⟨vs, H1, I1, r1, qq⟩ => ?_) (Zl hp1) rfl
 obtain ⟨a, ka, rfl, ea, hla, h2⟩ := qq
 obtain ⟨u, rfl, ru⟩ := Jn r1
 cases ru
 obtain ⟨_, hd0, va, rel, dd⟩ := JI I1.hok ea
 refine ZbO hd0 dd ZfS (by rw [<- rel.length]; exact hla) fun h1 S1 eS1 hS1 hk1 => ?_
 have hn1 : H1 s1.heap.objs.size = none := I1.hok.fresh (Yd _)
 have f1 := I1.fpOk (Yd _) hn1
 have I1' : Inv X pins σ H1 { s1 with heap := h1 } := I1.kept (t' := s1.toks) hk1
 obtain ⟨o1, es1, ep1, t1, ho1, hx1, hd1, hr1⟩ := id hS1
 have I2 : Inv X ((s1.heap.objs.size, o1) :: pins) σ H1 { s1 with heap := h1 } := Inv.addPin I1' ⟨ho1, hn1, f1.2.1, f1.2.2.1, fun v z => by rw [hd1] at z; cases z⟩
 refine Vd (Jm I2 hg hm (show bootBuiltins "set" = some (.type "set") by decide +kernel) ?_ (by decide) (by decide))
 refine Y7 (ZJ (hb.h q2 _ _ σ H1 _ I2 h2) fun us s2 ⟨vs, H2, I3, r2, qq⟩ => ?_) (Zl hp2) rfl
 obtain ⟨b, kb, rfl, eb, hlb, q⟩ := qq
 obtain ⟨u, rfl, ru⟩ := Jn r2
 cases ru
 obtain ⟨_, hd0', vb, rel', dd'⟩ := JI I3.hok eb
 have hS1' : s2.heap.SetOf (ZI X.prog X.w) s1.heap.objs.size S1 va.length := ⟨o1, es1, ep1, t1, (I3.pin _ (Yv _ (Vc ..))).1, hx1, hd1, hr1⟩
 refine ZbO hd0' dd' ZfS (by rw [<- rel'.length]; exact hlb) fun h3 S2 eS2 hS2 hk2 => ?_
 have hS1'' : h3.SetOf (ZI X.prog X.w) s1.heap.objs.size S1 va.length := let ⟨o, es, ep, t, ho, r⟩ := hS1'; ⟨o, es, ep, t, hk2 _ _ ho, r⟩
 have I4 : Inv X pins σ H2 { s2 with heap := h3 } := (Inv.dropPin I3).kept (t' := s2.toks) hk2
 refine Zn3 (s := { s2 with heap := h3 }) hS1'' hS2 hu fun r hr => ⟨.bl !r, H2, I4, rfl, q r ?_⟩
 rw [hr, rel.length, rel'.length, rel.keys, rel'.keys]
 exact ⟨fun z => ⟨z.1, fun k hk => (eS2 k).mp (z.2 k ((eS1 k).mpr hk))⟩, fun z => ⟨z.1, fun k hk => (eS2 k).mpr (z.2 k ((eS1 k).mp hk))⟩⟩
theorem Zmg (hu : X.A.units < cLine) (hg : Gl X "set") (hm : X.mg "set" = none) (ha : QA X [e1] ta) (hb : QA X [e2] tb) (hp1 : Zn e1 = true := by rfl) (hp2 : Zn e2 = true := by rfl) :
  QT X (.Compare (.Call (.Name "set" p1) [e1] [] q1) [.NotEq] [.Call (.Name "set" p2) [e2] [] q2] pos) (tB (Zhh ta tb)) := ⟨Zlm (ZjX hu hg hm ha hb hp1 hp2)⟩
end
end My
namespace My
open PySem PySem.Spec L2
open PyProof.Rows hiding St
def Zlq (td : TE) : TE := fun σ H Q => td σ H fun x H1 => ∃ a kvs, x = .ref a /\ Rd H1 a (.dK kvs) /\ ∀ l H2, H1 l = none -> Same H1 H2 -> H2 l = some (.lst (kvs.map (·.2))) -> Q (.ref l) H2
theorem Zn4 {kvs : List (ZA × V)} {vs : List (ZA × Value)} (r : KV kvs vs) : ∀ {i : Nat} {kv : ZA × V} {k : ZA} {u : Value}, kvs[i]? = some kv -> vs[i]? = some (k, u) -> RelV kv.2 u := by
 unfold KV at r
 induction r with
 | nil => intro i kv k u h; simp at h
 | cons h t ih =>
  intro i kv k u h1 h2
  cases i with
  | zero => simp at h1 h2; subst h1; rw [h2] at h; exact h.2
  | succ i => exact ih (by simpa using h1) (by simpa using h2)
section
variable {X : Cx} {o : Expr} {td : TE} {p pos apos cpos : Pos}
theorem Zgb (hg : Gl X "list") (hm : X.mg "list" = none) (ho : QE X o td) (hbase : attributeBase o "values" X.env (eval o X.env) = eval o X.env := by rfl) (hline : (apos.endLine == cpos.line) = true := by rfl) (hc : X.calm = true := by rfl) :
  QE X (.Call (.Name "list" p) [.Call (.Attribute o "values" apos) [] [] cpos] [] pos) (Zlq td) := ⟨by
 intro pins s σ H Q I h
 refine Vd (Jm I hg hm (show bootBuiltins "list" = some (.type "list") by decide +kernel) ?_ (by decide) (by decide))
 refine Y7 ?_ rfl rfl
 show wpAny _ _ (spliced ((false, eval (.Call (.Attribute o "values" apos) [] [] cpos) X.env) :: [])) _ _ s
 refine Calls.spliced_cons ?_
 refine wpAny_Call_method0_late hbase hline (ZJ (ho.h pins s σ H _ I h) fun v s1 ⟨x, H1, I1, r1, a, kvs, ex, ea, q⟩ => ?_)
 subst ex
 obtain rfl : v = Value.ref a := r1
 obtain ⟨t1, t2, _⟩ := Zn9 I1 (.inl ⟨kvs, ea⟩)
 obtain ⟨z, hd, vs, rel, dd⟩ := JI I1.hok ea
 refine ⟨"dict", "dict.values", PySem.F.plainAttrs_dict, PySem.F.slot_dict_values, PySem.F.type_dict_values, t1, t2, VY rfl (PySem.evalArgs_none ?_)⟩
 refine call_meetsIn PySem.F.slot_dict_values dd.typeIs PySem.F.entry_dict_values (PySem.F.args_dict_values_1 _) (meets_dict_values (ZI X.prog X.w) a hd) ⟨⟨vs, dd⟩, Calls.spliced_nil ?_⟩
 have I2 : Inv X pins σ H1 { s1 with heap := s1.heap.push { cls := .type "dict_values", data := .fields #[.ref a] } } := I1.kept (t' := s1.toks) fun b o e => Yf _ e
 obtain ⟨ep, at_⟩ := dd.dictAt
 have hf := I2.hok.fresh (Yd _)
 refine kdl_call (PySem.W.kdl_values (knd := ZI X.prog X.w) (kvs := vs) (ep := ep)) (I1.ok.hd hc) ⟨⟨_, Ym _ rfl, rfl, rfl⟩, at_.push _⟩ (by rw [<- rel.length]; exact z) fun h' tk acc' c' kk hl ⟨hs, hacc⟩ => ?_
 refine ⟨.ref _, _, I2.laid (o := .lst (kvs.map (·.2))) kk (Nat.le_refl _) (show ObjOk X.prog X.w _ h' _ (.lst (kvs.map (·.2))) from ⟨by rw [List.length_map]; exact z, acc'.toList, c', Zcf ?_ fun i x u e1 e2 => ?_, by simpa using hl⟩), rfl, q _ _ hf (ZC hf _) upd_same⟩
 ·rw [List.length_map, rel.length]; simpa using hs.symm
 ·obtain ⟨k, g1⟩ := hacc i u (by simpa using e2)
  rw [Yh] at e1
  obtain ⟨kv, g3, rfl⟩ := YD.mp e1
  exact Zn4 rel g3 g1⟩
end
end My
namespace My
open PySem PySem.Spec L2
open PyProof.Rows hiding St
open PySem.W (kat_lt kat_cons kat_nil kat_yes kat_no kat_one kat_kind kat_run kat_snds kas_item kas_ask KatTups KatLex KatGo)
section
variable {prog : Program} {w : World} {A : Around} {E : Value -> Shared -> Prop} {s : Shared}
theorem Zdj {a : Addr} {vs : List Value} {n : Nat} {P : PySem.Fin -> Shared -> Prop} {lt : Nat -> Nat -> Bool} {κ : SortKind} (ho : s.heap.get? a = some (seqObj "list" vs.toArray n)) (h64 : vs.length < 64) (O : KaOrd lt)
  (kind : 2 <= vs.length -> ∀ h', (∀ b o, b ≠ a -> s.heap.get? b = some o -> h'.get? b = some o) -> ∀ C : SortKind -> Shared -> Prop, C κ { s with heap := h' } -> wpAny (model prog w) A (keyKind' vs.toArray) C E { s with heap := h' })
  (cmp : ∀ h', (∀ b o, b ≠ a -> s.heap.get? b = some o -> h'.get? b = some o) -> ∀ i j, i < vs.length -> j < vs.length -> ∀ C : Bool -> Shared -> Prop, C (lt i j) { s with heap := h' } -> wpAny (model prog w) A (keyLt' κ (vs.getD i Value.none) (vs.getD j Value.none)) C (fun _ _ => False) { s with heap := h' })
  (h : ∀ p : Array Nat, KaIn vs.length p -> JW lt p vs.length -> P (.done (.ret .none)) { s with heap := sortedHeap s.heap a vs (List.toArray (p.toList.map fun i => vs.getD i Value.none)) }) :
  wpAny (model prog w) A (Builtin.«list.sort» ⟨[.ref a], []⟩) P E s := by
 rw [list_sort_plain]
 have ha : a < s.heap.objs.size := Ye ho
 refine Ya (listItems_at ho rfl ?_)
 refine Ya (listUpdate_at ho rfl ?_ (by rw [YE, YK]; omega) (YB _))
 obtain ⟨e1, ho1⟩ : ∃ e1, (s.heap.update a (Obj.mapSeq fun _ => #[])).get? a = some (seqObj "list" #[] e1) := ⟨_, V8 ho (fun _ => #[])⟩
 refine Ya (seqEpoch_at ho1 rfl ?_)
 refine Ya (wpAny_newTuple ?_ (by show vs.length <= _; rw [YK]; omega))
 refine Ya (VU ?_ (YB _))
 refine YJ ?_
 have ho6 : (((s.heap.update a (Obj.mapSeq fun _ => #[])).push (seqObj "tuple" vs.toArray 0)).push (seqObj "list" #[] 0)).get? a = some (seqObj "list" #[] e1) :=
  Yf _ (Yf _ ho1)
 have kp : ∀ b o, b ≠ a -> s.heap.get? b = some o -> (((s.heap.update a (Obj.mapSeq fun _ => #[])).push (seqObj "tuple" vs.toArray 0)).push (seqObj "list" #[] 0)).get? b = some o := fun b o hb e =>
  Yf _ (Yf _ ((Heap.get?_update_ne _ _ _ _ hb).trans e))
 show wpAny (model prog w) A _ P E { s with heap := ((s.heap.update a (Obj.mapSeq fun _ => #[])).push (seqObj "tuple" vs.toArray 0)).push (seqObj "list" #[] 0) }
 dsimp only
 by_cases h2 : vs.toArray.size < 2
 ·rw [if_pos h2, if_pos h2]
  refine Ya (Yb ?_)
  rw [StateT.run_pure]
  refine Ya (Yb ?_)
  dsimp only
  refine Ya (seqEpoch_at ho6 rfl ?_)
  have hv : ∀ l : List Value, l.length < 2 -> ((l.toArray.zip l.toArray).map (·.2)) = List.toArray ((List.toArray (List.range l.length)).toList.map fun i => l.getD i Value.none) := fun l hl => by
   match l, hl with
   | [], _ => simp
   | [v], _ => simp
  have hz : vs.length < 2 := by simpa using h2
  have e : (arrOf (SortSt.mk' general' (vs.toArray.zip vs.toArray) #[] 7 none)).map (·.2) = List.toArray ((List.toArray (List.range vs.length)).toList.map fun i => vs.getD i Value.none) := hv vs hz
  rw [e]
  refine wpAny_bind (listUpdate_at ho6 rfl ?_ (Nat.zero_le _) (by simp; rw [sizeLine_eq]; omega))
  simp only [bne_self_eq_false, Bool.false_eq_true, if_false]
  refine Yb (h (List.toArray (List.range vs.length)) (Array.Perm.refl _) fun i j hij hj => ?_)
  have : i = j := by omega
  subst this; exact O.refl _
 ·have hn : 2 <= vs.length := by simpa using h2
  rw [if_neg h2, if_neg h2]
  refine Ya (kind hn _ kp _ ?_)
  refine Ya (Yu (kat_run (G := fun p s' => KaIn vs.length p /\ JW lt p vs.length /\ s' = { s with heap := ((s.heap.update a (Obj.mapSeq fun _ => #[])).push (seqObj "tuple" vs.toArray 0)).push (seqObj "list" #[] 0) })
   (Q := fun st' s' => ∃ p : Array Nat, p.size = vs.length /\ arrOf st' = p.map (kas_item (vs.toArray.zip vs.toArray)) /\ failedOf st' = none /\ KaIn vs.length p /\ JW lt p vs.length /\ s' = { s with heap := ((s.heap.update a (Obj.mapSeq fun _ => #[])).push (seqObj "tuple" vs.toArray 0)).push (seqObj "list" #[] 0) })
   rfl hn h64 (fun p' st' s' a1 a2 a3 ⟨a4, a5, a6⟩ => ⟨p', a1, a2, a3, a4, a5, a6⟩) ?_) ?_ fun _ _ e => e)
  ·have J1 : Zdr lt (kas_ask prog w A κ vs) (fun s2 => s2 = { s with heap := ((s.heap.update a (Obj.mapSeq fun _ => #[])).push (seqObj "tuple" vs.toArray 0)).push (seqObj "list" #[] 0) }) vs.length := by
    rintro i j hi hj C s2 rfl hC
    exact cmp _ kp i j hi hj C (hC _ rfl)
   exact Zl5 O J1 (by omega) rfl fun p s2 hp e2 hu => ⟨hp, hu, e2⟩
  rintro ⟨⟨⟩, st'⟩ s' ⟨p, hp, har, hf, hin, hup, rfl⟩
  dsimp only
  have hout := kat_snds rfl har
  rw [hout]
  have hsz : (List.toArray (p.toList.map fun i => vs.getD i Value.none)).size = vs.length := by rw [YE, Yi, YG, hp]
  refine Ya (seqEpoch_at ho6 rfl ?_)
  refine Ya (listUpdate_at ho6 rfl ?_ (YB _) (Yj (Vp hsz) (by rw [YK]; omega)))
  rw [hf]
  simp only [bne_self_eq_false, Bool.false_eq_true, if_false]
  exact Yb (h p hin hup)
theorem ZgS {l : Addr} {vs : List Value} {Q : Value -> Shared -> Prop} {lt : Nat -> Nat -> Bool} {κ : SortKind} (hl : s.heap.IsList l vs.toArray) (h64 : vs.length < 64) (O : KaOrd lt)
  (kind : 2 <= vs.length -> ∀ h', (∀ b o, s.heap.get? b = some o -> h'.get? b = some o) -> ∀ C : SortKind -> Shared -> Prop, C κ { s with heap := h' } -> wpAny (model prog w) A.in1.in1 (keyKind' vs.toArray) C (fun _ _ => False) { s with heap := h' })
  (cmp : ∀ h', (∀ b o, s.heap.get? b = some o -> h'.get? b = some o) -> ∀ i j, i < vs.length -> j < vs.length -> ∀ C : Bool -> Shared -> Prop, C (lt i j) { s with heap := h' } -> wpAny (model prog w) A.in1.in1 (keyLt' κ (vs.getD i Value.none) (vs.getD j Value.none)) C (fun _ _ => False) { s with heap := h' })
  (h : ∀ p : Array Nat, KaIn vs.length p -> JW lt p vs.length -> Q (.ref (s.heap.objs.size + 1)) { s with heap := sortedAll s.heap vs (List.toArray (p.toList.map fun i => vs.getD i Value.none)) }) :
  wpAny (model prog w) A (call (.builtin "sorted") [.ref l]) Q E s := by
 refine Calls.call_function_entry kind_sorted plain_sorted entry_sorted (args_sorted1 _) ?_
 unfold Builtin.«sorted»
 refine Ya (m := checkCount "sorted" 1 1 _) (Yb ?_)
 refine Ya (collect_list hl ?_ (by rw [YK]; omega))
 refine Ya (VU ?_ (by rw [YK]; omega))
 have hsz : ((s.heap.push (seqObj "list" #[] 0)).update s.heap.objs.size (Obj.mapSeq (· ++ vs.toArray))).objs.size = s.heap.objs.size + 1 := by
  rw [V2, size_push']
 have hoL : (((s.heap.push (seqObj "list" #[] 0)).update s.heap.objs.size (Obj.mapSeq (· ++ vs.toArray))).push (seqObj "list" vs.toArray 0)).get? (s.heap.objs.size + 1) = some (seqObj "list" vs.toArray 0) := by
  rw [<- hsz]; exact Ym _ rfl
 have keep : ∀ b o, s.heap.get? b = some o -> (((s.heap.push (seqObj "list" #[] 0)).update s.heap.objs.size (Obj.mapSeq (· ++ vs.toArray))).push (seqObj "list" vs.toArray 0)).get? b = some o := fun b o q => by
  have hlt : b < s.heap.objs.size := Ye q
  rw [Yay _ _ _ (by rw [hsz]; exact Yk (Y3 hlt)), Heap.get?_update_ne _ _ _ _ (Yk hlt), Yay _ _ _ (Yk hlt)]
  exact q
 show wpAny _ _ _ _ _ { s with heap := ((s.heap.push (seqObj "list" #[] 0)).update s.heap.objs.size (Obj.mapSeq (· ++ vs.toArray))).push (seqObj "list" vs.toArray 0) }
 rw [hsz]
 refine Ya (YJ (YU slot_list_sort ⟨_, hoL, rfl⟩ entry_list_sort ?body (args_list_sort _)))
 case body =>
  have lt2 : ∀ {b o}, s.heap.get? b = some o -> b ≠ s.heap.objs.size + 1 := fun e => Yk (Y3 (Ye e))
  refine Zdj (s := { s with heap := ((s.heap.push (seqObj "list" #[] 0)).update s.heap.objs.size (Obj.mapSeq (· ++ vs.toArray))).push (seqObj "list" vs.toArray 0) }) hoL h64 O
   (fun h2 h' kp C q => Yu (kind h2 h' (fun b o e => kp b o (lt2 e) (keep b o e)) C q) (fun _ _ x => x) fun _ _ x => x.elim) (fun h' kp i j hi hj C q => cmp h' (fun b o e => kp b o (lt2 e) (keep b o e)) i j hi hj C q) fun p hp hu => ?_
  exact ⟨_, rfl, Yb ⟨_, rfl, h p hp hu⟩⟩
end
def ZS (x y : Int × Str) : Bool := if x.1 = y.1 then decide (x.2.cps.toList < y.2.cps.toList) else decide (x.1 < y.1)
theorem sto_row : Sto ZS where
 irr a := by rw [ZS, if_pos rfl]; exact sto_str.irr _
 tr a b c h1 h2 := by
  unfold ZS at h1 h2 ⊢
  split at h1 <;> split at h2
  ·rw [if_pos (by omega)]; exact sto_str.tr _ _ _ h1 h2
  ·have := VJ h2
   rw [if_neg (by omega)]; exact YQ (by omega)
  ·have := VJ h1
   rw [if_neg (by omega)]; exact YQ (by omega)
  ·have := VJ h1
   have := VJ h2
   rw [if_neg (by omega)]; exact YQ (by omega)
 tri a b h1 h2 := by
  unfold ZS at h1 h2
  split at h1
  ·rename_i e
   rw [if_pos e.symm] at h2
   exact Prod.ext e (sto_str.tri _ _ h1 h2)
  ·rename_i e
   rw [if_neg (Ne.symm e)] at h2
   have := Yao h1
   have := Yao h2
   omega
def RowO (h : Heap) (k : Int × Str) (v : Value) : Prop := ∃ (a : Addr) (o : Obj) (t u n : Nat) (r : Value), v = .ref a /\ h.get? a = some o /\ o.cls = .type "tuple" /\ o.data = .seq #[.int k.1 t, .str k.2 u, r] n
theorem RowO.kept {h h' : Heap} {k : Int × Str} {v : Value} (kp : ∀ b o, h.get? b = some o -> h'.get? b = some o) (r : RowO h k v) : RowO h' k v := by
 obtain ⟨a, o, t, u, n, r, h1, h2, h3⟩ := r
 exact ⟨a, o, t, u, n, r, h1, kp _ _ h2, h3⟩
section
variable {prog : Program} {w : World} {A : Around} {E : Value -> Shared -> Prop} {s : Shared}
theorem Zkx {ks : List Value} (h2 : 2 <= ks.length) (h : ∀ v ∈ ks, ∃ k, RowO s.heap k v) {C : SortKind -> Shared -> Prop} (q : C (tuples' true) s) : wpAny (model prog w) A (keyKind' ks.toArray) C E s := by
 have : ∀ (l : List Value), (∀ v ∈ l, ∃ k, RowO s.heap k v) -> ∃ fs : List Value, KatTups s.heap l fs /\ fs.length = l.length /\ ∀ v ∈ fs, ∃ n t, v = .int n t := by
  intro l
  induction l with
  | nil => intro _; exact ⟨[], .nil, rfl, fun v hv => by cases hv⟩
  | cons v l ih =>
   intro hl
   obtain ⟨k, a, o, t, u, n, r, rfl, ho, hc, hd⟩ := hl v (.head _)
   obtain ⟨fs, g1, g2, g3⟩ := ih fun w hw => hl w (.tail _ hw)
   refine ⟨.int k.1 t :: fs, .cons ho hc hd rfl g1, by simp [g2], fun w hw => ?_⟩
   rcases Yn.mp hw with rfl | hw
   ·exact ⟨_, _, rfl⟩
   ·exact g3 w hw
 obtain ⟨fs, g1, g2, g3⟩ := this ks h
 refine kat_kind (T := .type "int") g1 (by omega) (fun v hv => ?_) rfl ?_
 ·obtain ⟨n, t, rfl⟩ := g3 v hv
  exact .now
 ·exact q
theorem ZoG {k k' : Int × Str} {v v' : Value} (h : RowO s.heap k v) (h' : RowO s.heap k' v') (hne : k = k' -> v = v') {C : Bool -> Shared -> Prop} (q : C (ZS k k') s) : wpAny (model prog w) A (keyLt' (tuples' true) v v') C E s := by
 obtain ⟨a, o, t, u, n, r, rfl, ho, hc, hd⟩ := h
 obtain ⟨a', o', t', u', n', r', rfl, ho', hc', hd'⟩ := h'
 refine kat_lt ho hd ho' hd' ?_
 show KatLex prog w A true (decide (3 < 3)) C [(.int k.1 t, .int k'.1 t'), (.str k.2 u, .str k'.2 u'), (r, r')] 0 s
 refine kat_cons (wpAny_eqBool_int ?_)
 by_cases e : k.1 = k'.1
 ·rw [show (k.1 == k'.1) = true by simp [e]]
  refine kat_yes (kat_cons (wpAny_eqBool_str ?_))
  rw [ZS, if_pos e] at q
  by_cases e2 : k.2 = k'.2
  ·rw [YQ e2]
   have ea : a = a' := by have := hne (Prod.ext e e2); cases this; rfl
   subst ea
   rw [ho] at ho'
   cases ho'
   rw [hd] at hd'
   have er : r = r' := by
    injection hd' with h1
    injection h1 with h1
    injection h1 with _ h1
    injection h1 with _ h1
    injection h1
   subst er
   refine kat_yes (kat_cons (SeqAt.EqAt.same _ _ _ _ _ ?_))
   refine kat_yes (kat_nil ?_)
   rw [e2, sto_str.irr] at q
   exact q
  ·rw [YX e2]
   exact kat_no (kat_one _ _ (PyProof.Rows.lt_str (show PySem.W.BoolBack C (.bool (decide (k.2.cps.toList < k'.2.cps.toList))) s from q)))
 ·rw [show (k.1 == k'.1) = false by simp [e]]
  rw [ZS, if_neg e] at q
  exact kat_no (oneLt_int q)
end
section
variable {X : Cx} {e : Expr} {t : TA} {p pos : Pos}
def Zeb : List V -> Hp -> VK -> Prop := fun xs H Q => ∃ (a : Addr) (ps : List (V × Int × Str)), xs = [.ref a] /\ H a = some (.lst (ps.map (·.1))) /\ ps.length < 64 /\ (∀ x ∈ ps, ∃ t r, x.1 = .ref t /\ H t = some (.tup [.int x.2.1, .str x.2.2, r])) /\ (ps.map (·.2)).Nodup /\
 ∀ l H2 (qs : List (V × Int × Str)), H l = none -> Same H H2 -> H2 l = some (.lst (qs.map (·.1))) -> qs.Perm ps -> qs.Pairwise (fun x y => ZS x.2 y.2 = true) -> Q (.ref l) H2
theorem Zdn : CallR X (.builtin "sorted") Zeb := by
 intro pins s σ H xs us Q I r h
 obtain ⟨a, ps, rfl, e, hl, hrow, hnd, q⟩ := h
 obtain ⟨u, rfl, ru⟩ := Jn r
 cases ru
 obtain ⟨_, its, n, hv, g⟩ := I.hok a _ e
 have hil : its.length = ps.length := by rw [<- hv.length, Yi]
 have hr : ∀ i, (hi : i < ps.length) -> RowO s.heap ps[i].2 (its.getD i Value.none) := fun i hi => by
  obtain ⟨u, hu, rv⟩ := hv.get (i := i) (x := ps[i].1) (by rw [Yh, Yc hi]; rfl)
  have eu : its.getD i Value.none = u := by rw [List.getD_eq_getElem?_getD, hu]; rfl
  rw [eu]
  obtain ⟨t, r, e1, e2⟩ := hrow _ (YI hi)
  rw [e1] at rv
  cases rv
  obtain ⟨_, its2, r2, ⟨o, ho, hc, n2, hd⟩⟩ := I.hok t _ e2
  cases r2 with
  | @cons _ u1 _ us r1 r2 =>
   cases r2 with
   | @cons _ u2 _ us2 r2 r3 =>
    cases r3 with
    | @cons _ u3 _ us3 r3 r4 =>
     cases r4
     obtain ⟨t1, rfl⟩ := r1
     obtain ⟨t2, rfl⟩ := r2
     exact ⟨t, o, t1, t2, n2, u3, rfl, ho, hc, hd⟩
 have hD : s.heap.objs.size <= s.heap.objs.size + 1 := Vr _
 have hf : H (s.heap.objs.size + 1) = none := I.hok.fresh hD
 have hinj : ∀ i j, (hi : i < ps.length) -> (hj : j < ps.length) -> ps[i].2 = ps[j].2 -> i = j := fun i j hi hj e => by
  have h1 := Yae hnd i (by rw [Yi]; exact hi)
  have h2 := Yae hnd j (by rw [Yi]; exact hj)
  rw [List.getElem_map] at h1 h2
  rw [e, h2] at h1
  exact h1.symm
 let kf : Nat -> Int × Str := fun i => (ps.getD i (.non, 0, Str.empty)).2
 have hkf : ∀ i, (hi : i < ps.length) -> kf i = ps[i].2 := fun i hi => by show (ps.getD i _).2 = _; simp [hi]
 refine ZgS (vs := its) (lt := fun i j => ZS (kf i) (kf j)) (κ := tuples' true) ⟨_, g, rfl, n, rfl⟩ (by omega) (sto_row.ka kf) (fun h2 h' kp C hC => ?_) (fun h' kp i j hi hj C hC => ?_) fun pp hpp hu => ?_
 ·refine Zkx h2 (fun v hv => ?_) hC
  obtain ⟨i, hi, ei⟩ := Vv hv
  have := (hr i (by omega)).kept kp
  rw [List.getD_eq_getElem?_getD, Yc hi] at this
  exact ⟨_, ei ▸ this⟩
 ·have hi' : i < ps.length := by omega
  have hj' : j < ps.length := by omega
  refine ZoG ((hr i hi').kept kp) ((hr j hj').kept kp) (fun ek => ?_) ?_
  ·rw [hinj i j hi' hj' ek]
  ·rw [<- hkf i hi', <- hkf j hj']; exact hC
 have hz1 : ((s.heap.push (seqObj "list" #[] 0)).update s.heap.objs.size (Obj.mapSeq (· ++ its.toArray))).objs.size = s.heap.objs.size + 1 := by rw [V2, size_push']
 have hk : ∀ b o, s.heap.get? b = some o -> (sortedAll s.heap its (List.toArray (pp.toList.map fun i => its.getD i Value.none))).get? b = some o := fun b o eb => by
  have hb := Ye eb
  unfold sortedAll
  exact ZaL (Yk (Y3 hb)) (Yf _ ((Vm _ _ (Vl hb)).trans (Yf _ eb)))
 obtain ⟨c, e1⟩ : ∃ c, (sortedAll s.heap its (List.toArray (pp.toList.map fun i => its.getD i Value.none))).get? (s.heap.objs.size + 1) = some { cls := .type "list", dict := none, data := .seq (List.toArray (pp.toList.map fun i => its.getD i Value.none)) c, slots := #[] } := by
  unfold sortedAll
  refine Zbk (n := 0) ?_
  rw [<- hz1]
  exact Ym _ rfl
 have hpl : pp.toList.Perm (List.range ps.length) := by rw [<- hil]; exact Array.perm_iff_toList_perm.mp hpp
 have hplt : ∀ i ∈ pp.toList, i < ps.length := fun i hi => Vj.mp (hpl.mem_iff.mp hi)
 let qs : List (V × Int × Str) := pp.toList.map fun i => ps.getD i (.non, 0, Str.empty)
 have hq1 : qs.map (·.1) = pp.toList.map fun i => (ps.map (·.1)).getD i .non := by
  show (pp.toList.map _).map _ = _
  rw [Yw]
  refine YL fun i hi => ?_
  have := hplt i hi
  simp [this]
 have hvals : Vals (qs.map (·.1)) (pp.toList.map fun i => its.getD i Value.none) := by rw [hq1]; exact ZfN hv _
 have hql : qs.length = ps.length := by show (pp.toList.map _).length = _; rw [Yi, hpl.length_eq, List.length_range]
 have hqp : qs.Perm ps := by
  have h1 : qs.Perm ((List.range ps.length).map fun i => ps.getD i (.non, 0, Str.empty)) := hpl.map _
  have h2 : ((List.range ps.length).map fun i => ps.getD i (.non, 0, Str.empty)) = ps := List.ext_getElem (by simp) fun i h1 h2 => by simp [h2]
  rw [h2] at h1
  exact h1
 have hpn : pp.toList.Nodup := hpl.symm.nodup List.nodup_range
 have hpw : qs.Pairwise (fun x y => ZS x.2 y.2 = true) := by
  refine Vx.mpr (List.pairwise_iff_getElem.mpr fun i j hi hj hij => ?_)
  have hs := hpp.size
  have gi : pp.getD i 0 = pp.toList[i] := by simp at hi; simp [hi]
  have gj : pp.getD j 0 = pp.toList[j] := by simp at hj; simp [hj]
  have h1 := hu i j (by omega) (by simp at hj; omega)
  simp only [gi, gj] at h1
  show ZS (kf _) (kf _) = true
  cases h2 : ZS (kf pp.toList[i]) (kf pp.toList[j]) with
  | true => rfl
  | false =>
   have h3 := sto_row.tri _ _ h2 h1
   have l1 := hplt _ (YI hi)
   have l2 := hplt _ (YI hj)
   rw [hkf _ l1, hkf _ l2] at h3
   have h4 := hinj _ _ l1 l2 h3
   have h5 := Yae hpn i hi
   have h6 := Yae hpn j hj
   rw [h4, h6] at h5
   omega
 have hol : (qs.map (·.1)).length <= sizeLine := by rw [Yi, hql]; exact Yj (Yr hl) (by decide)
 exact ⟨.ref (s.heap.objs.size + 1), upd H (s.heap.objs.size + 1) (.lst (qs.map (·.1))), I.laid (t' := s.toks) (o := .lst (qs.map (·.1))) hk hD (show ObjOk X.prog X.w _ _ _ (.lst (qs.map (·.1))) from ⟨hol, _, c, hvals, by simpa using e1⟩), rfl, q _ _ qs hf (ZC hf _) upd_same hqp hpw⟩
theorem Zgd (hg : Gl X "sorted") (hm : X.mg "sorted" = none) (ha : QA X [e] t) (hp : Zn e = true := by rfl) : QE X (.Call (.Name "sorted" p) [e] [] pos) (tCB Zeb t) :=
 ⟨ZaC Zdn hg hm (by decide +kernel) ha.h (by decide) (by decide) (Zl hp) rfl⟩
end
end My
namespace My
open PySem PySem.SeqAt PySem.MeetsSeq PySem.MeetsSeq2 PySem.MeetsSeq3 PyProof.Rows
open AutoSeq1 (wpAny_loadPart')
theorem Ziq {prog : Program} {w : World} {A : Around} {E : Value -> Shared -> Prop} {s : Shared} {x y : Str} {t u : Tok} {Q : Value -> Shared -> Prop} (h : Q (.bool (!decide (y.cps.toList < x.cps.toList))) s) : wpAny (model prog w) A (richCompare .LtE (.str x t) (.str y u)) Q E s := by
 show wpAny (model prog w) A (compareOp .LtE (.str x t) (.str y u)) Q E s
 exact P.le_str h
theorem Zg1 {prog : Program} {w : World} {A : Around} {E : Value -> Shared -> Prop} {s : Shared} {x y : Int} {t u : Tok} {Q : Value -> Shared -> Prop} (h : Q (.bool (decide (x <= y))) s) : wpAny (model prog w) A (richCompare .LtE (.int x t) (.int y u)) Q E s := by
 show wpAny (model prog w) A (compareOp .LtE (.int x t) (.int y u)) Q E s
 exact PyProof.Rows.le_int h
theorem ZgC (l b : Addr) (n m : Int) (x y : Str) (t u t2 u2 k k2 : Nat) (dd dd2 : Option Addr) (sl sl2 : Array (Option Value)) :
  Meets (Builtin.«tuple.__le__» ⟨[.ref l, .ref b], []⟩)
   (fun A R s => s.heap.get? l = some { cls := .type "tuple", dict := dd, data := .seq #[.int n t, .str x u] k, slots := sl } /\ s.heap.get? b = some { cls := .type "tuple", dict := dd2, data := .seq #[.int m t2, .str y u2] k2, slots := sl2 } /\
    R (.ok (.ret (.bool (!ZS (m, y) (n, x))))) s) :=
 .of_wp fun prog w A R s h => by
  obtain ⟨hp, g, d, tk, os⟩ := s; obtain ⟨hl, hb, h⟩ := h
  have f2 := AutoSeq1.sub_tuple_tuple
  wp_walk using wpAny_loadPart' hl, wpAny_loadPart' hb, VP _ (fun rest b s' => b.1 = none /\ s' = ⟨hp, g, d, tk, os⟩ /\ (rest = [(.int n t, .int m t2), (.str x u, .str y u2)] \/ (rest = [(.str x u, .str y u2)] /\ n = m) \/ (rest = [] /\ n = m /\ x = y))) _
  case turn =>
   rintro ⟨a, c⟩ rest b s' ⟨hb', rfl, hz | ⟨hz, e⟩ | ⟨hz, _⟩⟩
   ·cases hz
    refine Ya (wpAny_eqBool_int ?_)
    by_cases q : n = m
    ·rw [show (n == m) = true by simp [q]]
     wp_walk
     exact ⟨rfl, rfl, .inr (.inl ⟨rfl, q⟩)⟩
    ·rw [show (n == m) = false by simp [q]]
     rw [ZS, if_neg (Ne.symm q)] at h
     wp_walk using Zg1
     refine ⟨_, rfl, ?_⟩
     have e : (!decide ((m, y).fst < (n, x).fst)) = decide (n <= m) := by
      rw [VB]
      simp
     rw [<- e]
     exact h
   ·cases hz
    refine Ya (wpAny_eqBool_str ?_)
    by_cases q : x = y
    ·rw [YQ q]
     wp_walk
     exact ⟨rfl, rfl, .inr (.inr ⟨rfl, e, q⟩)⟩
    ·rw [YX q]
     rw [ZS, if_pos e.symm] at h
     wp_walk using Ziq
     exact ⟨_, rfl, h⟩
   ·cases hz
  case fin =>
   rintro ⟨b1, b2⟩ s' ⟨hb', rfl, hz | ⟨hz, _⟩ | ⟨_, e1, e2⟩⟩
   ·cases hz
   ·cases hz
   ·simp only at hb'
    subst hb'
    rw [e1, e2, sto_row.irr] at h
    wp_walk
    exact ⟨_, rfl, h⟩
  case h =>
   exact ⟨rfl, rfl, .inl rfl⟩
theorem ZgY {A : Around} {s : Shared} {prog : Program} {w : World} {E : Value -> Shared -> Prop} {Q : Value -> Shared -> Prop} {l b : Addr} {o o' : Obj} {n m : Int} {x y : Str} {t u t2 u2 k k2 : Nat} (hl : s.heap.get? l = some o) (hc : o.cls = .type "tuple") (hd : o.data = .seq #[.int n t, .str x u] k) (hb : s.heap.get? b = some o') (hc2 : o'.cls = .type "tuple") (hd2 : o'.data = .seq #[.int m t2, .str y u2] k2) (hu : A.units < cLine)
  (h : Q (.bool (!ZS (m, y) (n, x))) s) : wpAny (model prog w) A (richCompare .LtE (.ref l) (.ref b)) Q E s := by
 obtain ⟨cls, dd, data, sl⟩ := o
 obtain ⟨cls2, dd2, data2, sl2⟩ := o'
 simp only at hc hd hc2 hd2
 subst hc hd hc2 hd2
 exact richCompare_meets_room (op := .LtE) ⟨_, hl, rfl⟩ ⟨_, hb, rfl⟩ F.slot_tuple_le F.entry_tuple_le (F.args_tuple_le_2 _ _) (ZgC l b n m x y t u t2 u2 k k2 dd dd2 sl sl2)
  ⟨hl, hb, show Value.bool (!ZS (m, y) (n, x)) ≠ Value.notImplemented /\ Q (.bool (!ZS (m, y) (n, x))) s from ⟨(fun x => nomatch x), h⟩⟩ hu
end My
namespace My
open PySem PySem.Spec L2
open PyProof.Rows hiding St
section
variable {X : Cx} {a b : Expr} {ta tb : TE} {pos : Pos} {k : Nat}
theorem ZfE {pins : List (Addr × Obj)} {σ : St} {H : Hp} {s : Shared} (I : Inv X pins σ H s) {p : Addr} {n : Int} {z : Str} (h : H p = some (.tup [.int n, .str z])) : ∃ (o : Obj) (t u k : Nat), s.heap.get? p = some o /\ o.cls = .type "tuple" /\ o.data = .seq #[.int n t, .str z u] k := by
 obtain ⟨_, its2, r2, ⟨o, ho, hc, n2, hd⟩⟩ := I.hok p _ h
 cases r2 with
 | @cons _ u1 _ us r1 r2 =>
  cases r2 with
  | @cons _ u2 _ us2 r2 r3 =>
   cases r3
   obtain ⟨t1, rfl⟩ := r1
   obtain ⟨t2, rfl⟩ := r2
   exact ⟨o, t1, t2, n2, ho, hc, hd⟩
def Zqj : R2 := fun x y H Q => ∃ p c n m z w, x = .ref p /\ y = .ref c /\ H p = some (.tup [.int n, .str z]) /\ H c = some (.tup [.int m, .str w]) /\ Q (.bl (!ZS (m, w) (n, z))) H
theorem Zno (hr : Room k X.A) : OpR X (compareOp .LtE) Zqj := by
 intro pins s σ H x y v u Q I rx ry h
 obtain ⟨p, c, n, m, z, w, rfl, rfl, h1, h2, q⟩ := h
 cases rx
 cases ry
 have hu := hr.units
 obtain ⟨o, t, u, k, g1, g2, g3⟩ := ZfE I h1
 obtain ⟨o', t', u', k', g1', g2', g3'⟩ := ZfE I h2
 exact ZgY g1 g2 g3 g1' g2' g3' (by omega) ⟨.bl _, H, I, rfl, q⟩
theorem Zp2 (hr : Room k X.A) (ha : QE X a ta) (hb : QE X b tb) : QT X (.Compare a [.LtE] [b] pos) (JE (tOp Zqj ta tb)) := ⟨Z9 (Zno hr) ha.h hb.h (Jb _)⟩
end
end My
set_option maxHeartbeats 4000000
namespace My
open PySem L2
theorem ZiT {i j : Int} : Zo6 (.int i) (.int j) = true := rfl
theorem ZiW {i j : Str} : Zo6 (.str i) (.str j) = true := rfl
end My
local macro_rules | `(tactic| walk_at "rd") => `(tactic| ((try dsimp only [L2.Zo2, L2.Zjs, L2.Zpb, L2.ZnH, L2.ZoT, L2.Zkl, L2.Zi9, L2.JA, L2.ZmD, L2.tC, L2.tOp, L2.tUn, L2.rI, L2.rI0, L2.rU, L2.rEq, L2.rNe, L2.JE, L2.tB, L2.Zqa, L2.tOr, L2.Zpi, L2.Zjp, L2.Zqm, L2.ZjE, L2.tIf, L2.ZeX, L2.tCB, L2.Zmu, L2.ZgI, My.Zjw, My.Zku, L2.Zph, My.Zkt, L2.ZkT, L2.Zo7, My.ZkK, My.Zj0, L2.Zo9, L2.Zpl, L2.Zpm, L2.CMul, L2.Zpn, L2.tBM, L2.ZeQ, List.getElem?_cons_zero, List.getElem?_cons_succ, List.set_cons_zero, List.set_cons_succ, List.cons_append, List.nil_append, My.ZiT, My.ZiW, Bool.not_true, Bool.not_false, List.length_cons, List.length_nil, My.Zo8, My.Zk6, My.ZnK, My.ZiV, My.tFs, My.Zpo, My.tLm, L2.Zfw, L2.Zld, L2.Zpg, L2.Zdd, My.tDG, My.sDP, My.tDI, L2.Zpj, L2.tSl, L2.Zcd, L2.Zh8, My.tXm, My.Zki, My.ZjM, My.Zpp, My.ZdH, My.Zpa, My.Zpe, My.ZbU, My.ZfW, My.Zjc, L2.Zlr, My.Zlk, L2.Zf2, L2.Zo4, L2.ZkE, L2.ZgJ, L2.Zke, L2.ZnW, L2.Zpf, My.Zp7, My.tXE, My.tXS, My.Zk8, My.Zk3]); (try simp only [L2.Zo2, L2.Zjs, L2.Zpb, L2.ZnH, L2.ZoT, L2.Zkl, L2.Zi9, L2.JA, L2.ZmD, L2.tC, L2.tOp, L2.tUn, L2.rI, L2.rI0, L2.rU, L2.rEq, L2.rNe, L2.JE, L2.tB, L2.Zqa, L2.tOr, L2.Zpi, L2.Zjp, L2.Zqm, L2.ZjE, L2.tIf,
 L2.ZeX, L2.tCB, L2.Zmu, L2.ZgI, My.Zjw, My.Zku, L2.Zph, My.Zkt, L2.ZkT, L2.Zo7, My.ZkK, My.Zj0, L2.Zo9, L2.Zpl, L2.Zpm, L2.CMul, L2.Zpn, L2.tBM, L2.ZeQ,
 List.getElem?_cons_zero, List.getElem?_cons_succ, List.set_cons_zero, List.set_cons_succ, Y5, List.cons_append, List.nil_append, Option.some.injEq, Option.some_inj, exists_eq_left, exists_eq_left', exists_eq_right, exists_eq, exists_eq', exists_and_left, exists_and_right, exists_const,
 L2.V.int.injEq, L2.V.bl.injEq, L2.V.ref.injEq, L2.V.str.injEq, L2.V.ty.injEq, L2.HO.lst.injEq, L2.HO.tup.injEq, reduceCtorEq, List.cons.injEq, and_true, true_and, and_false, false_and, exists_false, or_false, false_or, My.ZiT, My.ZiW, Bool.not_true, Bool.not_false, Ve, Bool.false_eq_true, if_true, if_false, Bool.not_eq_true', decide_eq_false_iff_not, ite_self, ge_iff_le, gt_iff_lt, My.ZqB, My.ZqI, My.Zqo, My.ZqA, YN, List.length_nil, Nat.zero_add, and_assoc, My.Zo8, My.Zk6, My.ZnK, My.ZiV, My.tFs, My.Zpo, My.tLm, L2.Zfw, L2.Zld, L2.Zpg, L2.Zdd, My.tDG, My.sDP, My.tDI, L2.Zpj, L2.tSl, L2.Zcd, L2.Zh8, My.tXm, My.Zki, My.ZjM, My.Zpp, My.ZdH, My.Zpa, My.Zpe, My.ZbU, My.ZfW, My.Zjc, L2.Zlr, My.Zlk, L2.Zf2, L2.Zo4, L2.ZkE, L2.ZgJ, L2.Zke, L2.ZnW, L2.Zpf, My.Zp7, My.tXE, My.tXS, My.Zk8, My.Zk3, My.ZlF, My.ZkC, My.ZlV, My.ZjG, My.Zhq, My.Zj8, My.Zmm, My.Zop, My.ZnV, My.Zow, My.Znj, My.Zos, My.Zog, Bool.true_eq_false, Int.reduceToNat, Int.reducePow, Int.reduceLT, Int.reduceLE, Int.reduceNeg, Int.reduceAbs, Int.reduceSub, Int.reduceMul, Nat.reduceLT, Nat.reduceLeDiff, Nat.reducePow, Int.zero_add, true_or, or_true, eq_self])))
namespace My
open PySem PySem.Spec L2
open PyProof.Rows hiding St
def JH (i : Nat) : Stmt := PySem.Challenge.pw_roadshare_k32_good_ones_have_tables.main.body.getD i (.Pass ⟨0, 0, 0, 0⟩)
abbrev ZbC : Stmt := JH 8
theorem Zfe : FnScope ["thing"] ["thing"] (Zb ZbC) := ⟨rfl, rfl, rfl, by decide +kernel, rfl, by decide +kernel, by decide +kernel⟩
abbrev Zap : Stmt := JH 9
theorem sc_greatest_divisor : FnScope ["one", "other", "larger", "smaller", "rest"] ["one", "other"] (Zb Zap) := ⟨rfl, rfl, rfl, by decide +kernel, rfl, by decide +kernel, by decide +kernel⟩
abbrev ZbG : Stmt := JH 12
theorem sc_is_ratio : FnScope ["thing", "top", "bottom"] ["thing"] (Zb ZbG) := ⟨rfl, rfl, rfl, by decide +kernel, rfl, by decide +kernel, by decide +kernel⟩
abbrev Z8 : Stmt := JH 13
theorem sc_ratio : FnScope ["top", "bottom", "divisor"] ["top", "bottom"] (Zb Z8) := ⟨rfl, rfl, rfl, by decide +kernel, rfl, by decide +kernel, by decide +kernel⟩
abbrev Zau : Stmt := JH 10
theorem ZbE : FnScope ["one", "other"] ["one", "other"] (Zb Zau) := ⟨rfl, rfl, rfl, by decide +kernel, rfl, by decide +kernel, by decide +kernel⟩
abbrev ZcJ : Stmt := JH 14
theorem Zgy : FnScope ["one", "other"] ["one", "other"] (Zb ZcJ) := ⟨rfl, rfl, rfl, by decide +kernel, rfl, by decide +kernel, by decide +kernel⟩
abbrev Zb4 : Stmt := JH 15
theorem Zgi : FnScope ["one", "other"] ["one", "other"] (Zb Zb4) := ⟨rfl, rfl, rfl, by decide +kernel, rfl, by decide +kernel, by decide +kernel⟩
abbrev ZbF : Stmt := JH 16
theorem sc_total_of : FnScope ["some", "bottom"] ["some"] (Zb ZbF) := ⟨rfl, rfl, rfl, by decide +kernel, rfl, by decide +kernel, by decide +kernel⟩
abbrev ZaB : Stmt := JH 17
theorem sc_common_bottom : FnScope ["some", "bottom", "one"] ["some"] (Zb ZaB) := ⟨rfl, rfl, rfl, by decide +kernel, rfl, by decide +kernel, by decide +kernel⟩
abbrev Zbx : Stmt := JH 18
theorem ZeP : FnScope ["one", "bottom"] ["one", "bottom"] (Zb Zbx) := ⟨rfl, rfl, rfl, by decide +kernel, rfl, by decide +kernel, by decide +kernel⟩
abbrev ZbD : Stmt := JH 32
theorem ZeC : FnScope ["thing"] ["thing"] (Zb ZbD) := ⟨rfl, rfl, rfl, by decide +kernel, rfl, by decide +kernel, by decide +kernel⟩
abbrev ZcO : Stmt := JH 33
theorem sc_is_road : FnScope ["thing", "many", "to"] ["thing", "many"] (Zb ZcO) := ⟨rfl, rfl, rfl, by decide +kernel, rfl, by decide +kernel, by decide +kernel⟩
abbrev ZaZ : Stmt := JH 34
theorem sc_look_roads : FnScope ["thing", "many", "road"] ["thing"] (Zb ZaZ) := ⟨rfl, rfl, rfl, by decide +kernel, rfl, by decide +kernel, by decide +kernel⟩
abbrev Zbu : Stmt := JH 35
theorem sc_way_from : FnScope ["roads", "k", "way", "place"] ["roads", "k"] (Zb Zbu) := ⟨rfl, rfl, rfl, by decide +kernel, rfl, by decide +kernel, by decide +kernel⟩
abbrev Zac : Stmt := ZaX (JH 36) 0
theorem ZbQ : FnScope ["self", "roads"] ["self", "roads"] (Zb Zac) := ⟨rfl, rfl, rfl, by decide +kernel, rfl, by decide +kernel, by decide +kernel⟩
abbrev Zaf : Stmt := ZaX (JH 36) 1
theorem ZdL : FnScope ["self"] ["self"] (Zb Zaf) := ⟨rfl, rfl, rfl, by decide +kernel, rfl, by decide +kernel, by decide +kernel⟩
abbrev Zai : Stmt := ZaX (JH 36) 2
theorem Zen : FnScope ["self"] ["self"] (Zb Zai) := ⟨rfl, rfl, rfl, by decide +kernel, rfl, by decide +kernel, by decide +kernel⟩
abbrev Zag : Stmt := ZaX (JH 36) 4
theorem ZdM : FnScope ["self", "k"] ["self", "k"] (Zb Zag) := ⟨rfl, rfl, rfl, by decide +kernel, rfl, by decide +kernel, by decide +kernel⟩
abbrev Zaa : Stmt := ZaX (JH 36) 7
theorem Za2 : FnScope ["self", "k"] ["self", "k"] (Zb Zaa) := ⟨rfl, rfl, rfl, by decide +kernel, rfl, by decide +kernel, by decide +kernel⟩
abbrev Zab : Stmt := ZaX (JH 36) 8
theorem Zby : FnScope ["self", "k"] ["self", "k"] (Zb Zab) := ⟨rfl, rfl, rfl, by decide +kernel, rfl, by decide +kernel, by decide +kernel⟩
abbrev Zaj : Stmt := ZaX (JH 36) 5
theorem Zfg : FnScope ["self", "k"] ["self", "k"] (Zb Zaj) := ⟨rfl, rfl, rfl, by decide +kernel, rfl, by decide +kernel, by decide +kernel⟩
abbrev Zad : Stmt := ZaX (JH 36) 6
theorem Zcm : FnScope ["self", "k"] ["self", "k"] (Zb Zad) := ⟨rfl, rfl, rfl, by decide +kernel, rfl, by decide +kernel, by decide +kernel⟩
abbrev ZdO : Stmt := JH 20
theorem sc_needed : FnScope ["tree", "homes", "group", "roads", "name"] ["tree", "homes", "group"] (Zb ZdO) := ⟨rfl, rfl, rfl, by decide +kernel, rfl, by decide +kernel, by decide +kernel⟩
abbrev Zae : Stmt := JH 21
theorem Zbs : FnScope ["tree", "homes"] ["tree", "homes"] (Zb Zae) := ⟨rfl, rfl, rfl, by decide +kernel, rfl, by decide +kernel, by decide +kernel⟩
abbrev Zig : Stmt := JH 22
theorem ZmY : FnScope ["tree", "homes", "group"] ["tree", "homes", "group"] (Zb Zig) := ⟨rfl, rfl, rfl, by decide +kernel, rfl, by decide +kernel, by decide +kernel⟩
abbrev ZaR : Stmt := JH 23
theorem ZcT : FnScope ["tree", "homes"] ["tree", "homes"] (Zb ZaR) := ⟨rfl, rfl, rfl, by decide +kernel, rfl, by decide +kernel, by decide +kernel⟩
abbrev ZeE : Stmt := JH 24
theorem sc_users : FnScope ["tree", "homes", "k", "places"] ["tree", "homes", "k"] (Zb ZeE) := ⟨rfl, rfl, rfl, by decide +kernel, rfl, by decide +kernel, by decide +kernel⟩
abbrev ZaF : Stmt := JH 26
theorem ZcK : FnScope ["tree", "homes", "sharing"] ["tree", "homes", "sharing"] (Zb ZaF) := ⟨rfl, rfl, rfl, by decide +kernel, rfl, by decide +kernel, by decide +kernel⟩
abbrev ZdR : Stmt := JH 27
theorem sc_judged : FnScope ["tree", "homes", "sharing", "name", "left", "table", "road", "payers", "amount"] ["tree", "homes", "sharing"] (Zb ZdR) := ⟨rfl, rfl, rfl, by decide +kernel, rfl, by decide +kernel, by decide +kernel⟩
abbrev ZdC : Stmt := JH 28
theorem Zh9 : FnScope ["homes", "names"] ["homes", "names"] (Zb ZdC) := ⟨rfl, rfl, rfl, by decide +kernel, rfl, by decide +kernel, by decide +kernel⟩
abbrev Zbw : Stmt := JH 29
theorem sc_payments : FnScope ["price", "payers", "left", "rows", "due", "name", "amount"] ["price", "payers", "left"] (Zb Zbw) := ⟨rfl, rfl, rfl, by decide +kernel, rfl, by decide +kernel, by decide +kernel⟩
abbrev ZaO : Stmt := JH 38
theorem ZcS : FnScope ["_law_script", "_law_k"] ["_law_script", "_law_k"] (Zb ZaO) := ⟨rfl, rfl, rfl, by decide +kernel, rfl, by decide +kernel, by decide +kernel⟩
abbrev Za9 : Stmt := JH 39
theorem Zd2 : FnScope ["_law_cell", "_law_k"] ["_law_cell", "_law_k"] (Zb Za9) := ⟨rfl, rfl, rfl, by decide +kernel, rfl, by decide +kernel, by decide +kernel⟩
abbrev ZaS : Stmt := JH 40
theorem sc_law_numbers : FnScope ["_law_cell", "_law_many", "_law_most", "_law_made", "_law_rest", "_law_k"] ["_law_cell", "_law_many", "_law_most"] (Zb ZaS) := ⟨rfl, rfl, rfl, by decide +kernel, rfl, by decide +kernel, by decide +kernel⟩
abbrev Zcw : Stmt := JH 41
theorem sc_law_low : FnScope ["_law_top", "_law_bottom", "_law_one", "_law_other"] ["_law_top", "_law_bottom"] (Zb Zcw) := ⟨rfl, rfl, rfl, by decide +kernel, rfl, by decide +kernel, by decide +kernel⟩
abbrev ZaG : Stmt := JH 42
theorem Zcp : FnScope ["_law_number", "_law_wide"] ["_law_number", "_law_wide"] (Zb ZaG) := ⟨rfl, rfl, rfl, by decide +kernel, rfl, by decide +kernel, by decide +kernel⟩
abbrev Zah : Stmt := JH 43
theorem sc_law_roads_by : FnScope ["_law_script", "_law_most", "_law_head", "_law_many", "_law_wide", "_law_turned", "_law_k", "_law_number", "_law_other", "_law_roads", "_law_prices", "_law_to"] ["_law_script", "_law_most"] (Zb Zah) := ⟨rfl, rfl, rfl, by decide +kernel, rfl, by decide +kernel, by decide +kernel⟩
abbrev ZaH : Stmt := JH 44
theorem sc_law_names_by : FnScope ["_law_cell", "_law_many", "_law_some", "_law_word", "_law_rest", "_law_k", "_law_spot", "_law_at", "_law_names", "_law_made", "_law_more"] ["_law_cell", "_law_many"] (Zb ZaH) := ⟨rfl, rfl, rfl, by decide +kernel, rfl, by decide +kernel, by decide +kernel⟩
abbrev ZaD : Stmt := JH 45
theorem sc_law_homes_by : FnScope ["_law_script", "_law_many", "_law_most", "_law_head", "_law_names", "_law_homes", "_law_name", "_law_number"] ["_law_script", "_law_many", "_law_most"] (Zb ZaD) := ⟨rfl, rfl, rfl, by decide +kernel, rfl, by decide +kernel, by decide +kernel⟩
abbrev Zci : Stmt := JH 46
theorem sc_law_way : FnScope ["_law_roads", "_law_k", "_law_way_here"] ["_law_roads", "_law_k"] (Zb Zci) := ⟨rfl, rfl, rfl, by decide +kernel, rfl, by decide +kernel, by decide +kernel⟩
abbrev ZcF : Stmt := JH 47
theorem Zgq : FnScope ["_law_one", "_law_other"] ["_law_one", "_law_other"] (Zb ZcF) := ⟨rfl, rfl, rfl, by decide +kernel, rfl, by decide +kernel, by decide +kernel⟩
abbrev ZaA : Stmt := JH 48
theorem sc_law_shared_by : FnScope ["_law_roads", "_law_homes", "_law_cell", "_law_sharing", "_law_name", "_law_numbers_here", "_law_k", "_law_names", "_law_parts", "_law_part", "_law_price"] ["_law_roads", "_law_homes", "_law_cell"] (Zb ZaA) := ⟨rfl, rfl, rfl, by decide +kernel, rfl, by decide +kernel, by decide +kernel⟩
abbrev ZaE : Stmt := JH 49
theorem sc_law_fraction : FnScope ["_law_told", "_law_number"] ["_law_told"] (Zb ZaE) := ⟨rfl, rfl, rfl, by decide +kernel, rfl, by decide +kernel, by decide +kernel⟩
abbrev Za3 : Stmt := JH 50
theorem sc_law_formed : FnScope ["_law_table", "_law_homes", "_law_many", "_law_last", "_law_row"] ["_law_table", "_law_homes", "_law_many"] (Zb Za3) := ⟨rfl, rfl, rfl, by decide +kernel, rfl, by decide +kernel, by decide +kernel⟩
abbrev Zar : Stmt := JH 51
theorem sc_law_table_holds : FnScope ["_law_roads", "_law_homes", "_law_sharing", "_law_table", "_law_paid", "_law_shares", "_law_name", "_law_k", "_law_amount"] ["_law_roads", "_law_homes", "_law_sharing", "_law_table"] (Zb Zar) := ⟨rfl, rfl, rfl, by decide +kernel, rfl, by decide +kernel, by decide +kernel⟩
abbrev ZdV : Stmt := JH 52
theorem sc_law : FnScope ["_law_script", "_law_roads", "_law_homes", "_law_tree", "_law_sharing", "_law_handed", "_law_turn", "_law_told"] ["_law_script"] (Zb ZdV) := ⟨rfl, rfl, rfl, by decide +kernel, rfl, by decide +kernel, by decide +kernel⟩
theorem Jv {c : TT} {a b : TS} {D : Ends} {σ : St} {H : Hp} (h : ∀ A : St -> Hp -> Prop, A = a D -> ∀ B : St -> Hp -> Prop, B = b D -> c σ H fun x H1 => if x = true then A σ H1 else B σ H1) : ZoT c a b D σ H := h _ rfl _ rfl
theorem ZB {a b : TS} {D : Ends} {σ : St} {H : Hp} (h : ∀ B : St -> Hp -> Prop, B = b D -> a { D with nx := B } σ H) : Zo2 a b D σ H := h _ rfl
def isW : V -> Bool
 | .int _ => true
 | _ => false
def Th0 (H : Hp) (x : V) : Prop := ∃ t, Js H x = some t
def Zaw : Sp := fun vs H Q _ => ∃ x, vs = [x] /\ Th0 H x /\ Q (.bl (isW x)) H
def Zcx : Sp := fun vs H Q _ => ∃ a b : Int, vs = [.int a, .int b] /\ Q (.int (Int.gcd a b)) H
def ZaQ (K : PySem.W.Frag) : Sp := fun vs H Q _ => ∃ (a : Addr) (ns : List Int) (k : Nat), vs = [.ref a, .int k] /\ SqL K H a (ns.map V.int) /\ Q (.int (cellOf ns k)) H
section
variable {P : Program} {w : World} {K : PySem.W.Frag} {mg : Str -> Option Value} {base : Heap} {f : Addr} {fd : FuncData}
theorem Zkw {H : Hp} {x : V} {t : String} (e : Js H x = some t) : (isA t "int" && !isA t "bool") = isW x := by
 unfold Js at e
 split at e
 ·cases e; rfl
 ·cases e; rfl
 ·cases e; rfl
 ·cases e; rfl
 ·split at e
  ·cases e; rfl
  ·cases e; rfl
  ·cases e; rfl
  ·cases e
 ·cases e
theorem ZeA (F : Fun K "is_whole" "is_whole" ZbC f fd) (n_isinstance : mg "isinstance" = none) (n_int : mg "int" = none) (n_bool : mg "bool" = none) :
  FnOk P w K mg base Zw 1 f fd ["thing"] Zaw := by
 refine JL F Zfe (fun vs H Q E h => ?_) (fun cdv A outer s H vs Q E hr h => ?_)
 ·obtain ⟨x, rfl, _⟩ := h; rfl
 obtain ⟨x, rfl, ⟨t, ht⟩, q⟩ := h
 refine ⟨_, (Zg (Zs (Zgo (Jl rfl n_isinstance (Zh (Ze 0) (Zh (JY rfl n_int rfl) Za))) (Zg0 (Zp3 (Jl rfl n_isinstance (Zh (Ze 0) (Zh (JY rfl n_bool rfl) Za)))))))), ?_⟩
 rw [show Zu ["thing"] [x] = [some (x)] from rfl]
 rw [<- Zkw ht] at q
 refine ⟨_, rfl, x, "int", t, rfl, ht, by decide, _, rfl, ?_⟩
 refine JR (fun c => ?_) (fun c => ?_)
 ·refine ⟨_, rfl, x, "bool", t, rfl, ht, by decide, _, rfl, ?_⟩
  rw [c] at q
  exact q
 ·rw [Bool.eq_false_iff.mpr c] at q
  exact q
def Pg (a b : Int) (H : Hp) (σ : St) (H' : Hp) : Prop := ∃ (l m : Int) (r : Option V), σ = [some (.int a), some (.int b), some (.int l), some (.int m), r] /\ H' = H /\ 0 <= l /\ 0 <= m /\ Int.gcd l m = Int.gcd a b
theorem Zol (F : Fun K "greatest_divisor" "greatest_divisor" Zap f fd) (n_abs : mg "abs" = none) :
  FnOk P w K mg base Zw 1 f fd ["one", "other"] Zcx := by
 refine JL F sc_greatest_divisor (fun vs H Q E h => ?_) (fun cdv A outer s H vs Q E hr h => ?_)
 ·obtain ⟨a, b, rfl, _⟩ := h; rfl
 obtain ⟨a, b, rfl, q⟩ := h
 refine ⟨_, (Zd (Zo 2 sc_greatest_divisor.nd (ZmI rfl n_abs (Zh (Ze 0) Za)))
   (Zd (Zo 3 sc_greatest_divisor.nd (ZmI rfl n_abs (Zh (Ze 1) Za)))
   (Zd (ZdA Ys (ZkN (Ze 3) Zc) (Zd (Zo 4 sc_greatest_divisor.nd (ZT (Ze 2) (Ze 3)))
   (Zd (Zo 2 sc_greatest_divisor.nd (Ze 3))
   (Zg (Zo 3 sc_greatest_divisor.nd (Ze 4))))))
   (Zg (Zs (Ze 2)))))), ?_⟩
 rw [show Zu ["one", "other", "larger", "smaller", "rest"] [.int a, .int b] = [some (.int a), some (.int b), none, none, none] from rfl]
 walk_at "rd"
 simp only [Zi3]
 refine Zdv (Pg a b H) (fun σ _ => (ZjH σ 3).toNat) ⟨_, _, none, rfl, rfl, by omega, by omega, ZhQ a b⟩ ?_
 rintro σ H' ⟨l, m, r, rfl, rfl, hl, hm, hg⟩
 walk_at "rd"
 refine JR (fun c => ?_) (fun c => ?_)
 ·have hm' : 0 < m := by omega
  refine ⟨_, fun σ' H' z => z, hm', _, ?_, rfl, m, l % m, some (.int (l % m)), rfl, rfl, hm, Y6 _ (by omega), ?_⟩
  ·exact Zcj hm'
  ·rw [ZfD]; exact hg
 ·have e : m = 0 := by omega
  subst e
  have e2 : (Int.gcd a b : Int) = l := by rw [<- hg]; simp; omega
  rw [e2] at q
  exact q
theorem ZlK (F : Fun K "_law_cell_at" "_law_cell_at" ZaO f fd) (n_len : mg "len" = none) :
  FnOk P w K mg base Zw 1 f fd ["_law_script", "_law_k"] (ZaQ K) := by
 refine JL F ZcS (fun vs H Q E h => ?_) (fun cdv A outer s H vs Q E hr h => ?_)
 ·obtain ⟨a, ns, k, rfl, _⟩ := h; rfl
 obtain ⟨a, ns, k, rfl, hS, q⟩ := h
 refine ⟨_, (Zd (Z4 (Zne (Ze 1) (ZoN rfl n_len (Zh (Ze 0) Za))) (Zg (Zs (ZpN (Ze 0) (Ze 1)))) ZN)
   (Zg (Zs (Jf (Zl3 Zc (Ze 1)) Zc)))), ?_⟩
 rw [show Zu ["_law_script", "_law_k"] [.ref a, .int k] = [some (.ref a), some (.int k)] from rfl]
 walk_at "rd"
 refine ⟨_, .inl hS, ?_⟩
 rw [Yi]
 refine JR (fun c => ?_) (fun c => ?_)
 ·exact ⟨_, hS, _, Zm7 (by omega), q⟩
 ·rw [Zjx (by omega)] at q
  exact q
theorem ZbB {H : Hp} (i : Int) : Th0 H (.int i) := ⟨"int", rfl⟩
end
def RatV (H : Hp) (x : V) (q : Rat) : Prop := ∃ p, x = .ref p /\ H p = some (.tup [.int q.num, .int (q.den : Int)])
theorem RatV.same {H H' : Hp} {x : V} {q : Rat} (h : RatV H x q) (s : Same H H') : RatV H' x q := by
 obtain ⟨p, e, h⟩ := h
 exact ⟨p, e, s _ _ h⟩
def Big (b : Int) : Prop := b.natAbs < 2 ^ 8000
theorem Big.of {b : Int} {n : Nat} (h : b.natAbs < 2 ^ n) (hn : n <= 8000) : Big b := ZL h hn
theorem Zca {t b : Int} (hb : 0 < b) : t.fdiv (Int.gcd t b : Int) = (Rat.divInt t b).num /\ b.fdiv (Int.gcd t b : Int) = ((Rat.divInt t b).den : Int) := by
 have e : ZQ t b = (Int.gcd t b : Int) := by unfold ZQ; rw [if_neg (by omega)]
 have h := Zaz (t := t) (b := b) (by omega)
 rw [<- e, ZaM (Zav t b), ZaM (Zak t b)]
 exact h
def Zbc : Sp := fun vs H Q _ => ∃ t b : Int, vs = [.int t, .int b] /\ Big b /\ 0 < b /\ ∀ r H', Same H H' -> RatV H' r (Rat.divInt t b) -> Q r H'
theorem ZbH {H : Hp} {x y : V} {q : Rat} (hx : RatV H x q) (hy : RatV H y q) : ∃ p c, x = .ref p /\ y = .ref c /\ EqD H x y true 1 := by
 obtain ⟨p, rfl, hp⟩ := hx
 obtain ⟨c, rfl, hc⟩ := hy
 refine ⟨p, c, rfl, rfl, ?_⟩
 have h := EqD.tup (e := fun _ => true) (n := 0) hp hc fun j x y h1 h2 => by
  rw [h1] at h2
  cases h2
  match j, h1 with
  | 0, h1 => cases h1; have z := EqD.flat (H := H) (x := .int q.num) (y := .int q.num) rfl rfl; rw [Zbr rfl] at z; exact z
  | 1, h1 => cases h1; have z := EqD.flat (H := H) (x := .int (q.den : Int)) (y := .int (q.den : Int)) rfl rfl; rw [Zbr rfl] at z; exact z
 exact h
def ZaJ : Sp := fun vs H Q _ => ∃ t b : Int, vs = [.int t, .int b] /\ Big b /\ b ≠ 0 /\ ∀ r H', Same H H' -> RatV H' r (Rat.divInt t b) -> Q r H'
section
variable {P : Program} {w : World} {K : PySem.W.Frag} {mg : Str -> Option Value} {base : Heap} {f : Addr} {fd : FuncData} {dV : Value} {cNF : Addr}
theorem ZjK (F : FunD K "ratio" "ratio" Z8 dV f fd) (F_is_whole : Fn P w K mg base Zw 1 "is_whole" ["thing"] Zaw) (F_greatest_divisor : Fn P w K mg base Zw 1 "greatest_divisor" ["one", "other"] Zcx) :
  FnOk P w K mg base Zw 2 f fd ["top", "bottom"] ZaJ := by
 refine ZqE F sc_ratio (fun vs H Q E h => ?_) (fun cdv A outer s H vs Q E hr h => ?_)
 ·obtain ⟨t, b, rfl, _⟩ := h; rfl
 obtain ⟨t, b, rfl, hz, hb0, q⟩ := h
 refine ⟨_, (Zd (Z4 (t_w (JO (Jq (ZU (Zy F_is_whole hr (by decide) rfl (Zh (Ze 0) Za)))) (JT (Jq (ZU (Zy F_is_whole hr (by decide) rfl (Zh (Ze 1) Za))))))) (Zg Jt) ZN)
   (Zd (Z4 (ZnX (Ze 1) Zc) (Zg Jt) ZN)
   (Zd (Zo 2 sc_ratio.nd (Zy F_greatest_divisor hr (by decide) rfl (Zh (Ze 0) (Zh (Ze 1) Za))))
   (Zd (Z4 (Zne (Ze 1) Zc) (Zg (Zo 2 sc_ratio.nd (ZpE (Ze 2)))) ZN)
   (Zg (Zs (Jo (Zh (Zbz (Ze 0) (Ze 2)) (Zh (Zbz (Ze 1) (Ze 2)) Za))))))))), ?_⟩
 rw [show Zu ["top", "bottom", "divisor"] [.int t, .int b] = [some (.int t), some (.int b), none] from rfl]
 refine ZB fun B hB => ?_
 refine Jv fun A hA C hC => ?_
 walk_at "rd"
 simp only [Zaw]
 walk_at "rd"
 refine ⟨ZbB _, ?_⟩
 rw [if_neg (by simp [isW])]
 refine ⟨ZbB _, ?_⟩
 rw [if_neg (by simp [isW])]
 subst hC
 walk_at "rd"
 subst hB
 try dsimp only
 refine ZB fun B hB => ?_
 refine Jv fun A hA C hC => ?_
 walk_at "rd"
 refine JR (fun c => absurd c hb0) (fun c => ?_)
 subst hC
 walk_at "rd"
 subst hB
 try dsimp only
 walk_at "rd"
 simp only [Zcx]
 walk_at "rd"
 have hne := Ze8 (t := t) c
 have hlog : (ZQ t b).natAbs.log2 < 9000 := by rw [Zfk]; exact ZaI (ZL (Yy (Zc1 c) hz) (by omega)) (by omega)
 have fin : ∀ (p : Addr) (H2 : Hp), H p = none -> Same H H2 -> H2 p = some (.tup [.int (t.fdiv (ZQ t b)), .int (b.fdiv (ZQ t b))]) -> Q (.ref p) H2 := fun p H2 _ hs e => q _ _ hs ⟨p, rfl, by
  rw [ZaM (Zav t b), ZaM (Zak t b), (Zaz c).1, (Zaz (t := t) c).2] at e
  exact e⟩
 refine JR (fun cb => ?_) (fun cb => ?_)
 ·have e : ZQ t b = -(Int.gcd t b : Int) := by unfold ZQ; rw [if_pos cb]
  rw [e] at hne hlog fin
  exact ⟨hne, hlog, hne, hlog, fin⟩
 ·have e : ZQ t b = (Int.gcd t b : Int) := by unfold ZQ; rw [if_neg cb]
  rw [e] at hne hlog fin
  exact ⟨hne, hlog, hne, hlog, fin⟩
end
theorem ZP {n : Nat} {q : Rat} (h : SzQ n q) : (q.den : Int).natAbs < 2 ^ n := by simpa using h.2
def Zjb (qs : List Rat) (i : Nat) : Rat := (qs.take i).foldl (· + ·) 0
theorem ZcN {qs : List Rat} {i : Nat} {q : Rat} (h : qs[i]? = some q) : Zjb qs (i + 1) = Zjb qs i + q := by
 unfold Zjb
 rw [Yp, h, List.foldl_append]
 rfl
def RatsV (H : Hp) (xs : List V) (qs : List Rat) : Prop := xs.length = qs.length /\ ∀ (i : Nat) x q, xs[i]? = some x -> qs[i]? = some q -> RatV H x q
theorem ZkP {H : Hp} : RatsV H [] [] := ⟨rfl, fun i x q h _ => by simp at h⟩
theorem ZdJ {n : Nat} (h : n ≠ 0) : SzQ n 0 := ⟨V0 n, Nat.one_lt_two_pow h⟩
theorem SzQ.add {n m k : Nat} {p q : Rat} (hp : SzQ n p) (hq : SzQ m q) (h : n + m + 1 <= k) : SzQ k (p + q) := by
 rw [Zc4]
 refine SzQ.mono (SzQ.of (n := n + m + 1) (Zda p q) (ZgK (Zaq hp.1 (ZP hq)) (Zaq hq.1 (ZP hp)) (by omega) (by omega)) (ZL (Zaq (ZP hp) (ZP hq)) (by omega))) h
def JZ (a b : Nat) : Nat := a / Nat.gcd a b * b
theorem ZmE {a b : Nat} (ha : 0 < a) : ∃ c d, a = Nat.gcd a b * c /\ b = Nat.gcd a b * d /\ JZ a b = Nat.gcd a b * c * d := by
 have hg : 0 < Nat.gcd a b := Nat.gcd_pos_of_pos_left _ ha
 obtain ⟨c, hc⟩ := Yau a b
 obtain ⟨d, hd⟩ := Nat.gcd_dvd_right a b
 refine ⟨c, d, hc, hd, ?_⟩
 unfold JZ
 have e : a / Nat.gcd a b = c := Nat.div_eq_of_eq_mul_right hg hc
 rw [e]
 conv => lhs; rw [hd]
 rw [<- Nat.mul_assoc, Nat.mul_comm c]
theorem ZiA {a b : Nat} (ha : 0 < a) : a ∣ JZ a b := by
 obtain ⟨c, d, h1, h2, h3⟩ := ZmE (b := b) ha
 rw [h3]
 conv => lhs; rw [h1]
 exact Yap _ _
theorem ZgF {a b : Nat} (ha : 0 < a) : b ∣ JZ a b := by unfold JZ; exact Nat.dvd_mul_left _ _
theorem Zf0 {a b : Nat} (ha : 0 < a) (hb : 0 < b) : 0 < JZ a b := Nat.mul_pos (Nat.div_pos (Nat.le_of_dvd ha (Yau a b)) (Nat.gcd_pos_of_pos_left _ ha)) hb
def JX (qs : List Rat) (i : Nat) : Nat := (qs.take i).foldl (fun b q => JZ b q.den) 1
theorem Zck {qs : List Rat} {i : Nat} {q : Rat} (h : qs[i]? = some q) : JX qs (i + 1) = JZ (JX qs i) q.den := by
 unfold JX
 rw [Yp, h, List.foldl_append]
 rfl
theorem ZdD {qs : List Rat} {n : Nat} (hz : ∀ (i : Nat) q, qs[i]? = some q -> SzQ n q) : ∀ i, i <= qs.length -> 0 < JX qs i /\ JX qs i <= 2 ^ (n * i) /\ ∀ (j : Nat) q, j < i -> qs[j]? = some q -> q.den ∣ JX qs i
 | 0, _ => ⟨Nat.one_pos, Nat.one_le_two_pow, fun j q h => absurd h (V1 j)⟩
 | i + 1, h => by
  obtain ⟨h1, h2, h3⟩ := ZdD hz i (Yr h)
  have hq := Yc h
  rw [Zck hq]
  refine ⟨Zf0 h1 qs[i].den_pos, ?_, fun j q hj hq2 => ?_⟩
  ·unfold JZ
   refine Yj (V3 (Yj (Yax _ _) h2) (Yr (hz i _ hq).2)) ?_
   rw [<- Vq, Nat.mul_succ]
   exact Yd _
  ·by_cases c : j = i
   ·subst c
    rw [hq] at hq2
    cases hq2
    exact ZgF h1
   ·exact VR (h3 j q (by omega) hq2) (ZiA h1)
def Zo5 (qs : List Rat) : Prop := (∀ (i : Nat) q, qs[i]? = some q -> SzQ 4000 q) /\ ∀ i, i <= qs.length -> JX qs i <= 2 ^ 4000
theorem Zm9 {qs : List Rat} {n : Nat} (hz : ∀ (i : Nat) q, qs[i]? = some q -> SzQ n q) (hn : n * qs.length <= 4000) : Zo5 qs :=
 ⟨fun i q h => (hz i q h).mono (Yj (Nat.le_mul_of_pos_right _ (Yy (YB _) (Yg.mp h).1)) hn), fun i hi => Yj (ZdD hz i hi).2.1 (Va (by decide) (Yj (Nat.mul_le_mul_left _ hi) hn))⟩
def JG (B : Nat) (q : Rat) : Int := q.num * ((B : Int) / (q.den : Int))
theorem Zcg {B : Nat} {q : Rat} (hB : 0 < B) (h : q.den ∣ B) : Rat.divInt (JG B q) (B : Int) = q := by
 obtain ⟨c, rfl⟩ := h
 have hd := q.den_pos
 have hc : (c : Int) ≠ 0 := by
  intro z
  have : c = 0 := by omega
  rw [this] at hB
  simp at hB
 unfold JG
 rw [Int.natCast_mul, Int.mul_ediv_cancel_left _ (by omega), Yak hc]
 exact Vg q
theorem ZbV {a b c : Int} (h : c ≠ 0) : Rat.divInt a c + Rat.divInt b c = Rat.divInt (a + b) c := by
 rw [Rat.divInt_add_divInt _ _ h h, <- Int.add_mul, Yak h]
theorem Zft {qs : List Rat} {B : Nat} (hB : 0 < B) (hd : ∀ (j : Nat) q, qs[j]? = some q -> q.den ∣ B) : ∀ i, i <= qs.length -> Zjb qs i = Rat.divInt (((qs.take i).map (JG B)).sum) (B : Int)
 | 0, _ => by
  show (0 : Rat) = Rat.divInt 0 (B : Int)
  rw [Yaw]
 | i + 1, h => by
  have hq := Yc (show i < qs.length from h)
  rw [ZcN hq, Zft hB hd i (Yr h), Yp, hq, YY, List.sum_append]
  conv => lhs; rw [<- Zcg hB (hd i _ hq)]
  rw [ZbV (by omega)]
  simp
def Zi2 : Sp := fun vs H Q _ => ∃ a b : Nat, vs = [.int a, .int b] /\ 0 < a /\ 0 < b /\ a <= 2 ^ 4000 /\ b <= 2 ^ 4000 /\ Q (.int (JZ a b : Nat)) H
def Zeu (K : PySem.W.Frag) : Sp := fun vs H Q _ => ∃ (a : Addr) (xs : List V) (qs : List Rat), vs = [.ref a] /\ SqL K H a xs /\ RatsV H xs qs /\ Zo5 qs /\ Q (.int (JX qs qs.length : Nat)) H
def ZiF : Sp := fun vs H Q _ => ∃ (x : V) (q : Rat) (B : Nat), vs = [x, .int B] /\ RatV H x q /\ SzQ 4000 q /\ B <= 2 ^ 4000 /\ Q (.int (JG B q)) H
def ZbX (K : PySem.W.Frag) : Sp := fun vs H Q _ => ∃ (a : Addr) (xs : List V) (qs : List Rat), vs = [.ref a] /\ SqL K H a xs /\ RatsV H xs qs /\ Zo5 qs /\ qs.length <= 1000 /\ ∀ r H', Same H H' -> RatV H' r (Zjb qs qs.length) -> Q r H'
theorem Zec {a n : Nat} (h : a <= 2 ^ n) : ((a : Nat) : Int).natAbs < 2 ^ (n + 1) := by
 rw [VI, Nat.pow_succ]
 have := V0 n
 omega
section
variable {P : Program} {w : World} {K : PySem.W.Frag} {mg : Str -> Option Value} {base : Heap} {f : Addr} {fd : FuncData}
theorem ZnR (F : Fun K "least_multiple" "least_multiple" Zau f fd) (F_greatest_divisor : Fn P w K mg base Zw 1 "greatest_divisor" ["one", "other"] Zcx) : FnOk P w K mg base Zw 2 f fd ["one", "other"] Zi2 := by
 refine JL F ZbE (fun vs H Q E h => ?_) (fun cdv A outer s H vs Q E hr h => ?_)
 ·obtain ⟨a, b, rfl, _⟩ := h; rfl
 obtain ⟨a, b, rfl, ha, hb, za, zb, q⟩ := h
 refine ⟨_, (Zg (Zs (Jc (Zbz (Ze 0) (Zy F_greatest_divisor hr (by decide) rfl (Zh (Ze 0) (Zh (Ze 1) Za)))) (Ze 1)))), ?_⟩
 rw [show Zu ["one", "other"] [.int a, .int b] = [some (.int a), some (.int b)] from rfl]
 walk_at "rd"
 simp only [Zcx]
 walk_at "rd"
 have eg : Int.gcd (a : Int) (b : Int) = Nat.gcd a b := rfl
 have hg : 0 < Nat.gcd a b := Nat.gcd_pos_of_pos_left _ ha
 have hga : Nat.gcd a b <= a := Nat.le_of_dvd ha (Yau a b)
 have ef : (a : Int).fdiv (Int.gcd (a : Int) (b : Int) : Int) = ((a / Nat.gcd a b : Nat) : Int) := by
  rw [eg, Yac _ (by omega)]
  rfl
 refine ⟨by rw [eg]; omega, ?_, ?_, ?_⟩
 ·rw [eg]
  exact ZaI (ZL (Zec (Yj hga za)) (by decide)) (by decide)
 ·rw [ef]
  exact JJ (Zec (Yj (Yax _ _) za)) (Zec zb) (by decide)
 ·rw [ef, <- Int.natCast_mul]
  exact q
theorem ZqG {a : Addr} {xs : List V} {g : TG} {tb : TS} {D : Ends} {σ : St} {H : Hp} {te : TE} (hv : ∀ R : V -> Hp -> Prop, R (.ref a) H -> te σ H R) (hS : SqL K H a xs) (Pv : Nat -> St -> Hp -> Prop) (h0 : Pv 0 σ H) (hl : ∀ i σ H, i <= xs.length -> Pv i σ H -> SqL K H a xs)
  (hs : ∀ i x σ H, xs[i]? = some x -> Pv i σ H -> g x σ H fun σ2 H2 => tb { D with nx := Pv (i + 1), ct := Pv (i + 1), bk := D.nx } σ2 H2) (hd : ∀ σ H, Pv xs.length σ H -> D.nx σ H) : Zja (ZcV K te) g tb D σ H :=
 hv _ ⟨a, rfl, ⟨xs, hS⟩, ZfL Pv h0 hl hs hd⟩
def Pcb (a : Addr) (qs : List Rat) (H0 : Hp) (i : Nat) (σ : St) (H : Hp) : Prop := H = H0 /\ ∃ o, σ = [some (.ref a), some (.int (JX qs i : Nat)), o]
theorem ZiH (F : Fun K "common_bottom" "common_bottom" ZaB f fd) (F_least_multiple : Fn P w K mg base Zw 2 "least_multiple" ["one", "other"] Zi2) : FnOk P w K mg base Zw 3 f fd ["some"] (Zeu K) := by
 refine JL F sc_common_bottom (fun vs H Q E h => ?_) (fun cdv A outer s H vs Q E hr h => ?_)
 ·obtain ⟨a, xs, qs, rfl, _⟩ := h; rfl
 obtain ⟨a, xs, qs, rfl, hS, hR, hz, q⟩ := h
 refine ⟨_, (Zd (Zo 1 sc_common_bottom.nd Zc)
   (Zd (ZY Ys (Z5 (Ze 0)) (Zp 2 sc_common_bottom.nd) (Zg (Zo 1 sc_common_bottom.nd (Zy F_least_multiple hr (by decide) rfl (Zh (Ze 1) (Zh (Zx (Ze 2) Zc) Za))))))
   (Zg (Zs (Ze 1))))), ?_⟩
 rw [show Zu ["some", "bottom", "one"] [.ref a] = [some (.ref a), none, none] from rfl]
 walk_at "rd"
 refine ZqG (xs := xs) (fun R h => by first | exact ⟨_, rfl, h⟩ | (walk_at "rd"; exact h)) hS (Pcb a qs H) ⟨rfl, _, rfl⟩ (fun i σ H' _ h => by rw [h.1]; exact hS) (fun i x σ H' hx h => ?_) (fun σ H' h => ?_)
 ·obtain ⟨rfl, o, rfl⟩ := h
  have hi : i < qs.length := by rw [<- hR.1]; exact (Yg.mp hx).1
  have hq := Yc hi
  obtain ⟨p, rfl, hp⟩ := hR.2 _ _ _ hx hq
  obtain ⟨h1, _, _⟩ := ZdD hz.1 i (Yr hi)
  have h2 := hz.2 i (Yr hi)
  walk_at "rd"
  simp only [Zi2]
  walk_at "rd"
  refine ⟨_, hp, _, rfl, JX qs i, rfl, qs[i].den, rfl, h1, qs[i].den_pos, h2, Yr (hz.1 i _ hq).2, rfl, some (.ref p), by rw [Zck hq]⟩
 ·obtain ⟨rfl, o, rfl⟩ := h
  rw [hR.1]
  walk_at "rd"
  exact q
theorem ZoO (F : Fun K "top_over" "top_over" Zbx f fd) : FnOk P w K mg base Zw 1 f fd ["one", "bottom"] ZiF := by
 refine JL F ZeP (fun vs H Q E h => ?_) (fun cdv A outer s H vs Q E hr h => ?_)
 ·obtain ⟨x, q, B, rfl, _⟩ := h; rfl
 obtain ⟨x, t, B, rfl, ⟨p, rfl, hp⟩, z, zB, q⟩ := h
 refine ⟨_, (Zg (Zs (Jc (Zx (Ze 0) Zc) (Zbz (Ze 1) (Zx (Ze 0) Zc))))), ?_⟩
 rw [show Zu ["one", "bottom"] [.ref p, .int B] = [some (.ref p), some (.int B)] from rfl]
 walk_at "rd"
 simp only [hp]
 walk_at "rd"
 have hd := t.den_pos
 have ef : (B : Int).fdiv (t.den : Int) = (B : Int) / (t.den : Int) := Yac _ (by omega)
 have en : (B : Int) / (t.den : Int) = ((B / t.den : Nat) : Int) := rfl
 refine ⟨by omega, ZaI (ZL (ZP z) (by decide)) (by decide), ?_, ?_⟩
 ·rw [ef, en]
  exact JJ z.1 (Zec (Yj (Yax _ _) zB)) (by decide)
 ·rw [ef]
  exact q
theorem Zjq (F : Fun K "total_of" "total_of" ZbF f fd) (n_sum : mg "sum" = none) (F_common_bottom : Fn P w K mg base Zw 3 "common_bottom" ["some"] (Zeu K)) (F_top_over : Fn P w K mg base Zw 1 "top_over" ["one", "bottom"] ZiF)
  (F_ratio : Fn P w K mg base Zw 2 "ratio" ["top", "bottom"] ZaJ) : FnOk P w K mg base Zw 4 f fd ["some"] (ZbX K) := by
 refine JL F sc_total_of (fun vs H Q E h => ?_) (fun cdv A outer s H vs Q E hr h => ?_)
 ·obtain ⟨a, xs, qs, rfl, _⟩ := h; rfl
 obtain ⟨a, xs, qs, rfl, hS, hR, hz, hlen, q⟩ := h
 refine ⟨_, (Zd (Zo 1 sc_total_of.nd (Zy F_common_bottom hr (by decide) rfl (Zh (Ze 0) Za)))
   (Zg (Zs (Zy F_ratio hr (by decide) rfl (Zh (Zih rfl n_sum (Zh (ZfY (Zkv ["one"] [1] ["bottom"]) (Z5 (Ze 0)) (by exact fun s H fp => (Zp 0 (show List.Nodup (["one", "bottom"] : List Str) from by decide +kernel))) (by exact fun s H fp => (Zy F_top_over hr (by decide) rfl (Zh (Ze 0) (Zh (Ze 1) Za))))) Za)) (Zh (Ze 1) Za)))))), ?_⟩
 rw [show Zu ["some", "bottom"] [.ref a] = [some (.ref a), none] from rfl]
 refine ZB fun R0 hR0 => ?_
 walk_at "rd"
 refine ⟨a, xs, qs, rfl, hS, hR, hz, ?_⟩
 obtain ⟨b1, b2, b3⟩ := ZdD hz.1 qs.length (Yd _)
 have b4 := hz.2 _ (Yd _)
 have b5 : ∀ (j : Nat) t, qs[j]? = some t -> t.den ∣ JX qs qs.length := fun j t h => b3 j t (Yg.mp h).1 h
 generalize JX qs qs.length = B at b1 b2 b3 b4 b5
 subst hR0
 try dsimp only
 walk_at "rd"
 simp only [JP, ZcV]
 walk_at "rd"
 refine ⟨⟨_, hS⟩, ?_⟩
 rw [show Ji [some (V.ref a), some (V.int (B : Int))] [1] = [some (V.int (B : Int))] from rfl]
 unfold Zm8
 refine ZbT (xs := xs) (fun acc i ys H' => Same H H' /\ H' acc = some (.lst ys) /\ ys = ((qs.take i).map (JG B)).map V.int /\ i <= qs.length)
  (fun acc H2 hn sm e => ⟨sm, e, rfl, YB _⟩) (fun acc i ys H2 hn2 ⟨sm, e, ey, hi⟩ => ⟨e, ?_, sm.seq hS⟩) (fun acc i y ys H2 os hn2 hi hP ol => ?_) (fun acc ys H2 hn2 hP => ?_)
 ·rw [ey, Yi, Yi, YM]
  omega
 ·obtain ⟨sm, e, ey, _⟩ := hP
  obtain ⟨o, rfl⟩ : ∃ o, os = [o] := by match os, ol with | [o], _ => exact ⟨o, rfl⟩
  have hil : i < qs.length := by rw [<- hR.1]; exact (Yg.mp hi).1
  have hq := Yc hil
  walk_at "rd"
  refine ⟨[some y], rfl, rfl, ?_⟩
  simp only [Zlf]
  walk_at "rd"
  simp only [ZiF]
  walk_at "rd"
  refine ⟨qs[i], B, rfl, (hR.2 _ _ _ hi hq).same sm, hz.1 i _ hq, b4, e, Zr hn2 sm, upd_same, ?_, hil⟩
  rw [ey, Yp, hq, YY, YY]
  rfl
 ·obtain ⟨sm, e, ey, _⟩ := hP
  rw [hR.1, YC] at ey
  rw [ey] at e
  walk_at "rd"
  refine ⟨_, e, ?_⟩
  simp only [ZaJ]
  walk_at "rd"
  refine ⟨Big.of (Zec b4) (by decide), by omega, fun r H' hs v => q r H' (sm.trans hs) ?_⟩
  rw [Zft b1 b5 _ (Yd _), YC]
  exact v
end
section
variable {P : Program} {w : World} {K : PySem.W.Frag} {mg : Str -> Option Value} {base : Heap} {f : Addr} {fd : FuncData}
theorem num_nonneg {t b : Int} (ht : 0 <= t) (hb : 0 < b) : 0 <= (Rat.divInt t b).num := by
 rw [<- (Zca hb).1]
 exact Int.fdiv_nonneg ht (by omega)
def RoadV (H : Hp) (x : V) (r : Nat × Rat) : Prop := ∃ p y, x = .ref p /\ H p = some (.tup [.int r.1, y]) /\ RatV H y r.2
def RoadsV (H : Hp) (xs : List V) (rs : List (Nat × Rat)) : Prop := xs.length = rs.length /\ ∀ (i : Nat) x r, xs[i]? = some x -> rs[i]? = some r -> RoadV H x r
def Zbj (rs : List (Nat × Rat)) : Prop := ∃ rank : Nat -> Nat, rank 0 = 0 /\ (∀ v, rank v <= rs.length) /\ ∀ (k : Nat) r, rs[k]? = some r -> r.1 <= rs.length /\ rank r.1 < rank (k + 1)
def ZdK (K : PySem.W.Frag) : Sp := fun vs H Q _ => ∃ (a : Addr) (ns : List Int) (m : Int), vs = [.ref a, .int m] /\ SqL K H a (ns.map V.int) /\ 0 <= m /\ m < 20 /\ ∀ p H' xs rs, H p = none -> Same H H' -> H' p = some (.lst xs) -> RoadsV H' xs rs -> Zbj rs -> rs.length <= 20 -> (∀ r ∈ rs, SzQ 110 r.2 /\ 0 <= r.2.num) -> Q (.ref p) H'
def J2 (lo : Int) (n : Nat) : List Int := (List.range n).map fun k : Nat => lo + (k : Int)
theorem ZdN {lo : Int} {n : Nat} : (J2 lo n).length = n := by simp [J2]
theorem Zjh {lo hi : Int} : Zll lo hi = (J2 lo (hi - lo).toNat).map V.int := by simp [Zll, J2]
theorem ZfA {lo : Int} {n : Nat} {x : Int} (h : x ∈ J2 lo n) : lo <= x /\ x < lo + n := by
 obtain ⟨k, hk, e⟩ := Yl.mp h
 have := Vj.mp hk
 omega
theorem Zc8 {lo : Int} {n : Nat} : (J2 lo n).Nodup := by
 refine List.Pairwise.map _ (fun a b h => ?_) List.nodup_range
 intro e
 exact h (by omega)
theorem ZdX {n i : Nat} (h : i < n) : ixN n (i : Int) = some i := by
 unfold ixN
 simp
 omega
def Pr (H0 : Hp) (a p pn : Addr) (m c n : Int) (b : Bool) (zs : List V) (i : Nat) (σ : St) (H : Hp) : Prop := ∃ (o1 o2 o3 : Option V) (ts : List Int), σ = [some (.ref a), some (.int m), some (.int c), some (.int n), some (.bl b), some (.ref p), o1, o2, o3, none, none, none] /\
 Same H0 H /\ H p = some (.lst (ts.map V.int)) /\ H pn = some (.lst zs) /\ ts.Perm (J2 1 n.toNat)
theorem Pr.at {H0 : Hp} {a p pn : Addr} {m c n : Int} {b : Bool} {zs : List V} {i : Nat} {σ : St} {H : Hp} (h : Pr H0 a p pn m c n b zs i σ H) : SqL K H pn zs := let ⟨_, _, _, _, _, _, _, e, _⟩ := h; .of e
def Zqg (H : Hp) (ts : List Int) (ys : List V) (j : Nat) : Prop := ∃ (k : Nat) (x : V) (r : Nat × Rat), ts[j]? = some ((k : Int) + 1) /\ ys[k]? = some x /\ RoadV H x r /\ SzQ 110 r.2 /\ 0 <= r.2.num /\ (r.1 = 0 \/ ∃ j', j' < j /\ ts[j']? = some (r.1 : Int))
def Pq (H0 : Hp) (a p acc pp pn : Addr) (m c n : Int) (b : Bool) (ts ps : List Int) (zs : List V) (i : Nat) (σ : St) (H : Hp) : Prop := ∃ (o1 o2 o3 o4 : Option V) (ys : List V), σ = [some (.ref a), some (.int m), some (.int c), some (.int n), some (.bl b), some (.ref p), o1, o2, o3, some (.ref acc), some (.ref pp), o4] /\
 Same H0 H /\ H p = some (.lst (ts.map V.int)) /\ H pp = some (.lst (ps.map V.int)) /\ H pn = some (.lst zs) /\ H acc = some (.lst ys) /\ (ys.length : Int) = n /\ ∀ j, j < i -> Zqg H ts ys j
theorem Pq.at {H0 : Hp} {a p acc pp pn : Addr} {m c n : Int} {b : Bool} {ts ps : List Int} {zs : List V} {i : Nat} {σ : St} {H : Hp} (h : Pq H0 a p acc pp pn m c n b ts ps zs i σ H) : SqL K H pn zs := let ⟨_, _, _, _, _, _, _, _, _, e, _⟩ := h; .of e
theorem RoadV.same {H H' : Hp} {x : V} {r : Nat × Rat} (h : RoadV H x r) (s : Same H H') : RoadV H' x r := let ⟨p, y, e, h1, h2⟩ := h; ⟨p, y, e, s _ _ h1, h2.same s⟩
theorem RoadV.upd {H : Hp} {x : V} {r : Nat × Rat} {l : Addr} {ys : List V} {o : HO} (h : RoadV H x r) (hl : H l = some (.lst ys)) : RoadV (upd H l o) x r := by
 obtain ⟨p, y, e, h1, z, e2, h3⟩ := h
 exact ⟨p, y, e, by rw [Zf (ZZ h1 hl (by intro z; cases z))]; exact h1, z, e2, by rw [Zf (ZZ h3 hl (by intro z; cases z))]; exact h3⟩
theorem Zfb {α : Type} [Inhabited α] {n : Nat} {P : Nat -> α -> Prop} (h : ∀ k, k < n -> ∃ r, P k r) : ∃ rs : List α, rs.length = n /\ ∀ (k : Nat) r, rs[k]? = some r -> P k r := by
 induction n with
 | zero => exact ⟨[], rfl, fun k r e => by simp at e⟩
 | succ n ih =>
  obtain ⟨rs, hl, hr⟩ := ih fun k hk => h k (by omega)
  obtain ⟨r0, h0⟩ := h n (by omega)
  refine ⟨rs ++ [r0], by simp [hl], fun k r e => ?_⟩
  by_cases hk : k < rs.length
  ·rw [Y8 hk] at e; exact hr k r e
  ·rw [YZ (by omega)] at e
   have hk2 : k = n := by
    have := (Yg.mp e).1
    simp at this; omega
   subst hk2
   simp [hl] at e
   rw [<- e]; exact h0
open Classical in
noncomputable def rankOf (ts : List Int) (v : Nat) : Nat := if h : ∃ j : Nat, ts[j]? = some (v : Int) then h.choose + 1 else 0
theorem ZeD {ts : List Int} (hnd : ts.Nodup) {j v : Nat} (h : ts[j]? = some (v : Int)) : rankOf ts v = j + 1 := by
 have hh : ∃ j : Nat, ts[j]? = some (v : Int) := ⟨j, h⟩
 unfold rankOf
 rw [dif_pos hh]
 have e := hh.choose_spec
 have := (List.getElem?_inj (Yg.mp e).1 hnd).mp (e.trans h.symm)
 omega
theorem ZmB {ts : List Int} {v : Nat} : rankOf ts v <= ts.length := by
 unfold rankOf
 split
 ·rename_i hh
  exact (Yg.mp hh.choose_spec).1
 ·exact YB _
theorem ZkO {lo : Int} {n : Nat} {k : Nat} (h : k < n) : lo + (k : Int) ∈ J2 lo n := Yl.mpr ⟨k, Vj.mpr h, rfl⟩
theorem ZkL {H : Hp} {ts : List Int} {ys : List V} {n : Nat} (hpm : ts.Perm (J2 1 n)) (hy : ys.length = n) (h : ∀ j, j < n -> Zqg H ts ys j) : ∃ rs : List (Nat × Rat), RoadsV H ys rs /\ Zbj rs /\ rs.length = n /\ ∀ r ∈ rs, SzQ 110 r.2 /\ 0 <= r.2.num := by
 have hl : ts.length = n := by rw [hpm.length_eq, ZdN]
 have hnd : ts.Nodup := hpm.nodup_iff.mpr Zc8
 have hbd : ∀ x ∈ ts, 1 <= x /\ x <= n := fun x hx => by have := ZfA (hpm.mem_iff.mp hx); omega
 obtain ⟨rs, hrl, hr⟩ := Zfb (α := Nat × Rat) (n := n) (P := fun k r => ∃ x, ys[k]? = some x /\ RoadV H x r /\ SzQ 110 r.2 /\ 0 <= r.2.num /\ ∃ j, ts[j]? = some (((k + 1 : Nat)) : Int) /\ (r.1 = 0 \/ ∃ j', j' < j /\ ts[j']? = some (r.1 : Int))) fun k hk => by
  have hm : (1 : Int) + (k : Int) ∈ ts := hpm.mem_iff.mpr (ZkO hk)
  obtain ⟨j, hj⟩ := Vu hm
  obtain ⟨k', x, r, g1, g2, g3, g4, g5, g6⟩ := h j (by rw [<- hl]; exact (Yg.mp hj).1)
  have hkk : k' = k := by rw [hj] at g1; have := YO g1; omega
  subst hkk
  exact ⟨r, x, g2, g3, g4, g5, j, by rw [g1]; simp, g6⟩
 have rz : rankOf ts 0 = 0 := by
  unfold rankOf
  rw [dif_neg fun ⟨j, hj⟩ => by have := hbd _ (List.mem_of_getElem? hj); simp at this]
 refine ⟨rs, ⟨by omega, fun i x r h1 h2 => ?_⟩, ⟨rankOf ts, rz, fun v => by rw [hrl, <- hl]; exact ZmB, fun k r h1 => ?_⟩, hrl, fun r hm => ?_⟩
 ·obtain ⟨x', g, g2, _⟩ := hr i r h2
  rw [h1] at g
  cases g
  exact g2
 ·obtain ⟨x', _, _, _, _, j, hj, hc⟩ := hr k r h1
  rcases hc with z | ⟨j', hlt, hj'⟩
  ·exact ⟨by omega, by rw [z, rz, ZeD hnd hj]; omega⟩
  ·have := hbd _ (Yo hj')
   exact ⟨by omega, by rw [ZeD hnd hj', ZeD hnd hj]; omega⟩
 ·obtain ⟨k, hk⟩ := Vu hm
  obtain ⟨_, _, _, g4, g5, _⟩ := hr k r hk
  exact ⟨g4, g5⟩
theorem cxK {CX : CXT} {N : List Str} {qual : Str} {scope : Scope} {cd : Value} {A : Around} {outer : List Env} {s : Shared} {H : Hp} {E : XK} : (J0 CX P w K mg base N qual scope f cd A outer s H E).K = K := rfl
inductive WayR (rs : List (Nat × Rat)) : Nat -> List Nat -> Prop where
 | nil : WayR rs 0 []
 | cons {k : Nat} {r : Nat × Rat} {w : List Nat} (h : rs[k]? = some r) (hw : WayR rs r.1 w) : WayR rs (k + 1) ((k + 1) :: w)
theorem WayR.uniq {rs : List (Nat × Rat)} {k : Nat} {w : List Nat} (h : WayR rs k w) : ∀ {w' : List Nat}, WayR rs k w' -> w' = w := by
 induction h with
 | nil => intro w' h'; cases h'; rfl
 | cons h _ ih =>
  intro w' h'
  cases h' with
  | cons h2 hw2 =>
   rw [h] at h2
   cases h2
   rw [ih hw2]
theorem ZaT {rs : List (Nat × Rat)} (T : Zbj rs) {k : Nat} (hk : k <= rs.length) : ∃ w, WayR rs k w /\ w.length <= rs.length := by
 obtain ⟨rank, r0, hb, hr⟩ := T
 have key : ∀ m k, k <= rs.length -> rank k <= m -> ∃ w, WayR rs k w /\ w.length <= rank k := by
  intro m
  induction m with
  | zero =>
   intro k hk hm
   cases k with
   | zero => exact ⟨[], .nil, YB _⟩
   | succ j =>
    have h2 := (hr j _ (Yc (l := rs) (i := j) (by omega))).2
    omega
  | succ m ih =>
   intro k hk hm
   cases k with
   | zero => exact ⟨[], .nil, YB _⟩
   | succ j =>
    have e := Yc (l := rs) (i := j) (by omega)
    obtain ⟨h1, h2⟩ := hr j _ e
    obtain ⟨w, hw, hl⟩ := ih rs[j].1 h1 (by omega)
    exact ⟨(j + 1) :: w, .cons e hw, by simp; omega⟩
 obtain ⟨w, hw, hl⟩ := key _ k hk (Yd _)
 exact ⟨w, hw, Yj hl (hb k)⟩
theorem WayR.mem {rs : List (Nat × Rat)} {k : Nat} {w : List Nat} (h : WayR rs k w) : ∀ x ∈ w, 1 <= x /\ x <= rs.length := by
 induction h with
 | nil => intro x hx; cases hx
 | cons h _ ih =>
  intro x hx
  rcases Yn.mp hx with z | z
  ·have := (Yg.mp h).1
   omega
  ·exact ih x z
open Classical in
noncomputable def wayM (rs : List (Nat × Rat)) (k : Nat) : Nat := if h : ∃ w, WayR rs k w then h.choose.length else 0
theorem Zds {rs : List (Nat × Rat)} {k : Nat} {w : List Nat} (h : WayR rs k w) : wayM rs k = w.length := by
 have hh : ∃ w, WayR rs k w := ⟨w, h⟩
 unfold wayM
 rw [dif_pos hh, h.uniq hh.choose_spec]
def ZF (w : List Nat) : List V := w.map fun k : Nat => V.int (k : Int)
theorem WayR.zero {rs : List (Nat × Rat)} {w : List Nat} (h : WayR rs 0 w) : w = [] := by cases h; rfl
end
def Zdl : Sp := fun vs H Q _ => ∃ c k : Int, vs = [.int c, .int k] /\ 0 <= k /\ k < 1000 /\ ∀ v : Int, Q (.int v) H
def Zam : Sp := fun vs H Q _ => ∃ c n m : Int, vs = [.int c, .int n, .int m] /\ 0 <= n /\ n < 1000 /\ 0 < m /\ m.natAbs < 2 ^ 300 /\ ∀ p H' (xs : List Int), H p = none -> Same H H' -> H' p = some (.lst (xs.map V.int)) -> (xs.length : Int) = n -> (∀ x ∈ xs, 0 <= x /\ x < m) -> Q (.ref p) H'
def Pn (H0 : Hp) (p : Addr) (c n m : Int) (i : Nat) (σ : St) (H : Hp) : Prop := ∃ (r : Int) (o : Option V) (xs : List Int), σ = [some (.int c), some (.int n), some (.int m), some (.ref p), some (.int r), o] /\ Same H0 H /\ H p = some (.lst (xs.map V.int)) /\ xs.length = i /\ ∀ x ∈ xs, 0 <= x /\ x < m
section
variable {P : Program} {w : World} {K : PySem.W.Frag} {mg : Str -> Option Value} {base : Heap} {f : Addr} {fd : FuncData}
theorem Zkp (F : Fun K "_law_mixed" "_law_mixed" Za9 f fd) : FnOk P w K mg base Zw 1 f fd ["_law_cell", "_law_k"] Zdl := by
 refine JL F Zd2 (fun vs H Q E h => ?_) (fun cdv A outer s H vs Q E hr h => ?_)
 ·obtain ⟨c, k, rfl, _⟩ := h; rfl
 obtain ⟨c, k, rfl, h1, h2, q⟩ := h
 refine ⟨_, (Zg (Zs (Jf (Zl3 (Jf (ZT (Ze 0) (ZgU Zc Zc)) (Jc (Ze 1) (Ze 1))) Zc) (Zl3 (Jf (Ze 1) Zc) Zc)))), ?_⟩
 rw [show Zu ["_law_cell", "_law_k"] [.int c, .int k] = [some (.int c), some (.int k)] from rfl]
 walk_at "rd"
 exact ⟨JJ (a := 10) (b := 10) (by omega) (by omega) (by decide), q _⟩
theorem Zf8 (F : Fun K "_law_numbers" "_law_numbers" ZaS f fd) (n_range : mg "range" = none) (F_law_mixed : Fn P w K mg base Zw 1 "_law_mixed" ["_law_cell", "_law_k"] Zdl) : FnOk P w K mg base Zw 2 f fd ["_law_cell", "_law_many", "_law_most"] Zam := by
 refine JL F sc_law_numbers (fun vs H Q E h => ?_) (fun cdv A outer s H vs Q E hr h => ?_)
 ·obtain ⟨c, n, m, rfl, _⟩ := h; rfl
 obtain ⟨c, n, m, rfl, h1, h2, h3, h4, q⟩ := h
 refine ⟨_, (Zd (Zo 3 sc_law_numbers.nd (JQ Za))
   (Zd (Zo 4 sc_law_numbers.nd (Ze 0))
   (Zd (ZY Ys (Zch rfl n_range (Zh (Ze 1) Za)) (Zp 5 sc_law_numbers.nd) (Zg (Z4 (Zne (Ze 0) (ZgU Zc Zc)) (Zg (Z6 (Zdq (Ze 3) (Zh (ZT (JC (Zy F_law_mixed hr (by decide) rfl (Zh (Ze 0) (Zh (Ze 5) Za))) Zc) (Ze 2)) Za)))) (Zd (Z6 (Zdq (Ze 3) (Zh (ZT (Ze 4) (Ze 2)) Za)))
   (Zg (Zo 4 sc_law_numbers.nd (ZeI (Ze 4) (Ze 2))))))))
   (Zg (Zs (Ze 3)))))), ?_⟩
 rw [show Zu ["_law_cell", "_law_many", "_law_most", "_law_made", "_law_rest", "_law_k"] [.int c, .int n, .int m] = [some (.int c), some (.int n), some (.int m), none, none, none] from rfl]
 walk_at "rd"
 intro p H1 hp s1 e1
 simp only [Zbp]
 walk_at "rd"
 refine ⟨by omega, by omega, ?_⟩
 refine ZcH (Pn H p c n m) ⟨_, _, [], rfl, s1, e1, rfl, fun x hx => by cases hx⟩ (fun i σ H2 hi hP => ?_) (fun σ H2 hP => ?_)
 ·obtain ⟨r, o, xs, rfl, s2, e2, hl, hx⟩ := hP
  walk_at "rd"
  simp only [Zdl]
  walk_at "rd"
  have step : ∀ r' v : Int, 0 <= v -> v < m -> Pn H p c n m (i + 1) [some (V.int c), some (V.int n), some (V.int m), some (V.ref p), some (V.int r'), some (V.int (i : Int))] (upd H2 p (.lst (xs.map V.int ++ [.int v]))) := fun r' v a b =>
   ⟨r', _, xs ++ [v], rfl, Zr hp s2, by rw [upd_same, List.map_append]; rfl, by simp [hl], fun x hm => by
    rcases Yx.mp hm with z | z
    ·exact hx x z
    ·have z : x = v := by simpa using z
     rw [z]; exact ⟨a, b⟩⟩
  have hlen : (xs.map V.int).length < 1000000 := by rw [Yi]; omega
  refine JR (fun _ => ?_) (fun _ => ?_)
  ·exact ⟨⟨_, e2⟩, by omega, by omega, fun v => ⟨h3, _, e2, hlen, step _ _ (Y6 _ (by omega)) (Vh _ h3)⟩⟩
  ·exact ⟨⟨_, e2⟩, h3, _, e2, hlen, h3, ZaI (ZL h4 (by omega)) (by omega), step _ _ (Y6 _ (by omega)) (Vh _ h3)⟩
 ·obtain ⟨r, o, xs, rfl, s2, e2, hl, hx⟩ := hP
  walk_at "rd"
  exact q p H2 xs hp s2 e2 (by omega) hx
def Pl (a b : Int) (H : Hp) (σ : St) (H' : Hp) : Prop := ∃ l m : Int, σ = [some (.int a), some (.int b), some (.int l), some (.int m)] /\ H' = H /\ 0 <= l /\ 0 <= m /\ Int.gcd l m = Int.gcd a b
theorem Znb (F : Fun K "_law_low" "_law_low" Zcw f fd) (n_abs : mg "abs" = none) : FnOk P w K mg base Zw 1 f fd ["_law_top", "_law_bottom"] Zbc := by
 refine JL F sc_law_low (fun vs H Q E h => ?_) (fun cdv A outer s H vs Q E hr h => ?_)
 ·obtain ⟨a, b, rfl, _⟩ := h; rfl
 obtain ⟨a, b, rfl, hz, hb, q⟩ := h
 refine ⟨_, (Zd (Zo 2 sc_law_low.nd (ZmI rfl n_abs (Zh (Ze 0) Za)))
   (Zd (Zo 3 sc_law_low.nd (Ze 1))
   (Zd (ZdA Ys (ZpK (Ze 3) Zc) (Zg (ZpQ 2 3 sc_law_low.nd (Zh (Ze 3) (Zh (ZT (Ze 2) (Ze 3)) Za)))))
   (Zg (Zs (Jo (Zh (Zbz (Ze 0) (Ze 2)) (Zh (Zbz (Ze 1) (Ze 2)) Za)))))))), ?_⟩
 rw [show Zu ["_law_top", "_law_bottom", "_law_one", "_law_other"] [.int a, .int b] = [some (.int a), some (.int b), none, none] from rfl]
 walk_at "rd"
 simp only [Zi3]
 refine Zdv (Pl a b H) (fun σ _ => (ZjH σ 3).toNat) ⟨_, _, rfl, rfl, by omega, by omega, by rw [<- ZhQ a b, Int.natAbs_of_nonneg (Int.le_of_lt hb)]⟩ ?_
 rintro σ H' ⟨l, m, rfl, rfl, hl, hm, hg⟩
 walk_at "rd"
 refine JR (fun c => ?_) (fun c => ?_)
 ·refine ⟨_, fun σ' H' z => z, c, _, Zcj c, rfl, m, l % m, rfl, rfl, hm, Y6 _ (by omega), ?_⟩
  rw [ZfD]; exact hg
 ·have e : m = 0 := by omega
  subst e
  have e2 : l = (Int.gcd a b : Int) := by rw [<- hg]; simp; omega
  subst e2
  have h1 := Yab a (Int.ne_of_gt hb)
  have h3 : (Int.gcd a b : Int).natAbs.log2 < 9000 := ZaI (ZL (Yy (Zc1 (Int.ne_of_gt hb)) hz) (by omega)) (by omega)
  refine ⟨by omega, h3, by omega, h3, fun p H' _ hs e => q _ H' hs ⟨p, rfl, ?_⟩⟩
  rw [(Zca hb).1, (Zca (t := a) hb).2] at e
  exact e
def ZdP : Sp := fun vs H Q _ => ∃ (c : Int) (b : Bool), vs = [.int c, .bl b] /\ ∀ r H' q, Same H H' -> SzQ 110 q -> 0 <= q.num -> RatV H' r q -> Q r H'
theorem Zj4 (F : Fun K "_law_price_by" "_law_price_by" ZaG f fd) (F_law_low : Fn P w K mg base Zw 1 "_law_low" ["_law_top", "_law_bottom"] Zbc) : FnOk P w K mg base Zw 2 f fd ["_law_number", "_law_wide"] ZdP := by
 refine JL F Zcp (fun vs H Q E h => ?_) (fun cdv A outer s H vs Q E hr h => ?_)
 ·obtain ⟨c, b, rfl, _⟩ := h; rfl
 obtain ⟨c, b, rfl, q⟩ := h
 refine ⟨_, (Zd (Z4 (ZU (Ze 1)) (Zg (Zs (Zy F_law_low hr (by decide) rfl (Zh (ZT (Ze 0) (ZgU Zc Zc)) (Zh (Jf Zc (ZT (ZeI (Ze 0) (ZgU Zc Zc)) (JK (ZgU Zc Zc) Zc))) Za))))) ZN)
   (Zg (Zs (Zy F_law_low hr (by decide) rfl (Zh (ZT (Ze 0) Zc) (Zh (Jf Zc (ZT (JC (Ze 0) Zc) Zc)) Za)))))), ?_⟩
 rw [show Zu ["_law_number", "_law_wide"] [.int c, .bl b] = [some (.int c), some (.bl b)] from rfl]
 walk_at "rd"
 simp only [Zbc]
 walk_at "rd"
 have fin : ∀ t d : Int, 0 <= t -> t.natAbs < 2 ^ 110 -> 0 < d -> d.natAbs < 2 ^ 110 -> Big d /\ 0 < d /\ ∀ (r : V) (H' : Hp), Same H H' -> RatV H' r (Rat.divInt t d) -> Q r H' := fun t d h1 h2 h3 h4 =>
  ⟨Big.of h4 (by decide), h3, fun r H' s v => q r H' _ s (SzQ.of (by omega) h2 h4) (num_nonneg h1 h3) v⟩
 refine JR (fun _ => ?_) (fun _ => ?_)
 ·exact ⟨by decide, fin _ _ (by omega) (by omega) (by omega) (by omega)⟩
 ·exact fin _ _ (by omega) (by omega) (by omega) (by omega)
end
section
variable {P : Program} {w : World} {K : PySem.W.Frag} {mg : Str -> Option Value} {base : Heap} {f : Addr} {fd : FuncData}
theorem Zka (F : Fun K "_law_roads_by" "_law_roads_by" Zah f fd) (n_list : mg "list" = none) (n_range : mg "range" = none) (n_enumerate : mg "enumerate" = none) (n_int : mg "int" = none) (n_min : mg "min" = none)
  (F_law_cell_at : Fn P w K mg base Zw 1 "_law_cell_at" ["_law_script", "_law_k"] (ZaQ K)) (F_law_numbers : Fn P w K mg base Zw 2 "_law_numbers" ["_law_cell", "_law_many", "_law_most"] Zam) (F_law_price_by : Fn P w K mg base Zw 2 "_law_price_by" ["_law_number", "_law_wide"] ZdP) : FnOk P w K mg base Zw 3 f fd ["_law_script", "_law_most"] (ZdK K) := by
 refine JL F sc_law_roads_by (fun vs H Q E h => ?_) (fun cdv A outer s H vs Q E hr h => ?_)
 ·obtain ⟨a, ns, m, rfl, _⟩ := h; rfl
 obtain ⟨a, ns, m, rfl, hS, hm0, hm1, q⟩ := h
 obtain ⟨t2, ht2, hr2⟩ : ∃ t, QB (J0 Zw P w K mg base ["_law_script", "_law_most", "_law_head", "_law_many", "_law_wide", "_law_turned", "_law_k", "_law_number", "_law_other", "_law_roads", "_law_prices", "_law_to"] "_law_roads_by" (Zb Zah) f cdv A outer s H E).nox ((Zq Zah).drop 6) t /\ ∀ (c n : Int) (b : Bool) (p : Addr) (o1 o2 o3 : Option V) (ts : List Int) (H1 : Hp), 0 <= n -> n <= 20 -> H p = none -> Same H H1 -> H1 p = some (.lst (ts.map V.int)) -> ts.Perm (J2 1 n.toNat) ->
   t { nx := fun _ H' => Q .non H', rt := Q } [some (.ref a), some (.int m), some (.int c), some (.int n), some (.bl b), some (.ref p), o1, o2, o3, none, none, none] H1 := by
  refine ⟨_, (Zd (Zbi 9 (ZpD ["_law_k"]) (Zch rfl n_range (Zh (Ze 3) Za)) (by exact fun s H fp => (Zp 0 (show List.Nodup (["_law_k"] : List Str) from by decide +kernel))) (by exact fun s H fp => (Jo (Zh Zc (Zh (Jo (Zh Zc (Zh Zc Za))) Za)))) (Zp 9 sc_law_roads_by.nd))
   (Zd (Zo 10 sc_law_roads_by.nd (Zy F_law_numbers hr (by decide) rfl (Zh (Zy F_law_cell_at hr (by decide) rfl (Zh (Ze 0) (Zh Zc Za))) (Zh (Ze 3) (Zh (Ju (JQ (Zh Zc (Zh (ZgU Zc Zc) Za))) (Znt rfl n_int (Zh (Ze 4) Za))) Za)))))
   (Zd (ZY Ys (Zk0 rfl n_enumerate (Zh (Zy F_law_numbers hr (by decide) rfl (Zh (Zy F_law_cell_at hr (by decide) rfl (Zh (Ze 0) (Zh Zc Za))) (Zh (Ze 3) (Zh Zc Za)))) Za)) (Zff (n := 2) (ZV (Zp 6 sc_law_roads_by.nd) (ZV (Zp 7 sc_law_roads_by.nd) Zcb))) (Zd (Zo 11 sc_law_roads_by.nd (Ju (ZpR (JQ (Zh Zc Za)) (Ze 5)) (JK (Ze 6) (ZT (Ze 7) (ZpZ rfl n_min (Zh (Jf (Ze 6) Zc) (Zh (Jf Zc (ZT (JC (Ze 7) Zc) Zc)) Za)))))))
   (Zg (ZkY (Jo (Zh (Ze 11) (Zh (Zy F_law_price_by hr (by decide) rfl (Zh (Ju (Ze 10) (Ze 6)) (Zh (Ze 4) Za))) Za))) (Zh2 (Ze 9) (JK (Ju (Ze 5) (Ze 6)) Zc))))))
   (Zg (Zs (Ze 9)))))), fun c n b p o1 o2 o3 ts H1 hn0 hn1 hp s1 e1 hpm => ?_⟩
  walk_at "rd"
  simp only [JP, Zgv, cxK]
  walk_at "rd"
  refine ⟨by omega, by omega, ?_⟩
  refine Zid (fun acc i ys H' => H acc = none /\ Same H H' /\ p ≠ acc /\ H' p = some (.lst (ts.map V.int)) /\ H' acc = some (.lst ys) /\ ys.length = i /\ i <= 20) (fun acc H2 hn sm e => ⟨s1.free hn, s1.trans sm, fun z => ?_, sm _ _ e1, e, rfl, by omega⟩)
   (fun acc i ys H2 h => ⟨h.2.2.2.2.1, by omega⟩) (fun acc i ys H2 os hn hi h ol => ?_) (fun acc ys H2 hn h => ?_)
  ·rw [<- z, e1] at hn; cases hn
  ·obtain ⟨h0, sm, hne, hp2, ha, hy, _⟩ := h
   obtain ⟨o, rfl⟩ : ∃ o, os = [o] := List.length_eq_one_iff.mp ol
   walk_at "rd"
   exact ⟨[_], rfl, rfl, fun p1 H3 _ s3 _ p2 H4 _ s4 _ => ⟨s4 _ _ (s3 _ _ ha), h0, Zr h0 (sm.trans (s3.trans s4)), hne, by rw [Zf hne]; exact s4 _ _ (s3 _ _ hp2), upd_same, by simp [hy], by omega⟩⟩
  ·obtain ⟨h0, sm, hne, hp2, ha, hy, _⟩ := h
   simp only [ZaQ, Zam, Zef]
   walk_at "rd"
   obtain ⟨mo, hmo, hat⟩ : ∃ mo : Int, (mo = 78 \/ mo = 1000000000000000000000000000000000000000000000000000000000000) /\ atI [V.int 78, V.int 1000000000000000000000000000000000000000000000000000000000000] (if b = true then 1 else 0) = some (.int mo) := by
    cases b
    ·exact ⟨_, .inl rfl, rfl⟩
    ·exact ⟨_, .inr rfl, rfl⟩
   refine ⟨⟨3, rfl⟩, ⟨ns, sm.seq hS⟩, fun pm H3 _ s3 e3 => ⟨_, e3, _, hat, mo, rfl, hn0, by omega, by omega, ZL (a := 200) (by omega) (by decide), fun pp H4 ps hpp s4 e4 hl4 _ => ?_⟩⟩
   simp only [ZaQ, Zam]
   walk_at "rd"
   refine ⟨⟨2, rfl⟩, ⟨ns, (sm.trans (s3.trans s4)).seq hS⟩, hn0, by omega, ZL (a := 20) (by decide) (by decide), fun pn H5 xs hpn s5 e5 hl5 hx5 => ?_⟩
   have ha4 := s4 _ _ (s3 _ _ ha)
   have hpa : pp ≠ acc := fun z => by rw [z, s3 _ _ ha] at hpp; cases hpp
   have hna : pn ≠ acc := fun z => by rw [z, ha4] at hpn; cases hpn
   have hl : (ts.length : Int) = n := by rw [hpm.length_eq, ZdN]; omega
   have hbd : ∀ x ∈ ts, 1 <= x /\ x <= n := fun x hx => by have := ZfA (hpm.mem_iff.mp hx); omega
   have hnd : ts.Nodup := hpm.nodup_iff.mpr Zc8
   refine ZfB (xs := xs.map V.int) (Pq H a p acc pp pn m c n b ts ps (xs.map V.int)) ⟨_, _, _, _, ys, rfl, sm.trans (s3.trans (s4.trans s5)), s5 _ _ (s4 _ _ (s3 _ _ hp2)), s5 _ _ e4, e5, s5 _ _ ha4, by omega, fun j hj => absurd hj (V1 j)⟩ (fun i σ H' _ h => h.at) (fun i x σ H6 pb H7 hx hP hb s7 e7 => ?_) (fun σ H6 hP => ?_)
   ·obtain ⟨o1, o2, o3, o4, ys, rfl, sm6, et, ep, en, ea, hyl, hdone⟩ := hP
    have hi : i < xs.length := by have := (List.getElem?_eq_some_iff.mp hx).1; simpa using this
    have hxi : x = .int xs[i] := by rw [Yh, Yc hi] at hx; exact (YO hx).symm
    subst hxi
    walk_at "rd"
    simp only [e7, ZdP]
    walk_at "rd"
    have hv := hx5 xs[i] (YI hi)
    have hlt : i < ts.length := by omega
    have hM1 : 0 < (if 1 + xs[i] / 41 % 41 < (i : Int) + 1 then 1 + xs[i] / 41 % 41 else (i : Int) + 1) /\ (if 1 + xs[i] / 41 % 41 < (i : Int) + 1 then 1 + xs[i] / 41 % 41 else (i : Int) + 1) <= (i : Int) + 1 := by split <;> omega
    generalize (if 1 + xs[i] / 41 % 41 < (i : Int) + 1 then 1 + xs[i] / 41 % 41 else (i : Int) + 1) = M at hM1 ⊢
    have hq0 := Y6 xs[i] (b := M) (by omega)
    have hq1 := Vh xs[i] (b := M) hM1.1
    obtain ⟨e, he⟩ : ∃ e : Nat, (i : Int) - xs[i] % M = (e : Int) := ⟨((i : Int) - xs[i] % M).toNat, by omega⟩
    simp only [he]
    obtain ⟨to, hat2, hto⟩ : ∃ to : Nat, atI ([V.int 0] ++ ts.map V.int) (e : Int) = some (.int (to : Int)) /\ (to = 0 \/ ∃ j', j' < i /\ ts[j']? = some (to : Int)) := by
     cases e with
     | zero => exact ⟨0, ZE (by simp), .inl rfl⟩
     | succ e =>
      have he' : e < ts.length := by omega
      have hb1 := hbd ts[e] (YI he')
      have h3 : ((ts[e].toNat : Nat) : Int) = ts[e] := Int.toNat_of_nonneg (by omega)
      exact ⟨ts[e].toNat, ZE (by rw [h3]; simp [he']), .inr ⟨e, by omega, by rw [h3, List.getElem?_eq_getElem he']⟩⟩
    have hbi := hbd ts[i] (YI hlt)
    obtain ⟨k, hk⟩ : ∃ k : Nat, ts[i] = (k : Int) + 1 := ⟨(ts[i] - 1).toNat, by omega⟩
    have hip : i < ps.length := by omega
    refine fun p8 H8 h8 s8 e8 => ⟨_, e8, _, s8 _ _ (s7 _ _ et), Zet (by simp; omega), fun p9 hp9 => ⟨hM1.1, _, upd_same, _, hat2, _, ZC hp9 _ _ _ (s8 _ _ (s7 _ _ ep)), .int ps[i], ZE (by simp [hip]), ⟨_, rfl⟩, fun r H10 qr s10 zq hqn vr p11 H11 h11 s11 e11 => ?_⟩⟩
    have S : Same H6 H11 := s7.trans (s8.trans ((ZC hp9 _).trans (s10.trans s11)))
    have ea11 := S _ _ ea
    refine ⟨_, S _ _ et, .int ts[i], ZE (by simp [hlt]), _, rfl, ys, ea11, k, ?_, ?_⟩
    ·rw [hk, Int.add_sub_cancel]; exact ZdX (by omega)
    ·refine ⟨_, _, _, _, ys.set k (.ref p11), rfl, Zr h0 (sm6.trans S), by rw [Zf hne]; exact S _ _ et, by rw [Zf hpa]; exact S _ _ ep, by rw [Zf hna]; exact S _ _ en, upd_same, by simpa using hyl, fun j hj => ?_⟩
     by_cases hji : j = i
     ·subst hji
      exact ⟨k, .ref p11, (to, qr), by rw [Yc hlt, hk], Yai (by omega), RoadV.upd ⟨p11, r, rfl, e11, vr.same s11⟩ ea11, zq, hqn, hto⟩
     ·obtain ⟨k', x, r', g1, g2, g3, g4, g5, g6⟩ := hdone j (by omega)
      have hkk : k ≠ k' := fun z => by
       have g7 : ts[j]? = ts[i]? := by rw [g1, Yc hlt, hk, z]
       have hjl : j < ts.length := (Yg.mp g1).1
       exact hji ((List.getElem?_inj hjl hnd).mp g7)
      exact ⟨k', x, r', g1, by rw [Yal hkk]; exact g2, (g3.same S).upd ea11, g4, g5, g6⟩
   ·obtain ⟨o1, o2, o3, o4, ys, rfl, sm6, et, ep, en, ea, hyl, hdone⟩ := hP
    walk_at "rd"
    obtain ⟨rs, hR, hT, hlen, hz⟩ := ZkL (n := n.toNat) hpm (by omega) fun j hj => hdone j (by rw [Yi]; omega)
    exact q acc H6 ys rs h0 sm6 ea hR hT (by omega) hz
 obtain ⟨t1, ht1, hr1⟩ : ∃ t, QB (J0 Zw P w K mg base ["_law_script", "_law_most", "_law_head", "_law_many", "_law_wide", "_law_turned", "_law_k", "_law_number", "_law_other", "_law_roads", "_law_prices", "_law_to"] "_law_roads_by" (Zb Zah) f cdv A outer s H E).nox ((Zq Zah).drop 4) t /\ ∀ (c n : Int) (b : Bool), 0 <= n -> n <= 20 ->
   t { nx := fun _ H' => Q .non H', rt := Q } [some (.ref a), some (.int m), some (.int c), some (.int n), some (.bl b), none, none, none, none, none, none, none] H := by
  refine ⟨_, (Zd (Zo 5 sc_law_roads_by.nd (Zc5 rfl n_list (Zh (Zn7 rfl n_range (Zh Zc (Zh (Jf (Ze 3) Zc) Za))) Za)))
   (Zd (ZY Ys (Zk0 rfl n_enumerate (Zh (Zy F_law_numbers hr (by decide) rfl (Zh (Zy F_law_cell_at hr (by decide) rfl (Zh (Ze 0) (Zh Zc Za))) (Zh (Ze 3) (Zh Zc Za)))) Za)) (Zff (n := 2) (ZV (Zp 6 sc_law_roads_by.nd) (ZV (Zp 7 sc_law_roads_by.nd) Zcb))) (Zd (Zo 8 sc_law_roads_by.nd (ZT (Ze 7) (Jf (Ze 6) Zc)))
   (Zg (ZkY (Jo (Zh (Ju (Ze 5) (Ze 8)) (Zh (Ju (Ze 5) (Ze 6)) Za))) (Zff (n := 2) (ZV (Zh2 (Ze 5) (Ze 6)) (ZV (Zh2 (Ze 5) (Ze 8)) Zcb)))))))
   ht2)), fun c n b hn0 hn1 => ?_⟩
  walk_at "rd"
  simp only [Zmj, ZeM, cxK, Zef]
  walk_at "rd"
  simp only [ZaQ, Zam]
  walk_at "rd"
  intro pr H1 hpr s1 e1
  refine ⟨_, .inr (.inr ⟨1, n + 1, e1, by decide, by decide, by omega, by omega, rfl, by omega⟩), fun p H2 hp s2 e2 => ?_⟩
  have hpH : H p = none := s1.free hp
  refine ⟨⟨1, rfl⟩, ⟨ns, (s1.trans s2).seq hS⟩, hn0, by omega, ZL (a := 6) (by decide) (by decide), fun pn H3 xs hpn s3 e3 hl3 hx3 => ?_⟩
  have hne : pn ≠ p := fun z => by rw [z, e2] at hpn; cases hpn
  refine ZfB (xs := xs.map V.int) (Pr H a p pn m c n b (xs.map V.int)) ⟨_, _, _, J2 1 n.toNat, rfl, s1.trans (s2.trans s3), ?_, e3, .refl _⟩ (fun i σ H' _ h => h.at) (fun i x σ H4 pb H5 hx hP hb s5 e5 => ?_) (fun σ H4 hP => ?_)
  ·rw [s3 _ _ e2, Zjh]
   congr 4
   omega
  ·obtain ⟨o1, o2, o3, ts, rfl, sm, e, ep, hpm⟩ := hP
   have hl : (ts.length : Int) = n := by rw [hpm.length_eq, ZdN]; omega
   have hi : i < xs.length := by have := (List.getElem?_eq_some_iff.mp hx).1; simpa using this
   have hxi : x = .int xs[i] := by rw [Yh, Yc hi] at hx; exact (YO hx).symm
   subst hxi
   walk_at "rd"
   simp only [e5]
   walk_at "rd"
   have hlt : i < ts.length := by omega
   have hq0 := Y6 xs[i] (b := (i : Int) + 1) (by omega)
   have hq1 := Vh xs[i] (b := (i : Int) + 1) (by omega)
   obtain ⟨j, hj⟩ : ∃ j : Nat, xs[i] % ((i : Int) + 1) = (j : Int) := ⟨_, (Int.toNat_of_nonneg hq0).symm⟩
   simp only [hj] at hq0 hq1 ⊢
   have hjl : j < ts.length := by omega
   have at5 := s5 _ _ e
   refine ⟨by omega, _, at5, .int ts[j], ZE (by simp [hjl]), _, at5, .int ts[i], ZE (by simp [hlt]), fun pt H6 hpt s6 e6 => ⟨_, e6, rfl, _, _, rfl, _, s6 _ _ at5, i, ZdX (by simp [hlt]), _, _, rfl, _, upd_same, j, ZdX (by simp [hjl]), rfl, ?_⟩⟩
   have pm := List.set_set_perm (as := ts) hlt hjl
   refine ⟨_, _, _, (ts.set i ts[j]).set j ts[i], rfl, Zr hpH (Zr hpH (sm.trans (s5.trans s6))), by rw [upd_same, List.map_set, List.map_set], by rw [Zf hne, Zf hne]; exact s6 _ _ (s5 _ _ ep), pm.trans hpm⟩
  ·obtain ⟨o1, o2, o3, ts, rfl, sm, e, _, hpm⟩ := hP
   exact hr2 c n b p o1 o2 o3 ts H4 hn0 hn1 hpH sm e hpm
 refine ⟨_, (Zd (Zo 2 sc_law_roads_by.nd (Zy F_law_cell_at hr (by decide) rfl (Zh (Ze 0) (Zh Zc Za))))
   (Zd (Zo 3 sc_law_roads_by.nd (ZT (Ze 2) (Jf (Ze 1) Zc)))
   (Zd (Zo 4 sc_law_roads_by.nd (Zqd (ZT (JC (Ze 2) Zc) Zc) Zc))
   (Zd (Z4 (ZU (Ze 4)) (Zg (Zo 3 sc_law_roads_by.nd (ZT (Ze 3) Zc))) (Zg (Z4 (ZnX (ZT (JC (Ze 2) Zc) Zc) Zc) (Zg (Zo 3 sc_law_roads_by.nd (ZT (JC (Ze 2) Zc) Zc))) ZN)))
   ht1)))), ?_⟩
 rw [show Zu ["_law_script", "_law_most", "_law_head", "_law_many", "_law_wide", "_law_turned", "_law_k", "_law_number", "_law_other", "_law_roads", "_law_prices", "_law_to"] [.ref a, .int m] = [some (.ref a), some (.int m), none, none, none, none, none, none, none, none, none, none] from rfl]
 walk_at "rd"
 simp only [ZaQ]
 walk_at "rd"
 refine ⟨ns, 0, rfl, hS, by omega, ?_⟩
 have h9 := Y6 (cellOf ns 0) (b := m + 1) (by omega)
 have h8 := Vh (cellOf ns 0) (b := m + 1) (by omega)
 refine JR (fun c => ?_) (fun c => ?_)
 ·exact hr1 _ _ _ (by omega) (by omega)
 ·refine JR (fun c2 => ?_) (fun c2 => ?_)
  ·exact hr1 _ _ _ (by omega) (by omega)
  ·exact hr1 _ _ _ (by omega) (by omega)
end
section
variable {P : Program} {w : World} {K : PySem.W.Frag} {mg : Str -> Option Value} {base : Heap} {f : Addr} {fd : FuncData}
def ZiE : Sp := fun vs H Q _ => ∃ (a : Addr) (xs : List V) (rs : List (Nat × Rat)) (k : Nat) (w : List Nat), vs = [.ref a, .int k] /\ H a = some (.lst xs) /\ RoadsV H xs rs /\ WayR rs k w /\ w.length <= 1000 /\ ∀ p H', H p = none -> Same H H' -> H' p = some (.lst (ZF w)) -> Q (.ref p) H'
def Pw (H0 : Hp) (a p : Addr) (rs : List (Nat × Rat)) (w0 : List Nat) (σ : St) (H : Hp) : Prop := ∃ (k : Nat) (pre w : List Nat), σ = [some (.ref a), some (.int k), some (.ref p)] /\ Same H0 H /\ H p = some (.lst (ZF pre)) /\ WayR rs k w /\ w0 = pre ++ w
theorem Zov (F : Fun K "_law_way" "_law_way" Zci f fd) : FnOk P w K mg base Zw 1 f fd ["_law_roads", "_law_k"] ZiE := by
 refine JL F sc_law_way (fun vs H Q E h => ?_) (fun cdv A outer s H vs Q E hr h => ?_)
 ·obtain ⟨a, xs, rs, k, w, rfl, _⟩ := h; rfl
 obtain ⟨a, xs, rs, k, w0, rfl, ha, hR, hw0, hwl, q⟩ := h
 refine ⟨_, (Zd (Zo 2 sc_law_way.nd (JQ Za))
   (Zd (ZdA Ys (ZkN (Ze 1) Zc) (Zd (Z6 (Zdq (Ze 2) (Zh (Ze 1) Za)))
   (Zg (Zo 1 sc_law_way.nd (Zx (Ju (Ze 0) (JK (Ze 1) Zc)) Zc)))))
   (Zg (Zs (Ze 2))))), ?_⟩
 rw [show Zu ["_law_roads", "_law_k", "_law_way_here"] [.ref a, .int k] = [some (.ref a), some (.int k), none] from rfl]
 walk_at "rd"
 intro p H1 hp s1 e1
 refine Zdv (Pw H a p rs w0) (fun σ _ => wayM rs (ZjH σ 1).toNat) ⟨k, [], w0, rfl, s1, e1, hw0, rfl⟩ ?_
 rintro σ H2 ⟨k, pre, w, rfl, s2, e2, hw, hw1⟩
 walk_at "rd"
 have hap : a ≠ p := fun z => by rw [z, hp] at ha; cases ha
 refine JR (fun hc => ?_) (fun hc => ?_)
 ·cases hw with
  | nil => exact absurd rfl hc
  | @cons k r w h hw' =>
   have hkl : k < rs.length := (Yg.mp h).1
   have hkx : k < xs.length := by rw [hR.1]; exact hkl
   obtain ⟨pr, y, ex, hpr, hy⟩ := hR.2 k _ r (Yc hkx) h
   have hrp : pr ≠ p := fun z => by rw [z, hp] at hpr; cases hpr
   have hlen : (ZF pre).length < 1000000 := by
    have := congrArg List.length hw1
    simp [ZF] at this ⊢
    omega
   refine ⟨fun σ' H' => σ' = [some (.ref a), some (.int r.1), some (.ref p)] /\ Pw H a p rs w0 σ' H', fun σ' H' ⟨e, hP⟩ => ⟨_, ?_, rfl, hP⟩, ⟨_, e2⟩, _, e2, hlen, xs, by rw [Zf hap]; exact s2 _ _ ha, xs[k], ?_, pr, ex, _, by rw [Zf hrp]; exact s2 _ _ hpr, _, rfl, rfl, ?_⟩
   ·subst e
    show wayM rs ((r.1 : Nat) : Int).toNat < wayM rs (((k + 1 : Nat)) : Int).toNat
    rw [VM, VM, Zds hw', Zds (.cons h hw')]
    simp
   ·rw [show (((k + 1 : Nat)) : Int) - 1 = (k : Int) by omega]
    exact ZE (Yc hkx)
   ·exact ⟨r.1, pre ++ [k + 1], w, rfl, Zr hp s2, by rw [upd_same]; simp [ZF], hw', by simp [hw1]⟩
 ·have hk0 : k = 0 := by omega
  subst hk0
  have e := hw.zero
  subst e
  rw [Y5] at hw1
  subst hw1
  exact q p H2 hp s2 e2
end
def PrP (H : Hp) (x : V) : Prop := ∃ a t b, x = .ref a /\ H a = some (.tup [.int t, .int b]) /\ 1 <= b /\ Int.gcd t b = 1 /\ 0 <= t
def RdP (H : Hp) (x : V) (n : Int) : Prop := ∃ a t y, x = .ref a /\ H a = some (.tup [.int t, y]) /\ 0 <= t /\ t < n /\ PrP H y
def Zme : Sp := fun vs H Q _ => ∃ x, vs = [x] /\ PrP H x /\ Q (.bl true) H
def ZbA : Sp := fun vs H Q _ => ∃ x, vs = [x] /\ PrP H x /\ Q (.bl true) H
def Zb7 : Sp := fun vs H Q _ => ∃ x n, vs = [x, .int n] /\ RdP H x n /\ Q (.bl true) H
section
variable {P : Program} {w : World} {K : PySem.W.Frag} {mg : Str -> Option Value} {base : Heap} {f : Addr} {fd : FuncData}
theorem Zfa (F : Fun K "is_ratio" "is_ratio" ZbG f fd) (n_isinstance : mg "isinstance" = none) (n_tuple : mg "tuple" = none) (n_len : mg "len" = none)
  (F_is_whole : Fn P w K mg base Zw 1 "is_whole" ["thing"] Zaw) (F_greatest_divisor : Fn P w K mg base Zw 1 "greatest_divisor" ["one", "other"] Zcx) :
  FnOk P w K mg base Zw 2 f fd ["thing"] Zme := by
 refine JL F sc_is_ratio (fun vs H Q E h => ?_) (fun cdv A outer s H vs Q E hr h => ?_)
 ·obtain ⟨x, rfl, _⟩ := h; rfl
 obtain ⟨x, rfl, ⟨a, t, b, rfl, ha, h1, h2, h3⟩, q⟩ := h
 refine ⟨_, (Zd (Z4 (t_w (JO (Jq (ZU (Jl rfl n_isinstance (Zh (Ze 0) (Zh (JY rfl n_tuple rfl) Za))))) (JT (ZkN (Jp rfl n_len (Zh (Ze 0) Za)) Zc)))) (Zg (Zs JV)) ZN)
   (Zd (Zo 1 sc_is_ratio.nd (Zx (Ze 0) Zc))
   (Zd (Zo 2 sc_is_ratio.nd (Zx (Ze 0) Zc))
   (Zd (Z4 (t_w (JO (Jq (ZU (Zy F_is_whole hr (by decide) rfl (Zh (Ze 1) Za)))) (JT (Jq (ZU (Zy F_is_whole hr (by decide) rfl (Zh (Ze 2) Za))))))) (Zg (Zs JV)) ZN)
   (Zg (Zs (Zgo (Zp9 (Ze 2) Zc) (Zg0 (Zqd (Zy F_greatest_divisor hr (by decide) rfl (Zh (Ze 1) (Zh (Ze 2) Za))) Zc))))))))), ?_⟩
 rw [show Zu ["thing", "top", "bottom"] [.ref a] = [some (.ref a), none, none] from rfl]
 refine ZB fun B hB => ?_
 refine Jv fun A hA C hC => ?_
 walk_at "rd"
 simp only [Zfl ha, ha]
 walk_at "rd"
 rw [if_neg (by decide)]
 subst hC
 walk_at "rd"
 subst hB
 try dsimp only
 refine ZB fun B hB => ?_
 walk_at "rd"
 refine ⟨_, ha, _, rfl, ?_⟩
 subst hB
 try dsimp only
 refine ZB fun B hB => ?_
 walk_at "rd"
 refine ⟨_, ha, _, rfl, ?_⟩
 subst hB
 try dsimp only
 refine ZB fun B hB => ?_
 refine Jv fun A hA C hC => ?_
 walk_at "rd"
 simp only [Zaw]
 walk_at "rd"
 refine ⟨ZbB _, ?_⟩
 rw [if_neg (show ¬ isW (V.int t) = false from nofun)]
 refine ⟨ZbB _, ?_⟩
 rw [if_neg (show ¬ isW (V.int b) = false from nofun)]
 subst hC
 walk_at "rd"
 subst hB
 try dsimp only
 walk_at "rd"
 simp only [Zcx]
 walk_at "rd"
 rw [if_pos h1, h2]
 exact q
theorem Ze7 (F : Fun K "is_price" "is_price" ZbD f fd) (F_is_ratio : Fn P w K mg base Zw 2 "is_ratio" ["thing"] Zme) : FnOk P w K mg base Zw 3 f fd ["thing"] ZbA := by
 refine JL F ZeC (fun vs H Q E h => ?_) (fun cdv A outer s H vs Q E hr h => ?_)
 ·obtain ⟨x, rfl, _⟩ := h; rfl
 obtain ⟨x, rfl, ⟨a, t, b, rfl, ha, h1, h2, h3⟩, q⟩ := h
 refine ⟨_, (Zg (Zs (Zgo (Zy F_is_ratio hr (by decide) rfl (Zh (Ze 0) Za)) (Zg0 (Zp9 (Zx (Ze 0) Zc) Zc))))), ?_⟩
 rw [show Zu ["thing"] [.ref a] = [some (.ref a)] from rfl]
 walk_at "rd"
 simp only [Zme, ha]
 walk_at "rd"
 rw [YQ h3]
 exact ⟨⟨a, t, b, rfl, ha, h1, h2, h3⟩, q⟩
theorem ZgL (F : Fun K "is_road" "is_road" ZcO f fd) (n_isinstance : mg "isinstance" = none) (n_tuple : mg "tuple" = none) (n_len : mg "len" = none) (F_is_whole : Fn P w K mg base Zw 1 "is_whole" ["thing"] Zaw)
  (F_is_price : Fn P w K mg base Zw 3 "is_price" ["thing"] ZbA) : FnOk P w K mg base Zw 4 f fd ["thing", "many"] Zb7 := by
 refine JL F sc_is_road (fun vs H Q E h => ?_) (fun cdv A outer s H vs Q E hr h => ?_)
 ·obtain ⟨x, n, rfl, _⟩ := h; rfl
 obtain ⟨x, n, rfl, ⟨a, t, y, rfl, ha, h1, h2, hp⟩, q⟩ := h
 refine ⟨_, (Zd (Z4 (t_w (JO (Jq (ZU (Jl rfl n_isinstance (Zh (Ze 0) (Zh (JY rfl n_tuple rfl) Za))))) (JT (ZkN (Jp rfl n_len (Zh (Ze 0) Za)) Zc)))) (Zg (Zs JV)) ZN)
   (Zd (Zo 2 sc_is_road.nd (Zx (Ze 0) Zc))
   (Zg (Zs (Zgo (Zy F_is_whole hr (by decide) rfl (Zh (Ze 2) Za)) (Zgo (ZoV Zc (Ze 2) (Ze 1)) (Zg0 (Zy F_is_price hr (by decide) rfl (Zh (Zx (Ze 0) Zc) Za))))))))), ?_⟩
 rw [show Zu ["thing", "many", "to"] [.ref a, .int n] = [some (.ref a), some (.int n), none] from rfl]
 refine ZB fun B hB => ?_
 refine Jv fun A hA C hC => ?_
 walk_at "rd"
 simp only [Zfl ha, ha]
 walk_at "rd"
 rw [if_neg (by decide)]
 subst hC
 walk_at "rd"
 subst hB
 try dsimp only
 refine ZB fun B hB => ?_
 walk_at "rd"
 refine ⟨_, ha, _, rfl, ?_⟩
 subst hB
 try dsimp only
 walk_at "rd"
 simp only [Zaw, ZbA, ha]
 walk_at "rd"
 refine ⟨ZbB _, ?_⟩
 rw [if_pos (show isW (V.int t) = true from rfl), if_pos h1, if_pos h2]
 exact ⟨hp, q⟩
def ZeS : Sp := fun vs H Q _ => ∃ (a : Addr) (xs : List V), vs = [.ref a] /\ H a = some (.lst xs) /\ xs.length <= 40 /\ (∀ x ∈ xs, RdP H x (xs.length + 1)) /\ Q .non H
def Zhp : Sp := fun vs H Q _ => ∃ (a : Addr) (xs : List V) (rs : List (Nat × Rat)) (k : Nat) (w : List Nat), vs = [.ref a, .int k] /\ H a = some (.lst xs) /\ RoadsV H xs rs /\ WayR rs k w /\ w.length <= rs.length /\ rs.length <= 40 /\ k <= rs.length /\ (∀ r ∈ rs, r.1 <= rs.length) /\
 ∀ p H', H p = none -> Same H H' -> H' p = some (.lst (ZF w)) -> Q (.ref p) H'
end
section
variable {P : Program} {w : World} {K : PySem.W.Frag} {mg : Str -> Option Value} {base : Heap} {f : Addr} {fd : FuncData}
def Plk (H0 : Hp) (a : Addr) (n : Nat) (i : Nat) (σ : St) (H : Hp) : Prop := ∃ o, σ = [some (.ref a), some (.int ((n : Int) + 1)), o] /\ H = H0
theorem ZmZ {tk : Tok} (F : Fun K "look_roads" "look_roads" ZaZ f fd) (n_isinstance : mg "isinstance" = none) (n_list : mg "list" = none) (n_len : mg "len" = none) (g_MOST_ROADS : mg "MOST_ROADS" = some (.int 40 tk))
  (F_is_road : Fn P w K mg base Zw 4 "is_road" ["thing", "many"] Zb7) : FnOk P w K mg base Zw 5 f fd ["thing"] ZeS := by
 refine JL F sc_look_roads (fun vs H Q E h => ?_) (fun cdv A outer s H vs Q E hr h => ?_)
 ·obtain ⟨a, xs, rfl, _⟩ := h; rfl
 obtain ⟨a, xs, rfl, ha, hl, hx, q⟩ := h
 refine ⟨_, (Zd (Z4 (Jq (ZU (Jl rfl n_isinstance (Zh (Ze 0) (Zh (JY rfl n_list rfl) Za))))) (Zg Jt) ZN)
   (Zd (Z4 (ZpK (Jp rfl n_len (Zh (Ze 0) Za)) (Znq rfl g_MOST_ROADS)) (Zg Jt) ZN)
   (Zd (Zo 1 sc_look_roads.nd (Jf (Jp rfl n_len (Zh (Ze 0) Za)) Zc))
   (Zg (ZY Ys (Z5 (Ze 0)) (Zp 2 sc_look_roads.nd) (Zg (Z4 (Jq (ZU (Zy F_is_road hr (by decide) rfl (Zh (Ze 2) (Zh (Ze 1) Za))))) (Zg Jt) ZN))))))), ?_⟩
 rw [show Zu ["thing", "many", "road"] [.ref a] = [some (.ref a), none, none] from rfl]
 refine ZB fun B hB => ?_
 refine Jv fun A hA C hC => ?_
 walk_at "rd"
 simp only [Zjk ha]
 walk_at "rd"
 subst hC
 walk_at "rd"
 subst hB
 try dsimp only
 refine ZB fun B hB => ?_
 refine Jv fun A hA C hC => ?_
 walk_at "rd"
 refine ⟨xs, .inl ha, ?_⟩
 rw [if_neg (by omega)]
 subst hC
 walk_at "rd"
 subst hB
 try dsimp only
 refine ZB fun B hB => ?_
 walk_at "rd"
 refine ⟨xs, .inl ha, ?_⟩
 subst hB
 try dsimp only
 simp only [Zao]
 walk_at "rd"
 refine Zax (Plk H a xs.length) ⟨_, rfl, rfl⟩ (fun i σ H' _ ⟨o, _, e⟩ => by rw [e]; exact .of ha) (fun i x σ H' hi hP => ?_) (fun σ H' hP => ?_)
 ·obtain ⟨o, rfl, rfl⟩ := hP
  walk_at "rd"
  simp only [Zb7]
  walk_at "rd"
  exact ⟨hx x (Yo hi), _, rfl, rfl⟩
 ·obtain ⟨o, rfl, rfl⟩ := hP
  exact q
def Pwf (H0 : Hp) (a p : Addr) (k0 : Nat) (rs : List (Nat × Rat)) (w0 : List Nat) (σ : St) (H : Hp) : Prop := ∃ (k : Nat) (pre w : List Nat), σ = [some (.ref a), some (.int k0), some (.ref p), some (.int k)] /\ Same H0 H /\ H p = some (.lst (ZF pre)) /\ WayR rs k w /\ w0 = pre ++ w
theorem Zmn (F : Fun K "way_from" "way_from" Zbu f fd) (n_len : mg "len" = none) : FnOk P w K mg base Zw 1 f fd ["roads", "k"] Zhp := by
 refine JL F sc_way_from (fun vs H Q E h => ?_) (fun cdv A outer s H vs Q E hr h => ?_)
 ·obtain ⟨a, xs, rs, k, w, rfl, _⟩ := h; rfl
 obtain ⟨a, xs, rs, k0, w0, rfl, ha, hR, hw0, hwl, hrl, _, _, q⟩ := h
 refine ⟨_, (Zd (Zo 2 sc_way_from.nd (JQ Za))
   (Zd (Zo 3 sc_way_from.nd (Ze 1))
   (Zd (ZdA Ys (ZkN (Ze 3) Zc) (Zd (Z4 (ZnX (Jp rfl n_len (Zh (Ze 2) Za)) (Jp rfl n_len (Zh (Ze 0) Za))) (Zg Jt) ZN)
   (Zd (Z6 (Zdq (Ze 2) (Zh (Ze 3) Za)))
   (Zg (Zo 3 sc_way_from.nd (Zx (Ju (Ze 0) (JK (Ze 3) Zc)) Zc))))))
   (Zg (Zs (Ze 2)))))), ?_⟩
 rw [show Zu ["roads", "k", "way", "place"] [.ref a, .int k0] = [some (.ref a), some (.int k0), none, none] from rfl]
 walk_at "rd"
 intro p H1 hp s1 e1
 refine Zdv (Pwf H a p k0 rs w0) (fun σ _ => wayM rs (ZjH σ 3).toNat) ⟨k0, [], w0, rfl, s1, e1, hw0, rfl⟩ ?_
 rintro σ H2 ⟨k, pre, w, rfl, s2, e2, hw, hw1⟩
 walk_at "rd"
 have hap : a ≠ p := fun z => by rw [z, hp] at ha; cases ha
 refine JR (fun hc => ?_) (fun hc => ?_)
 ·cases hw with
  | nil => exact absurd rfl hc
  | @cons k r w h hw' =>
   have hkl : k < rs.length := (Yg.mp h).1
   have hkx : k < xs.length := by rw [hR.1]; exact hkl
   obtain ⟨pr, y, ex, hpr, hy⟩ := hR.2 k _ r (Yc hkx) h
   have hrp : pr ≠ p := fun z => by rw [z, hp] at hpr; cases hpr
   have hpl : pre.length < rs.length := by
    have := congrArg List.length hw1
    simp at this
    omega
   have hlen : (ZF pre).length < 1000000 := by simp [ZF]; omega
   simp only [e2, s2 _ _ ha]
   walk_at "rd"
   refine ⟨fun σ' H' => σ' = [some (.ref a), some (.int k0), some (.ref p), some (.int r.1)] /\ Pwf H a p k0 rs w0 σ' H', fun σ' H' ⟨e, hP⟩ => ⟨_, ?_, rfl, hP⟩, ?_⟩
   ·subst e
    show wayM rs ((r.1 : Nat) : Int).toNat < wayM rs (((k + 1 : Nat)) : Int).toNat
    rw [VM, VM, Zds hw', Zds (.cons h hw')]
    simp
   rw [if_neg (by have := hR.1; simp [ZF]; omega)]
   refine ⟨hlen, xs, by rw [Zf hap]; exact s2 _ _ ha, xs[k], ?_, pr, ex, _, by rw [Zf hrp]; exact s2 _ _ hpr, _, rfl, rfl, ?_⟩
   ·rw [show (((k + 1 : Nat)) : Int) - 1 = (k : Int) by omega]
    exact ZE (Yc hkx)
   ·exact ⟨r.1, pre ++ [k + 1], w, rfl, Zr hp s2, by rw [upd_same]; simp [ZF], hw', by simp [hw1]⟩
 ·have hk0 : k = 0 := by omega
  subst hk0
  have e := hw.zero
  subst e
  rw [Y5] at hw1
  subst hw1
  exact q p H2 hp s2 e2
end
theorem RatV.keep {H H' : Hp} {x : V} {q : Rat} (h : RatV H x q) (s : ∀ b ys, H b = some (.tup ys) -> H' b = some (.tup ys)) : RatV H' x q := let ⟨p, e, h1⟩ := h; ⟨p, e, s _ _ h1⟩
theorem RoadV.keep {H H' : Hp} {x : V} {r : Nat × Rat} (h : RoadV H x r) (s : ∀ b ys, H b = some (.tup ys) -> H' b = some (.tup ys)) : RoadV H' x r := let ⟨p, y, e, h1, h2⟩ := h; ⟨p, y, e, s _ _ h1, h2.keep s⟩
theorem RoadsV.keep {H H' : Hp} {xs : List V} {rs : List (Nat × Rat)} (h : RoadsV H xs rs) (s : ∀ b ys, H b = some (.tup ys) -> H' b = some (.tup ys)) : RoadsV H' xs rs := ⟨h.1, fun i x r h1 h2 => (h.2 i x r h1 h2).keep s⟩
theorem RoadsV.same {H H' : Hp} {xs : List V} {rs : List (Nat × Rat)} (h : RoadsV H xs rs) (s : Same H H') : RoadsV H' xs rs := h.keep fun b ys => s b _
def Zp5 (H : Hp) (ws : List V) (rs : List (Nat × Rat)) : Prop := ws.length = rs.length + 1 /\ ∀ (k : Nat) x, ws[k]? = some x -> ∃ p w, x = .ref p /\ H p = some (.lst (ZF w)) /\ WayR rs k w /\ w.length <= rs.length
def TreeV (C : Addr) (H : Hp) (x : V) (rs : List (Nat × Rat)) : Prop := ∃ a dx la wa ls ws, x = .ref a /\ H a = some (.ins C dx [("lanes", .ref la), ("ways", .ref wa)]) /\ H la = some (.lst ls) /\ RoadsV H ls rs /\ H wa = some (.lst ws) /\ Zp5 H ws rs
theorem TreeV.same {C : Addr} {H H' : Hp} {x : V} {rs : List (Nat × Rat)} (h : TreeV C H x rs) (s : Same H H') : TreeV C H' x rs := by
 obtain ⟨a, dx, la, wa, ls, ws, e, h1, h2, h3, h4, h5, h6⟩ := h
 exact ⟨a, dx, la, wa, ls, ws, e, s _ _ h1, s _ _ h2, h3.same s, s _ _ h4, h5, fun k x hx => let ⟨p, w, e, g1, g2⟩ := h6 k x hx; ⟨p, w, e, s _ _ g1, g2⟩⟩
theorem Zgz {H : Hp} {x : V} {r : Nat × Rat} {n : Int} (h : RoadV H x r) (h1 : (r.1 : Int) < n) (h2 : 0 <= r.2.num) : RdP H x n := by
 obtain ⟨p, y, rfl, hp, q, rfl, hq⟩ := h
 have hg : Int.gcd r.2.num (r.2.den : Int) = 1 := by
  show Nat.gcd r.2.num.natAbs (Int.natAbs (r.2.den : Int)) = 1
  rw [VI]
  exact r.2.reduced
 have hd : 1 <= (r.2.den : Int) := by have := r.2.den_pos; omega
 exact ⟨p, _, _, rfl, hp, by omega, h1, q, _, _, rfl, hq, hd, hg, h2⟩
section
variable {P : Program} {w : World} {K : PySem.W.Frag} {mg : Str -> Option Value} {base : Heap} {f : Addr} {fd : FuncData} {CT CNP : Addr}
def ZiC (C : Addr) : Sp := fun vs H Q _ => ∃ (x dx a : Addr) (xs : List V) (rs : List (Nat × Rat)), vs = [.ref x, .ref a] /\ H x = some (.ins C dx []) /\ H a = some (.lst xs) /\ RoadsV H xs rs /\ Zbj rs /\ rs.length <= 40 /\ (∀ r ∈ rs, 0 <= r.2.num) /\
 ∀ H', (∀ b o, b ≠ x -> H b = some o -> H' b = some o) -> TreeV C H' (.ref x) rs -> (∀ l zs, H l = some (.lst zs) -> ∀ H'', Same H' H'' -> ∀ ys, TreeV C (upd H'' l (.lst ys)) (.ref x) rs) -> Q .non H'
theorem ZlP (F : Fun K "__init__" "Tree.__init__" Zac f fd) (n_list : mg "list" = none) (n_len : mg "len" = none) (n_range : mg "range" = none) (cls_Tree : Cls K CT) (nf_lanes : NoAttr K CT "lanes") (nf_ways : NoAttr K CT "ways")
  (F_look_roads : Fn P w K mg base Zw 5 "look_roads" ["thing"] ZeS) (F_way_from : Fn P w K mg base Zw 1 "way_from" ["roads", "k"] Zhp) : FnOk P w K mg base Zw 6 f fd ["self", "roads"] (ZiC CT) := by
 refine JL F ZbQ (fun vs H Q E h => ?_) (fun cdv A outer s H vs Q E hr h => ?_)
 ·obtain ⟨x, dx, a, xs, rs, rfl, _⟩ := h; rfl
 obtain ⟨x, dx, a, xs, rs, rfl, hx, ha, hR, hT, hl, hn, q⟩ := h
 refine ⟨_, (Zd (Z6 (Zy F_look_roads hr (by decide) rfl (Zh (Ze 1) Za)))
   (Zd (ZnL (Ze 0) (Zc5 rfl n_list (Zh (Ze 1) Za)))
   (Zg (ZnL (Ze 0) (ZfY (Zkv ["k"] [1] ["roads"]) (Zch rfl n_range (Zh (Jf (Jp rfl n_len (Zh (Ze 1) Za)) Zc) Za)) (by exact fun s H fp => (Zp 0 (show List.Nodup (["k", "roads"] : List Str) from by decide +kernel))) (by exact fun s H fp => (Zy F_way_from hr (by decide) rfl (Zh (Ze 1) (Zh (Ze 0) Za))))))))), ?_⟩
 rw [show Zu ["self", "roads"] [.ref x, .ref a] = [some (.ref x), some (.ref a)] from rfl]
 walk_at "rd"
 simp only [ZeS, ZeM]
 walk_at "rd"
 refine ⟨xs, ha, by rw [hR.1]; exact hl, fun y hy => ?_, xs, .inl (.of ha), fun l H1 hl1 s1 e1 => ?_⟩
 ·obtain ⟨i, hi⟩ := Vu hy
  have hi' : i < rs.length := by rw [<- hR.1]; exact (Yg.mp hi).1
  obtain ⟨_, _, _, hT2⟩ := hT
  have h2 := hT2 i _ (Yc hi')
  exact Zgz (hR.2 i y _ hi (Yc hi')) (by rw [hR.1]; omega) (hn _ (YI hi'))
 refine ⟨CT, dx, [], s1 _ _ hx, cls_Tree, nf_lanes, by decide, ?_⟩
 have hax : a ≠ x := ZZ ha hx (by intro z; cases z)
 rw [show JU (Str.ofString "lanes") (.ref l) [] = [(Str.ofString "lanes", V.ref l)] from rfl]
 have k1 : ∀ b o, b ≠ x -> H b = some o -> upd H1 x (.ins CT dx [(Str.ofString "lanes", V.ref l)]) b = some o := fun b o hb e => by rw [Zf hb]; exact s1 _ _ e
 have ha2 : upd H1 x (.ins CT dx [(Str.ofString "lanes", V.ref l)]) a = some (.lst xs) := k1 _ _ hax ha
 have hl2 : upd H1 x (.ins CT dx [(Str.ofString "lanes", V.ref l)]) l = some (.lst xs) := by rw [Zf (ZZ e1 (s1 _ _ hx) (by intro z; cases z))]; exact e1
 have hx2 : upd H1 x (.ins CT dx [(Str.ofString "lanes", V.ref l)]) x = some (.ins CT dx [(Str.ofString "lanes", V.ref l)]) := upd_same
 generalize upd H1 x (.ins CT dx [(Str.ofString "lanes", V.ref l)]) = H2 at k1 ha2 hl2 hx2 ⊢
 simp only [JP, Zgv, cxK]
 walk_at "rd"
 have hxl := hR.1
 have hto : ∀ r ∈ rs, r.1 <= rs.length := fun r hr => by
  obtain ⟨_, _, _, g⟩ := id hT
  obtain ⟨i, hi⟩ := Vu hr
  exact (g i r hi).1
 refine ⟨xs, .inl ha2, by omega, by omega, ?_⟩
 rw [show Ji [some (V.ref x), some (V.ref a)] [1] = [some (V.ref a)] from rfl]
 have tk : ∀ H3, Same H2 H3 -> RoadsV H3 xs rs := fun H3 sm => hR.keep fun b ys e => sm _ _ (k1 b _ (ZZ e hx (by intro z; cases z)) e)
 refine Zid (fun acc i ys H' => Same H2 H' /\ H' acc = some (.lst ys) /\ ys.length = i /\ i <= 50 /\ ∀ (k : Nat) y, ys[k]? = some y -> ∃ p w, y = .ref p /\ p ≠ acc /\ H2 p = none /\ H' p = some (.lst (ZF w)) /\ WayR rs k w /\ w.length <= rs.length)
  (fun acc H3 hn sm e => ⟨sm, e, rfl, by omega, fun k y hy => by simp at hy⟩) (fun acc i ys H3 ⟨_, e, hl, hi, _⟩ => ⟨e, by omega⟩) (fun acc i ys H3 os hn hi hP ol => ?_) (fun acc ys H3 hn' hP => ?_)
 ·obtain ⟨sm, e, hyl, hi2, hE⟩ := hP
  obtain ⟨o, rfl⟩ : ∃ o, os = [o] := by match os, ol with | [o], _ => exact ⟨o, rfl⟩
  obtain ⟨w, hw, hwl⟩ := ZaT hT (k := i) (by omega)
  walk_at "rd"
  refine ⟨[some (.int (i : Int))], rfl, rfl, ?_⟩
  refine ⟨a, xs, rs, i, w, rfl, sm _ _ ha2, tk _ sm, hw, hwl, by omega, by omega, hto, fun p' H4 hp' s4 e4 => ⟨s4 _ _ e, Zr hn (sm.trans s4), upd_same, by simp [hyl], by omega, fun k y hy => ?_⟩⟩
  by_cases hk : k < ys.length
  ·rw [Y8 hk] at hy
   obtain ⟨p, w, e5, hpa, hpn, e6, e7⟩ := hE k y hy
   exact ⟨p, e5, hpa, hpn, w, by rw [Zf hpa]; exact s4 _ _ e6, e7⟩
  ·have hk2 : k = i := by
    have := (Yg.mp hy).1
    simp at this; omega
   subst hk2
   rw [YZ (by omega), hyl] at hy
   have hy' : V.ref p' = y := by simpa using hy
   subst hy'
   have hpa : p' ≠ acc := fun z => by rw [z, e] at hp'; cases hp'
   exact ⟨p', rfl, hpa, sm.free hp', w, by rw [Zf hpa]; exact e4, hw, hwl⟩
 ·obtain ⟨sm, e, hyl, hi2, hE⟩ := hP
  have nx : ∀ b ys, H3 b = some (.lst ys) -> b ≠ x := fun b ys e => ZZ e (sm _ _ hx2) (by intro z; cases z)
  have gen : ∀ H5 : Hp, H5 x = some (.ins CT dx [("lanes", .ref l), ("ways", .ref acc)]) -> H5 l = some (.lst xs) -> H5 acc = some (.lst ys) -> (∀ p w, H2 p = none -> H3 p = some (.lst (ZF w)) -> H5 p = some (.lst (ZF w))) -> (∀ b zs, H3 b = some (.tup zs) -> H5 b = some (.tup zs)) -> TreeV CT H5 (.ref x) rs := by
   intro H5 g1 g2 g3 g4 g5
   refine ⟨x, dx, l, acc, xs, ys, rfl, g1, g2, (tk _ sm).keep g5, g3, by omega, fun k y hy => ?_⟩
   obtain ⟨p, w, e5, _, hpn, e6, e7⟩ := hE k y hy
   exact ⟨p, w, e5, g4 _ _ hpn e6, e7⟩
  refine ⟨CT, dx, _, sm _ _ hx2, cls_Tree, nf_ways, by show (1 : Nat) < 1000; decide, q _ (fun b o hb e => by rw [Zf hb]; exact sm _ _ (k1 b o hb e)) ?_ (fun l0 zs h0 H'' s'' us => ?_)⟩
  ·exact gen _ upd_same (by rw [Zf (nx _ _ (sm _ _ hl2))]; exact sm _ _ hl2) (by rw [Zf (nx _ _ e)]; exact e) (fun p w _ h => by rw [Zf (nx _ _ h)]; exact h) (fun b zs h => by rw [Zf (ZZ h (sm _ _ hx2) (by intro z; cases z))]; exact h)
  ·have n1 : x ≠ l0 := ZZ hx h0 (by intro z; cases z)
   have h2 : H2 l0 = some (.lst zs) := k1 _ _ (fun z => n1 z.symm) h0
   have h3 : H'' l0 = some (.lst zs) := s'' _ _ (by rw [Zf (fun z => n1 z.symm)]; exact sm _ _ h2)
   have keepL : ∀ b ws, b ≠ l0 -> H3 b = some (.lst ws) -> upd H'' l0 (.lst us) b = some (.lst ws) := fun b ws hb h => by
    rw [Zf hb]; exact s'' _ _ (by rw [Zf (nx _ _ h)]; exact h)
   have n2 : l ≠ l0 := fun z => by rw [z, h0] at hl1; cases hl1
   have n3 : acc ≠ l0 := fun z => by rw [z, h2] at hn'; cases hn'
   exact gen _ (by rw [Zf n1]; exact s'' _ _ upd_same) (keepL _ _ n2 (sm _ _ hl2)) (keepL _ _ n3 e) (fun p w hp h => keepL _ _ (fun z => by rw [z, h2] at hp; cases hp) h)
    (fun b zs' h => by
     have hb : b ≠ l0 := ZZ h (sm _ _ h2) (by intro z; cases z)
     rw [Zf hb]; exact s'' _ _ (by rw [Zf (ZZ h (sm _ _ hx2) (by intro z; cases z))]; exact h))
end
section
variable {P : Program} {w : World} {K : PySem.W.Frag} {mg : Str -> Option Value} {base : Heap} {f : Addr} {fd : FuncData} {CT CNP : Addr}
def Zdo (C : Addr) : Sp := fun vs H Q _ => ∃ x rs, vs = [x] /\ TreeV C H x rs /\ Q (.int ((rs.length : Int) + 1)) H
theorem Zm1 (F : Fun K "many" "Tree.many" Zai f fd) (n_len : mg "len" = none) (cls_Tree : Cls K CT) (nf_ways : NoAttr K CT "ways") : FnOk P w K mg base Zw 1 f fd ["self"] (Zdo CT) := by
 refine JL F Zen (fun vs H Q E h => ?_) (fun cdv A outer s H vs Q E hr h => ?_)
 ·obtain ⟨x, rs, rfl, _⟩ := h; rfl
 obtain ⟨x, rs, rfl, ⟨a, dx, la, wa, ls, ws, rfl, h1, h2, h3, h4, h5, h6⟩, q⟩ := h
 refine ⟨_, (Zg (Zs (Jp rfl n_len (Zh (Zkg (Ze 0)) Za)))), ?_⟩
 rw [show Zu ["self"] [.ref a] = [some (.ref a)] from rfl]
 walk_at "rd"
 refine ⟨CT, dx, _, h1, cls_Tree, nf_ways, .ref wa, rfl, wa, rfl, ws, .inl h4, ?_⟩
 rw [show ((ws.length : Nat) : Int) = (rs.length : Int) + 1 by omega]
 exact q
def inT (rs : List (Nat × Rat)) (k : Int) : Prop := 0 <= k /\ k <= rs.length
def ZdG (C CNP : Addr) : Sp := fun vs H Q E => ∃ x rs k, vs = [x, .int k] /\ TreeV C H x rs /\ (inT rs k -> Q .non H) /\ (¬ inT rs k -> E (.ref CNP) none H)
theorem ZjY (F : Fun K "look_crossing" "Tree.look_crossing" Zaa f fd) (F_is_whole : Fn P w K mg base Zw 1 "is_whole" ["thing"] Zaw)
  (M_many : Mth P w K mg base Zw 1 CT "many" ["self"] (Zdo CT)) : FnOk P w K mg base Zw 2 f fd ["self", "k"] (fun vs H Q _ => ZdG CT CNP vs H Q E0) := by
 refine JL F Za2 (fun vs H Q E h => ?_) (fun cdv A outer s H vs Q E hr h => ?_)
 ·obtain ⟨x, rs, k, rfl, _⟩ := h; rfl
 obtain ⟨x, rs, k, rfl, hT, q1, q2⟩ := h
 have hin : inT rs k := Vt fun z => q2 z
 refine ⟨_, (Zg (Z4 (t_w (JO (Jq (ZU (Zy F_is_whole hr (by decide) rfl (Zh (Ze 1) Za)))) (JO (Zne (Ze 1) Zc) (JT (ZqJ (Ze 1) (Zfh M_many hr (by decide) (Ze 0))))))) (Zg Jt) ZN)), ?_⟩
 rw [show Zu ["self", "k"] [x, .int k] = [some (x), some (.int k)] from rfl]
 walk_at "rd"
 simp only [Zaw, Zdo]
 walk_at "rd"
 refine ⟨ZbB k, ?_⟩
 rw [if_neg (by simp [isW])]
 refine JR (fun c => absurd hin (by unfold inT; omega)) (fun c => ?_)
 obtain ⟨a, dx, la, wa, ls, ws, rfl, h1, _⟩ := id hT
 exact ⟨a, rfl, dx, _, h1, rfl, rs, hT, JR (fun c2 => absurd hin (by unfold inT; omega)) (fun c2 => q1 hin)⟩
def ZeW (C CNP : Addr) : Sp := fun vs H Q E => ∃ x rs k, vs = [x, .int k] /\ TreeV C H x rs /\ (∀ (p : Addr) (H' : Hp) (k' : Nat) (w : List Nat), k = (k' : Int) -> H p = none -> Same H H' -> H' p = some (.lst (ZF w)) -> WayR rs k' w -> w.length <= rs.length -> Q (.ref p) H') /\ (¬ inT rs k -> E (.ref CNP) none H)
theorem Zmo (F : Fun K "way" "Tree.way" Zaj f fd) (n_list : mg "list" = none) (cls_Tree : Cls K CT) (nf_ways : NoAttr K CT "ways")
  (M_look_crossing : Mth P w K mg base Zw 2 CT "look_crossing" ["self", "k"] (fun vs H Q _ => ZdG CT CNP vs H Q E0)) : FnOk P w K mg base Zw 3 f fd ["self", "k"] (fun vs H Q _ => ZeW CT CNP vs H Q E0) := by
 refine JL F Zfg (fun vs H Q E h => ?_) (fun cdv A outer s H vs Q E hr h => ?_)
 ·obtain ⟨x, rs, k, rfl, _⟩ := h; rfl
 obtain ⟨x, rs, k, rfl, hT, q1, q2⟩ := h
 have hin : inT rs k := Vt fun z => q2 z
 refine ⟨_, (Zd (Z6 (Za8 M_look_crossing hr (by decide) (Ze 0) (Zh (Ze 1) Za)))
   (Zg (Zs (Zc5 rfl n_list (Zh (Ju (Zkg (Ze 0)) (Ze 1)) Za))))), ?_⟩
 rw [show Zu ["self", "k"] [x, .int k] = [some (x), some (.int k)] from rfl]
 walk_at "rd"
 simp only [ZeM]
 walk_at "rd"
 obtain ⟨a, dx, la, wa, ls, ws, rfl, h1, h2, h3, h4, h5, h6⟩ := id hT
 refine ⟨a, rfl, dx, _, h1, rfl, .ref a, rs, k, rfl, hT, fun _ => ?_, fun z => z hin⟩
 obtain ⟨k', hk'⟩ : ∃ k' : Nat, k = (k' : Int) := ⟨k.toNat, by unfold inT at hin; omega⟩
 subst hk'
 have hlt : k' < ws.length := by unfold inT at hin; omega
 obtain ⟨p, w, e5, e6, e7, e8⟩ := h6 k' _ (Yc hlt)
 exact ⟨a, rfl, CT, dx, _, h1, cls_Tree, nf_ways, .ref wa, rfl, wa, rfl, ws, h4, _, ZE (Yc hlt), p, e5, ZF w, .inl (.of e6), fun l H2 hl s e => q1 l H2 k' w rfl hl s e e7 e8⟩
end
section
variable {P : Program} {w : World} {K : PySem.W.Frag} {mg : Str -> Option Value} {base : Heap} {f : Addr} {fd : FuncData} {CT CNP : Addr}
def inR (rs : List (Nat × Rat)) (k : Int) : Prop := 1 <= k /\ k <= rs.length
def ZdE (C CNP : Addr) : Sp := fun vs H Q E => ∃ x rs k, vs = [x, .int k] /\ TreeV C H x rs /\ (inR rs k -> Q .non H) /\ (¬ inR rs k -> E (.ref CNP) none H)
theorem ZjA (F : Fun K "look_road" "Tree.look_road" Zab f fd)
  (M_look_crossing : Mth P w K mg base Zw 2 CT "look_crossing" ["self", "k"] (fun vs H Q _ => ZdG CT CNP vs H Q E0)) : FnOk P w K mg base Zw 3 f fd ["self", "k"] (fun vs H Q _ => ZdE CT CNP vs H Q E0) := by
 refine JL F Zby (fun vs H Q E h => ?_) (fun cdv A outer s H vs Q E hr h => ?_)
 ·obtain ⟨x, rs, k, rfl, _⟩ := h; rfl
 obtain ⟨x, rs, k, rfl, hT, q1, q2⟩ := h
 have hin : inR rs k := Vt fun z => q2 z
 refine ⟨_, (Zd (Z6 (Za8 M_look_crossing hr (by decide) (Ze 0) (Zh (Ze 1) Za)))
   (Zg (Z4 (ZnX (Ze 1) Zc) (Zg Jt) ZN))), ?_⟩
 rw [show Zu ["self", "k"] [x, .int k] = [some (x), some (.int k)] from rfl]
 walk_at "rd"
 obtain ⟨a, dx, la, wa, ls, ws, rfl, h1, _⟩ := id hT
 refine ⟨a, rfl, dx, _, h1, rfl, .ref a, rs, k, rfl, hT, fun _ => ?_, fun z => z ⟨by unfold inR at hin; omega, by unfold inR at hin; omega⟩⟩
 exact JR (fun c => absurd hin (by unfold inR; omega)) (fun c => q1 hin)
end
open Classical in
noncomputable def wayL (rs : List (Nat × Rat)) (k : Nat) : List Nat := if h : ∃ w, WayR rs k w then h.choose else []
theorem Jk {rs : List (Nat × Rat)} {k : Nat} {w : List Nat} (h : WayR rs k w) : wayL rs k = w := by
 have hh : ∃ w, WayR rs k w := ⟨w, h⟩
 unfold wayL
 rw [dif_pos hh]
 exact h.uniq hh.choose_spec
noncomputable def ben (rs : List (Nat × Rat)) (k : Nat) : List Nat := (List.range (rs.length + 1)).filter fun j => decide (k ∈ wayL rs j)
theorem ZdF {k : Nat} {w : List Nat} : inV (.int (k : Int)) (ZF w) = decide (k ∈ w) := by
 unfold inV ZF
 rw [List.any_map, VB, List.any_eq_true, Ve]
 constructor
 ·rintro ⟨y, hy, e⟩
  have e : (y : Int) = (k : Int) := by simpa [eqV] using e
  have : y = k := by omega
  rw [<- this]; exact hy
 ·intro h
  exact ⟨k, h, by simp [eqV]⟩
theorem Zb0 {w : List Nat} : (ZF w).all JN = true := by
 rw [List.all_eq_true]
 intro v hv
 obtain ⟨k, _, rfl⟩ := Yl.mp hv
 rfl
section
variable {P : Program} {w : World} {K : PySem.W.Frag} {mg : Str -> Option Value} {base : Heap} {f : Addr} {fd : FuncData} {CT CNP : Addr}
def Ziz (C CNP : Addr) : Sp := fun vs H Q E => ∃ x rs k, vs = [x, .int k] /\ TreeV C H x rs /\ rs.length <= 100 /\ (∀ (p : Addr) (H' : Hp) (k' : Nat), k = (k' : Int) -> inR rs k -> H p = none -> Same H H' -> H' p = some (.lst (ZF (ben rs k'))) -> Q (.ref p) H') /\ (¬ inR rs k -> E (.ref CNP) none H)
theorem ZlT (F : Fun K "beneath" "Tree.beneath" Zad f fd) (n_range : mg "range" = none) (cls_Tree : Cls K CT) (nf_ways : NoAttr K CT "ways") (M_many : Mth P w K mg base Zw 1 CT "many" ["self"] (Zdo CT))
  (M_look_road : Mth P w K mg base Zw 3 CT "look_road" ["self", "k"] (fun vs H Q _ => ZdE CT CNP vs H Q E0)) : FnOk P w K mg base Zw 4 f fd ["self", "k"] (fun vs H Q _ => Ziz CT CNP vs H Q E0) := by
 refine JL F Zcm (fun vs H Q E h => ?_) (fun cdv A outer s H vs Q E hr h => ?_)
 ·obtain ⟨x, rs, k, rfl, _⟩ := h; rfl
 obtain ⟨x, rs, k, rfl, hT, hrl, q1, q2⟩ := h
 have hin : inR rs k := Vt fun z => q2 z
 refine ⟨_, (Zd (Z6 (Za8 M_look_road hr (by decide) (Ze 0) (Zh (Ze 1) Za)))
   (Zg (Zs (ZeZ (Zkv ["place"] [0, 1] ["self", "k"]) (Zch rfl n_range (Zh (Zfh M_many hr (by decide) (Ze 0)) Za)) (by exact fun s H fp => (Zp 0 (show List.Nodup (["place", "self", "k"] : List Str) from by decide +kernel))) (by exact fun s H fp => Zfx (ZiZ K (Ze 2) (Ju (Znw K (Ze 1)) (Ze 0)))) (by exact fun s H fp => (Ze 0)))))), ?_⟩
 rw [show Zu ["self", "k"] [x, .int k] = [some (x), some (.int k)] from rfl]
 walk_at "rd"
 obtain ⟨a, dx, la, wa, ls, ws, rfl, h1, h2, h3, h4, h5, h6⟩ := id hT
 refine ⟨a, rfl, dx, _, h1, rfl, .ref a, rs, k, rfl, hT, fun _ => ?_, fun z => z hin⟩
 obtain ⟨k', hk'⟩ : ∃ k' : Nat, k = (k' : Int) := ⟨k.toNat, by unfold inR at hin; omega⟩
 subst hk'
 simp only [ZbM, Zgv]
 walk_at "rd"
 refine ⟨dx, _, h1, rfl, .ref a, rs, rfl, hT, _, rfl, by omega, by omega, ?_⟩
 rw [show Ji [some (V.ref a), some (V.int (k' : Int))] [0, 1] = [some (V.ref a), some (V.int (k' : Int))] from rfl, show ((rs.length : Int) + 1).toNat = rs.length + 1 by omega]
 refine Zfs (fun acc i ys H' => Same H H' /\ H' acc = some (.lst ys) /\ ys = ZF ((List.range i).filter fun j => decide (k' ∈ wayL rs j)) /\ i <= rs.length + 1) (fun acc H2 hn sm e => ⟨sm, e, rfl, by omega⟩) (fun acc i ys H2 ⟨_, e, ey, hi⟩ => ⟨e, ?_⟩) (fun acc i ys H2 os hn hi hP ol => ?_) (fun acc ys H2 hn hP => ?_)
 ·rw [ey]
  have := YW (fun j => decide (k' ∈ wayL rs j)) (List.range i)
  simp [ZF] at this ⊢
  omega
 ·obtain ⟨sm, e, ey, hi2⟩ := hP
  obtain ⟨o, rfl⟩ : ∃ o, os = [o] := by match os, ol with | [o], _ => exact ⟨o, rfl⟩
  have hlt : i < ws.length := by omega
  obtain ⟨p, w, e5, e6, e7, e8⟩ := h6 i _ (Yc hlt)
  walk_at "rd"
  refine ⟨[some (.int (i : Int))], rfl, rfl, ?_⟩
  simp only [rIn]
  walk_at "rd"
  refine ⟨CT, dx, _, sm _ _ h1, cls_Tree, nf_ways, .ref wa, rfl, wa, rfl, ws, sm _ _ h4, _, ZE (Yc hlt), p, e5, ZF w, .inl (.of (sm _ _ e6)), rfl, Zb0, ?_⟩
  rw [ZdF]
  have ew : wayL rs i = w := Jk e7
  refine JR (fun c => ⟨e, Zr hn sm, upd_same, ?_, by omega⟩) (fun c => ⟨sm, e, ?_, by omega⟩)
  ·rw [List.range_succ, VH, Yag (by show decide (k' ∈ wayL rs i) = true; rw [ew]; exact c), List.filter_nil, ey]
   simp [ZF]
  ·rw [List.range_succ, VH, Yah (by show ¬ decide (k' ∈ wayL rs i) = true; rw [ew]; exact c), List.filter_nil, Y5, ey]
 ·obtain ⟨sm, e, ey, hi2⟩ := hP
  subst ey
  exact q1 acc H2 k' rfl hin hn sm e
end
section
variable {P : Program} {w : World} {K : PySem.W.Frag} {mg : Str -> Option Value} {base : Heap} {f : Addr} {fd : FuncData} {CT CNP : Addr}
def ZcR (C CNP : Addr) : Sp := fun vs H Q E => ∃ x rs k, vs = [x, .int k] /\ TreeV C H x rs /\ (∀ (k' : Nat) r y, k = (k' : Int) + 1 -> rs[k']? = some r -> RatV H y r.2 -> Q y H) /\ (¬ inR rs k -> E (.ref CNP) none H)
theorem Zhc (F : Fun K "price" "Tree.price" Zag f fd) (cls_Tree : Cls K CT) (nf_lanes : NoAttr K CT "lanes")
  (M_look_road : Mth P w K mg base Zw 3 CT "look_road" ["self", "k"] (fun vs H Q _ => ZdE CT CNP vs H Q E0)) : FnOk P w K mg base Zw 4 f fd ["self", "k"] (fun vs H Q _ => ZcR CT CNP vs H Q E0) := by
 refine JL F ZdM (fun vs H Q E h => ?_) (fun cdv A outer s H vs Q E hr h => ?_)
 ·obtain ⟨x, rs, k, rfl, _⟩ := h; rfl
 obtain ⟨x, rs, k, rfl, hT, q1, q2⟩ := h
 have hin : inR rs k := Vt fun z => q2 z
 refine ⟨_, (Zd (Z6 (Za8 M_look_road hr (by decide) (Ze 0) (Zh (Ze 1) Za)))
   (Zg (Zs (Zx (Ju (Zkg (Ze 0)) (JK (Ze 1) Zc)) Zc)))), ?_⟩
 rw [show Zu ["self", "k"] [x, .int k] = [some (x), some (.int k)] from rfl]
 walk_at "rd"
 obtain ⟨a, dx, la, wa, ls, ws, rfl, h1, h2, h3, _⟩ := id hT
 refine ⟨a, rfl, dx, _, h1, rfl, .ref a, rs, k, rfl, hT, fun _ => ?_, fun z => z hin⟩
 obtain ⟨k', hk'⟩ : ∃ k' : Nat, k = (k' : Int) + 1 := ⟨(k - 1).toNat, by unfold inR at hin; omega⟩
 subst hk'
 have hl := h3.1
 have hlr : k' < rs.length := by unfold inR at hin; omega
 have hls : k' < ls.length := by omega
 obtain ⟨p, y, e, e2, e3⟩ := h3.2 k' _ _ (Yc hls) (Yc hlr)
 refine ⟨a, rfl, CT, dx, _, h1, cls_Tree, nf_lanes, .ref la, rfl, la, rfl, ls, h2, _, ?_, p, e, _, e2, _, rfl, q1 k' _ y rfl (Yc hlr) e3⟩
 rw [show (k' : Int) + 1 - 1 = (k' : Int) by omega]
 exact ZE (Yc hls)
end
section
variable {P : Program} {w : World} {K : PySem.W.Frag} {mg : Str -> Option Value} {base : Heap} {f : Addr} {fd : FuncData} {CT CNP : Addr}
def Zeq (C : Addr) : Sp := fun vs H Q _ => ∃ x rs, vs = [x] /\ TreeV C H x rs /\ ∀ p H' ls, H p = none -> Same H H' -> H' p = some (.lst ls) -> RoadsV H' ls rs -> Q (.ref p) H'
theorem Ziu (F : Fun K "roads" "Tree.roads" Zaf f fd) (n_list : mg "list" = none) (cls_Tree : Cls K CT) (nf_lanes : NoAttr K CT "lanes") : FnOk P w K mg base Zw 1 f fd ["self"] (Zeq CT) := by
 refine JL F ZdL (fun vs H Q E h => ?_) (fun cdv A outer s H vs Q E hr h => ?_)
 ·obtain ⟨x, rs, rfl, _⟩ := h; rfl
 obtain ⟨x, rs, rfl, ⟨a, dx, la, wa, ls, ws, rfl, h1, h2, h3, h4, h5, h6⟩, q⟩ := h
 refine ⟨_, (Zg (Zs (Zc5 rfl n_list (Zh (Zkg (Ze 0)) Za)))), ?_⟩
 rw [show Zu ["self"] [.ref a] = [some (.ref a)] from rfl]
 walk_at "rd"
 simp only [ZeM]
 walk_at "rd"
 exact ⟨CT, dx, _, h1, cls_Tree, nf_lanes, .ref la, rfl, la, rfl, ls, .inl (.of h2), fun l H2 hl s e => q l H2 ls hl s e (h3.same s)⟩
end
def ZdQ : Sp := fun vs H Q _ => ∃ c m : Int, vs = [.int c, .int m] /\ 0 <= m /\ m < 100 /\ ∀ p H' (ss : List Str), H p = none -> Same H H' -> H' p = some (.lst (ss.map V.str)) -> (ss.length : Int) = m -> Q (.ref p) H'
def ZpU (ss : List Str) : Prop := ∀ z ∈ ss, z.length = 1
section
variable {P : Program} {w : World} {K : PySem.W.Frag} {mg : Str -> Option Value} {base : Heap} {f : Addr} {fd : FuncData} {CT CNP : Addr}
theorem ZfH : ∀ {ss : List Str}, ZpU ss -> (ss.map (·.length)).sum = ss.length
 | [], _ => rfl
 | z :: ss, h => by
  rw [Yq, VS, h z (Vc ..), ZfH fun y hy => h y (Y1 _ hy), YN, Nat.add_comm]
theorem Zhn : (Str.ofString "abcdefghijklmnopqrstuvwxyz").length = 26 := by decide +kernel
theorem Zlu {i : Int} (h0 : 0 <= i) (h1 : i < 26) : ∃ c, atI (Str.ofString "abcdefghijklmnopqrstuvwxyz").cps.toList i = some c := by
 obtain ⟨k, rfl⟩ : ∃ k : Nat, i = (k : Int) := ⟨i.toNat, by omega⟩
 have hl : (Str.ofString "abcdefghijklmnopqrstuvwxyz").cps.toList.length = 26 := by decide +kernel
 have hk : k < (Str.ofString "abcdefghijklmnopqrstuvwxyz").cps.toList.length := by omega
 exact ⟨_, ZE (Yc hk)⟩
def ZqF (H0 : Hp) (c m : Int) (p : Addr) (i : Nat) (σ : St) (H : Hp) : Prop := ∃ (r : Int) (o : Option V) (ss : List Str), σ = [some (.int c), some (.int m), some (.str (Str.ofString "abcdefghijklmnopqrstuvwxyz")), some (.ref p), some (.int r), o, none, none, none, none, none] /\ Same H0 H /\ H p = some (.lst (ss.map V.str)) /\ ss.length = i /\ ZpU ss
def Zqp (H0 : Hp) (c m : Int) (k : Nat) (p pn : Addr) (ss : List Str) (i : Nat) (σ : St) (H : Hp) : Prop := ∃ (r a0 : Int) (o1 o2 o3 : Option V) (ns : List Str), σ = [some (.int c), some (.int m), some (.str (Str.ofString "abcdefghijklmnopqrstuvwxyz")), some (.ref p), some (.int r), o1, some (.int (k : Int)), some (.int a0), some (.ref pn), o2, o3] /\
 Same H0 H /\ H p = some (.lst (ss.map V.str)) /\ H pn = some (.lst (ns.map V.str)) /\ ns.length = i
theorem ZjW (F : Fun K "_law_names_by" "_law_names_by" ZaH f fd) (n_range : mg "range" = none) (n_len : mg "len" = none) (n_list : mg "list" = none) : FnOk P w K mg base Zw 1 f fd ["_law_cell", "_law_many"] ZdQ := by
 refine JL F sc_law_names_by (fun vs H Q E h => ?_) (fun cdv A outer s H vs Q E hr h => ?_)
 ·obtain ⟨c, m, rfl, _⟩ := h; rfl
 obtain ⟨c, m, rfl, hm0, hm1, q⟩ := h
 refine ⟨_, (Zd (Zo 2 sc_law_names_by.nd ZdS)
   (Zd (Zo 3 sc_law_names_by.nd (JQ Za))
   (Zd (Zo 4 sc_law_names_by.nd (JC (Ze 0) Zc))
   (Zd (ZY Ys (Zch rfl n_range (Zh (Jf Zc (ZT (Ze 0) Zc)) Za)) (Zp 5 sc_law_names_by.nd) (Zd (Z6 (Zdq (Ze 3) (Zh (ZoE (Ze 2) (ZT (Ze 4) Zc)) Za)))
   (Zg (Zo 4 sc_law_names_by.nd (JC (Ze 4) Zc)))))
   (Zd (Zo 6 sc_law_names_by.nd (ZT (JC (Ze 0) Zc) (Jp rfl n_len (Zh (Ze 3) Za))))
   (Zd (Zo 7 sc_law_names_by.nd (ZnZ (Ze 2) (Zh (Ju (Ze 3) (Ze 6)) Za)))
   (Zd (Zo 8 sc_law_names_by.nd (JQ Za))
   (Zd (ZY Ys (Zch rfl n_range (Zh (Ze 1) Za)) (Zp 5 sc_law_names_by.nd) (Zd (Zo 9 sc_law_names_by.nd (Zc5 rfl n_list (Zh (Ze 3) Za)))
   (Zd (ZkY (ZoE (Ze 2) (ZT (Ze 7) Zc)) (Zh2 (Ze 9) (Ze 6)))
   (Zd (Zo 7 sc_law_names_by.nd (Jf (Ze 7) (Ju (JQ (Zh Zc (Zh Zc Za))) (ZT (JC (Ze 0) Zc) Zc))))
   (Zd (Zo 10 sc_law_names_by.nd (ZT (Jc (Ze 5) (ZT (JC (Ze 0) Zc) Zc)) (JK Zc (Jp rfl n_len (Zh (Ze 3) Za)))))
   (Zg (Z6 (Zdq (Ze 8) (Zh (ZnT (Zoy ZdS (Zh (Ze 9) Za)) (Zo0 ZdS (Ze 10))) Za)))))))))
   (Zg (Zs (Ze 8))))))))))), ?_⟩
 rw [show Zu ["_law_cell", "_law_many", "_law_some", "_law_word", "_law_rest", "_law_k", "_law_spot", "_law_at", "_law_names", "_law_made", "_law_more"] [.int c, .int m] = [some (.int c), some (.int m), none, none, none, none, none, none, none, none, none] from rfl]
 walk_at "rd"
 simp only [Zbp]
 walk_at "rd"
 intro p H1 hp s1 e1
 have hc8 : 0 <= c % 8 /\ c % 8 < 8 := ⟨by omega, by omega⟩
 refine ⟨by omega, by omega, ?_⟩
 refine ZcH (ZqF H c m p) ⟨c / 64, none, [], rfl, s1, e1, rfl, fun z hz => by cases hz⟩ (fun i σ H2 hi hP => ?_) (fun σ H2 hP => ?_)
 ·obtain ⟨r, o, ss, rfl, s2, e2, hl, h1⟩ := hP
  obtain ⟨ch, hch⟩ := Zlu (i := r % 26) (by omega) (by omega)
  walk_at "rd"
  simp only [e2]
  walk_at "rd"
  refine ⟨by rw [Zhn]; decide, ch, hch, by simp; omega, _, _, ss ++ [⟨#[ch]⟩], rfl, Zr hp s2, by rw [upd_same]; simp, by simp [hl], fun z hz => ?_⟩
  rcases Yx.mp hz with z1 | z1
  ·exact h1 z z1
  ·rw [YH.mp z1]; rfl
 ·obtain ⟨r, o, ss, rfl, s2, e2, hl, h1⟩ := hP
  walk_at "rd"
  simp only [e2]
  walk_at "rd"
  have hl2 : (ss.length : Int) = 1 + c % 8 := by omega
  rw [Yi]
  have hpos : 0 < (ss.length : Int) := by omega
  have g0 := Y6 (c / 8) (b := (ss.length : Int)) (by omega)
  have g1 := Vh (c / 8) hpos
  obtain ⟨k, ek⟩ : ∃ k : Nat, c / 8 % (ss.length : Int) = (k : Int) := ⟨(c / 8 % (ss.length : Int)).toNat, by omega⟩
  rw [ek]
  have hk : k < ss.length := by omega
  refine ⟨hpos, V.str ss[k], ZE (by rw [Yh, Yc hk]; rfl), _, rfl, fun pn H3 hpn s3 e3 => ?_⟩
  generalize Txt.find _ _ = at0
  have hne : p ≠ pn := Zk e2 hpn
  simp only [Zbp]
  walk_at "rd"
  refine ⟨by omega, by omega, ?_⟩
  refine ZcH (Zqp H c m k p pn ss) ⟨_, at0, _, _, _, [], rfl, s2.trans s3, s3 _ _ e2, e3, rfl⟩ (fun i σ H4 hi hP => ?_) (fun σ H4 hP => ?_)
  ·obtain ⟨r, a0, o1, o2, o3, ns, rfl, s4, e4, e5, hns⟩ := hP
   obtain ⟨ch, hch⟩ := Zlu (i := a0 % 26) (by omega) (by omega)
   walk_at "rd"
   simp only [ZeM]
   walk_at "rd"
   refine ⟨_, .inl (.of e4), fun pm H5 hpm s5 e6 => ?_⟩
   have hpm2 : pm ≠ p := fun z => by rw [z, e4] at hpm; cases hpm
   have hpm3 : pm ≠ pn := fun z => by rw [z, e5] at hpm; cases hpm
   refine ⟨by rw [Zhn]; decide, ch, hch, _, e6, k, ZdX (by simpa using hk), fun pl H6 hpl s6 e7 => ⟨_, e7, ?_⟩⟩
   have hmap : (ss.map V.str).set k (V.str ⟨#[ch]⟩) = (ss.set k ⟨#[ch]⟩).map V.str := by rw [List.map_set]
   rw [hmap] at s6 hpl
   have h1' : ZpU (ss.set k ⟨#[ch]⟩) := fun z hz => by
    rcases List.mem_or_eq_of_mem_set hz with z1 | z1
    ·exact h1 z z1
    ·rw [z1]; rfl
   have hsum := ZfH h1'
   have hsl : (ss.set k ⟨#[ch]⟩).length = ss.length := List.length_set
   have kp : ∀ b o, b ≠ pm -> H5 b = some o -> H6 b = some o := fun b o hb e => s6 _ _ (by rw [Zf hb]; exact e)
   have e8 : H6 pm = some (.lst ((ss.set k ⟨#[ch]⟩).map V.str)) := s6 _ _ upd_same
   have e9 : H6 p = some (.lst (ss.map V.str)) := kp _ _ (Ne.symm hpm2) (s5 _ _ e4)
   have e10 : H6 pn = some (.lst (ns.map V.str)) := kp _ _ (Ne.symm hpm3) (s5 _ _ e5)
   obtain ⟨v, hv, hvm⟩ := ZlO (xs := [V.int 1, V.int 25]) (i := c / 512 % 2) (by omega) (by show c / 512 % 2 < 2; omega)
   have hvi : ∃ x, v = V.int x := by
    simp only [List.mem_cons, List.not_mem_nil, or_false] at hvm
    rcases hvm with rfl | rfl
    ·exact ⟨_, rfl⟩
    ·exact ⟨_, rfl⟩
   obtain ⟨x, rfl⟩ := hvi
   refine ⟨_, hv, x, rfl, CMul.ok (.inr ⟨by omega, by omega⟩), _, .inl e9, by rw [List.length_map]; omega, ⟨_, e10⟩, _, e8, by decide, by rw [hsum, hsl]; omega, by decide, ?_, _, e10, by rw [List.length_map]; omega, _, _, _, _, _, ns ++ [_], rfl, Zr (s2.free hpn) ?_, by rw [Zf hne]; exact e9, by rw [upd_same, List.map_append]; rfl, by simp [hns]⟩
   ·refine Yj (Nat.add_le_add (ZjL _ _) (Txt.slice_le _ _ _)) ?_
    rw [hsum, hsl]
    rw [show (Str.ofString "").length = 0 from rfl, show (Str.ofString "qqqqqqq").length = 7 by decide +kernel, Nat.mul_zero, Nat.add_zero]
    exact Yj (show ss.length + 7 <= 1000 by omega) (by decide)
   ·exact fun b o e => kp _ _ (Zk (s4 _ _ e) hpm) (s5 _ _ (s4 _ _ e))
  ·obtain ⟨r, a0, o1, o2, o3, ns, rfl, s4, e4, e5, hns⟩ := hP
   walk_at "rd"
   exact q pn H4 ns (s2.free hpn) s4 e5 (by omega)
end
section
variable {P : Program} {w : World} {K : PySem.W.Frag} {mg : Str -> Option Value} {base : Heap} {f : Addr} {fd : FuncData} {CT CNP : Addr}
def HomesV (kvs : List (ZA × V)) (n : Nat) : Prop := ∀ kv ∈ kvs, ∃ (z : Str) (h : Nat), kv = (Sum.inr z, .int (h : Int)) /\ h <= n
theorem HomesV.put {kvs : List (ZA × V)} {n : Nat} (h : HomesV kvs n) {z : Str} {k : Nat} (hk : k <= n) : HomesV (Je kvs (Sum.inr z) (.int (k : Int))) n := by
 unfold Je
 split
 ·intro kv hkv
  obtain ⟨kv', h1, rfl⟩ := Yl.mp hkv
  split
  ·rename_i e
   exact ⟨z, k, by rw [e], hk⟩
  ·exact h _ h1
 ·intro kv hkv
  rcases Yx.mp hkv with h1 | h1
  ·exact h _ h1
  ·rw [YH.mp h1]
   exact ⟨z, k, rfl, hk⟩
theorem ZiR {kvs : List (ZA × V)} (h : (kvs.map (·.1)).Nodup) (k : ZA) (v : V) : ((Je kvs k v).map (·.1)).Nodup := by
 unfold Je
 split
 ·rw [Yw]
  have : ((fun kv : ZA × V => kv.1) ∘ fun kv => if kv.1 = k then (kv.1, v) else kv) = fun kv => kv.1 := by
   funext kv
   show (if kv.1 = k then (kv.1, v) else kv).1 = kv.1
   split <;> rfl
  rw [this]
  exact h
 ·rename_i c
  rw [YY]
  refine List.nodup_append.mpr ⟨h, by simp, fun x hx y hy => ?_⟩
  simp only [List.map_cons, List.map_nil, List.mem_singleton] at hy
  subst hy
  intro e
  subst e
  obtain ⟨kv, h1, h2⟩ := Yl.mp hx
  exact c (List.any_eq_true.mpr ⟨kv, h1, by rw [h2]; simp⟩)
end
section
variable {P : Program} {w : World} {K : PySem.W.Frag} {mg : Str -> Option Value} {base : Heap} {f : Addr} {fd : FuncData} {CT CNP : Addr}
def Zep (K : PySem.W.Frag) : Sp := fun vs H Q _ => ∃ (a : Addr) (ns : List Int) (n : Nat) (most : Int), vs = [.ref a, .int ((n : Int) + 1), .int most] /\ SqL K H a (ns.map V.int) /\ 0 <= most /\ most < 90 /\
 ∀ p H' kvs o, H p = none -> Same H H' -> H' p = some (.frz o (.dK kvs)) -> HomesV kvs n -> (kvs.map (·.1)).Nodup -> (kvs.length : Int) <= most -> Q (.ref p) H'
def Phm (H0 : Hp) (a p pn : Addr) (n : Nat) (most hd : Int) (ss : List Str) (nums : List Int) (pq : Addr) (i : Nat) (σ : St) (H : Hp) : Prop := ∃ (o1 o2 : Option V) (kvs : List (ZA × V)), σ = [some (.ref a), some (.int ((n : Int) + 1)), some (.int most), some (.int hd), some (.ref pn), some (.ref p), o1, o2] /\ Same H0 H /\ H p = some (.dK kvs) /\ HomesV kvs n /\ (kvs.map (·.1)).Nodup /\ kvs.length <= i /\
 H pn = some (.lst (ss.map V.str)) /\ H pq = some (.lst (nums.map V.int))
theorem ZhL (F : Fun K "_law_homes_by" "_law_homes_by" ZaD f fd) (n_zip : mg "zip" = none) (n_len : mg "len" = none) (F_law_cell_at : Fn P w K mg base Zw 1 "_law_cell_at" ["_law_script", "_law_k"] (ZaQ K)) (F_law_names_by : Fn P w K mg base Zw 1 "_law_names_by" ["_law_cell", "_law_many"] ZdQ)
  (F_law_numbers : Fn P w K mg base Zw 2 "_law_numbers" ["_law_cell", "_law_many", "_law_most"] Zam) : FnOk P w K mg base Zw 3 f fd ["_law_script", "_law_many", "_law_most"] (Zep K) := by
 refine JL F sc_law_homes_by (fun vs H Q E h => ?_) (fun cdv A outer s H vs Q E hr h => ?_)
 ·obtain ⟨a, ns, n, most, rfl, _⟩ := h; rfl
 obtain ⟨a, ns, n, most, rfl, hS, hm0, hm1, q⟩ := h
 refine ⟨_, (Zd (Zo 3 sc_law_homes_by.nd (Zy F_law_cell_at hr (by decide) rfl (Zh (Ze 0) (Zh Zc Za))))
   (Zd (Zo 4 sc_law_homes_by.nd (Zy F_law_names_by hr (by decide) rfl (Zh (ZeI (Ze 3) (Jf (Ze 2) Zc)) (Zh (ZT (Ze 3) (Jf (Ze 2) Zc)) Za))))
   (Zd (Zo 5 sc_law_homes_by.nd Zi0)
   (Zd (ZY Ys (ZoJ rfl n_zip (Zh (Ze 4) (Zh (Zy F_law_numbers hr (by decide) rfl (Zh (Zy F_law_cell_at hr (by decide) rfl (Zh (Ze 0) (Zh Zc Za))) (Zh (Jp rfl n_len (Zh (Ze 4) Za)) (Zh Zc Za)))) Za))) (Zff (n := 2) (ZV (Zp 6 sc_law_homes_by.nd) (ZV (Zp 7 sc_law_homes_by.nd) Zcb))) (Zg (Zc9 (Jh hr) (Ze 5) (Ze 6) (ZT (Ze 7) (Ze 1)))))
   (ZpS 5 (Zg (Zs (Ze 5)))))))), ?_⟩
 rw [show Zu ["_law_script", "_law_many", "_law_most", "_law_head", "_law_names", "_law_homes", "_law_name", "_law_number"] [.ref a, .int ((n : Int) + 1), .int most] = [some (.ref a), some (.int ((n : Int) + 1)), some (.int most), none, none, none, none, none] from rfl]
 walk_at "rd"
 simp only [ZaQ, ZdQ, Zam, ZfP]
 walk_at "rd"
 have g0 := Y6 (cellOf ns 4) (b := most + 1) (by omega)
 have g1 := Vh (cellOf ns 4) (b := most + 1) (by omega)
 refine ⟨ns, 4, rfl, hS, by omega, Yy (Nat.log2_le_self _) (by omega), by omega, g0, by omega, fun pn H1 ss hpn s1 e1 hsl p H2 hp s2 e2 => ?_⟩
 refine ⟨a, ns, 5, rfl, (s1.trans s2).seq hS, _, .inl (s2 _ _ e1), _, _, _, rfl, by omega, by rw [Yi]; omega, by decide, by decide, fun pq H3 nums hpq s3 e3 hnl hnb => ?_⟩
 rw [Yi] at hnl
 have hpp : p ≠ pn := fun z => by rw [z, e1] at hp; cases hp
 have hpqp : pq ≠ p := fun z => by rw [z, e2] at hpq; cases hpq
 have hfr : H p = none := s1.free hp
 refine Zhl (xs := ss.map V.str) (ys := nums.map V.int) (by simp; omega) (Phm H a p pn n most (cellOf ns 4) ss nums pq) ⟨_, _, [], rfl, s1.trans (s2.trans s3), s3 _ _ e2, (fun kv hkv => by cases hkv), List.nodup_nil, Nat.le_refl _, (s2.trans s3) _ _ e1, e3⟩
  (fun i σ H4 _ ⟨_, _, _, _, _, _, _, _, _, g1, g2⟩ => ⟨.of g1, .of g2⟩) (fun i x y σ H4 pt H5 hx hy hP hpt s5 e5 => ?_) (fun σ H4 hP => ?_)
 ·obtain ⟨o1, o2, kvs, rfl, s4, e4, hH, hN, hkl, g3, g4⟩ := hP
  obtain ⟨z, rfl⟩ : ∃ z, x = V.str z := by rw [Yh] at hx; cases h : ss[i]? with | none => rw [h] at hx; cases hx | some z => rw [h] at hx; cases hx; exact ⟨z, rfl⟩
  obtain ⟨v, rfl⟩ : ∃ v, y = V.int v := by rw [Yh] at hy; cases h : nums[i]? with | none => rw [h] at hy; cases hy | some z => rw [h] at hy; cases hy; exact ⟨z, rfl⟩
  have hi : i < ss.length := by have := (List.getElem?_eq_some_iff.mp hx).1; simpa using this
  walk_at "rd"
  have w0 := Y6 v (b := (n : Int) + 1) (by omega)
  have w1 := Vh v (b := (n : Int) + 1) (by omega)
  obtain ⟨k, ek⟩ : ∃ k : Nat, v % ((n : Int) + 1) = (k : Int) := ⟨(v % ((n : Int) + 1)).toNat, by omega⟩
  refine ⟨_, e5, rfl, _, _, rfl, _, _, rfl, rfl, v, rfl, by omega, kvs, s5 _ _ e4, .inr z, rfl, by omega, _, _, Je kvs (.inr z) (.int (v % ((n : Int) + 1))), rfl, Zr hfr (s4.trans s5), upd_same, ?_, ZiR hN _ _, Yj (Zbb _ _ _) (by omega), by rw [Zf (Ne.symm hpp)]; exact s5 _ _ g3, by rw [Zf hpqp]; exact s5 _ _ g4⟩
  rw [ek]
  exact hH.put (by omega)
 ·obtain ⟨o1, o2, kvs, rfl, s4, e4, hH, hN, hkl, g3, g4⟩ := hP
  refine ⟨p, kvs, rfl, e4, fun ob => ?_⟩
  walk_at "rd"
  exact q p _ kvs ob hfr (Zr hfr s4) upd_same hH hN (by rw [Yi] at hkl; omega)
end
def Zbd (kvs : List (ZA × V)) (ss : List Str) (hs : List Nat) (n : Nat) : Prop := ss.length = hs.length /\ ∀ (i : Nat) z h, ss[i]? = some z -> hs[i]? = some h -> Jx kvs (Sum.inr z) = some (.int (h : Int)) /\ h <= n
def Z3 (rs : List (Nat × Rat)) (hs : List Nat) (k : Nat) : Prop := ∃ h ∈ hs, ∃ w, WayR rs h w /\ k ∈ w
theorem Zbt {H H' : Hp} {a : Addr} {u : HO} (h : Rd H a u) (s : Same H H') : Rd H' a u := h.elim (fun e => .inl (s _ _ e)) fun ⟨o, e⟩ => .inr ⟨o, s _ _ e⟩
theorem ZiB {rs : List (Nat × Rat)} {hs : List Nat} {i h : Nat} {w : List Nat} (hh : hs[i]? = some h) (hw : WayR rs h w) (k : Nat) : Z3 rs (hs.take (i + 1)) k ↔ Z3 rs (hs.take i) k \/ k ∈ w := by
 unfold Z3
 rw [Yp, hh]
 constructor
 ·rintro ⟨h', hm, w', hw', hk⟩
  rcases Yx.mp hm with hm | hm
  ·exact .inl ⟨h', hm, w', hw', hk⟩
  ·have e : h' = h := by simpa using hm
   subst e
   rw [hw.uniq hw'] at hk
   exact .inr hk
 ·rintro (⟨h', hm, w', hw', hk⟩ | hk)
  ·exact ⟨h', VF _ hm, w', hw', hk⟩
  ·exact ⟨h, List.mem_append_right _ (by simp), w, hw, hk⟩
section
variable {P : Program} {w : World} {K : PySem.W.Frag} {mg : Str -> Option Value} {base : Heap} {f : Addr} {fd : FuncData} {CT CNP : Addr}
def Zcu (C : Addr) : Sp := fun vs H Q _ => ∃ (x : V) (rs : List (Nat × Rat)) (d g : Addr) (kvs : List (ZA × V)) (ss : List Str) (hs : List Nat), vs = [x, .ref d, .ref g] /\ TreeV C H x rs /\ Rd H d (.dK kvs) /\ H g = some (.lst (ss.map V.str)) /\ Zbd kvs ss hs rs.length /\ rs.length <= 40 /\ ss.length < 50 /\ Zbj rs /\
 ∀ p H' (ks : List Nat), H p = none -> Same H H' -> H' p = some (.lst (ZF ks)) -> ks.Pairwise (· < ·) -> (∀ k, k ∈ ks ↔ Z3 rs hs k) -> Q (.ref p) H'
def Pnd (H0 : Hp) (x : V) (d g l : Addr) (rs : List (Nat × Rat)) (hs : List Nat) (i : Nat) (σ : St) (H : Hp) : Prop := ∃ (o : Option V) (acc : List Nat), σ = [some x, some (.ref d), some (.ref g), some (.ref l), o] /\ Same H0 H /\ H l = some (.lst (ZF acc)) /\ acc.length <= 40 * i /\ ∀ k, k ∈ acc ↔ Z3 rs (hs.take i) k
theorem ZiU (F : Fun K "needed" "needed" ZdO f fd) (n_sorted : mg "sorted" = none) (n_set : mg "set" = none) (M_way : Mth P w K mg base Zw 3 CT "way" ["self", "k"] (fun vs H Q _ => ZeW CT CNP vs H Q E0)) : FnOk P w K mg base Zw 4 f fd ["tree", "homes", "group"] (Zcu CT) := by
 refine JL F sc_needed (fun vs H Q E h => ?_) (fun cdv A outer s H vs Q E hr h => ?_)
 ·obtain ⟨x, rs, d, g, kvs, ss, hs, rfl, _⟩ := h; rfl
 obtain ⟨x, rs, d, g, kvs, ss, hs, rfl, hT, hd, hg, hH, hrl, hsl, hO, q⟩ := h
 refine ⟨_, (Zd (Zo 3 sc_needed.nd (JQ Za))
   (Zd (ZY Ys (Z5 (Ze 2)) (Zp 4 sc_needed.nd) (Zg (Z6 (ZpF (Ze 3) (Zh (Za8 M_way hr (by decide) (Ze 0) (Zh (Jw (Jh hr) (Ze 1) (Ze 4)) Za)) Za)))))
   (Zg (Zs (ZhU rfl n_sorted rfl n_set (Zh (Ze 3) Za)))))), ?_⟩
 rw [show Zu ["tree", "homes", "group", "roads", "name"] [x, .ref d, .ref g] = [some (x), some (.ref d), some (.ref g), none, none] from rfl]
 walk_at "rd"
 simp only [Zao]
 walk_at "rd"
 intro l H1 hl s1 e1
 refine Zax (Pnd H x d g l rs hs) ⟨_, [], rfl, s1, e1, Nat.zero_le _, fun k => ⟨(fun z => by cases z), (fun ⟨h, hm, _⟩ => by simp at hm)⟩⟩ (fun i σ H' _ ⟨_, _, _, sm, _⟩ => .of (sm _ _ hg)) (fun i y σ H' hi hP => ?_) (fun σ H' hP => ?_)
 ·obtain ⟨o, acc, rfl, sm, e2, hal, hm⟩ := hP
  rw [Yh] at hi
  obtain ⟨z, hz, rfl⟩ : ∃ z, ss[i]? = some z /\ y = V.str z := by cases h : ss[i]? with | none => rw [h] at hi; cases hi | some z => rw [h] at hi; cases hi; exact ⟨z, rfl, rfl⟩
  have hi' : i < ss.length := (Yg.mp hz).1
  have hih : i < hs.length := by rw [<- hH.1]; exact hi'
  have hh := Yc hih
  obtain ⟨hv, hle⟩ := hH.2 i z _ hz hh
  obtain ⟨w0, hw0, hwl0⟩ := ZaT hO hle
  walk_at "rd"
  obtain ⟨xa, dx, la, wa, ls, ws, rfl, h1, _⟩ := id (hT.same sm)
  refine ⟨⟨_, e2⟩, xa, rfl, dx, _, h1, rfl, kvs, Zbt hd sm, .inr z, rfl, _, hv, .ref xa, rs, _, rfl, hT.same sm, fun p H2 k' w1 ek hp s2 e3 hw1 hwl1 => ?_, fun zz => absurd ⟨by omega, by omega⟩ zz⟩
  have ek' : hs[i] = k' := by omega
  subst ek'
  have ew := hw0.uniq hw1
  subst ew
  refine ⟨p, rfl, _, s2 _ _ e2, _, e3, ?_, _, acc ++ w1, rfl, Zr hl (sm.trans s2), by rw [upd_same]; simp [ZF], by simp; omega, fun k => ?_⟩
  ·exact Nat.le_trans (show _ <= 10000 by simp [ZF]; omega) (by decide)
  ·rw [ZiB hh hw0 k, Yx, hm k]
 ·obtain ⟨o, acc, rfl, sm, e2, hal, hm⟩ := hP
  walk_at "rd"
  have hss : ss.length = hs.length := hH.1
  rw [Yi, hss, YC] at hm
  have hbd : ∀ k ∈ acc, 1 <= k /\ k <= rs.length := fun k hk => by
   obtain ⟨h, _, w0, hw, hk2⟩ := (hm k).mp hk
   exact hw.mem k hk2
  refine ⟨acc.map Int.ofNat, by rw [e2]; simp [ZF], by simp at hal ⊢; omega, fun k hk => ?_, fun p H2 ks hp s2 e3 hpw hmem => ?_⟩
  ·obtain ⟨k', hk', rfl⟩ := Yl.mp hk
   have := hbd k' hk'
   show 0 <= (k' : Int) /\ (k' : Int) < 60
   omega
  ·have hnat : ∀ k ∈ ks, 0 <= k := fun k hk => by
    obtain ⟨k', _, rfl⟩ := Yl.mp ((hmem k).mp hk)
    exact Int.natCast_nonneg k'
   have eks : (ks.map Int.toNat).map Int.ofNat = ks := by
    rw [Yw]
    conv => rhs; rw [<- List.map_id ks]
    exact YL fun k hk => Int.toNat_of_nonneg (hnat k hk)
   refine q p H2 (ks.map Int.toNat) (sm.free hp) (sm.trans s2) ?_ ?_ fun k => ?_
   ·rw [e3]
    conv => lhs; rw [<- eks]
    simp [ZF]
   ·rw [Vx]
    exact hpw.imp_of_mem fun ha hb h => by have := hnat _ ha; have := hnat _ hb; omega
   ·rw [<- hm k]
    constructor
    ·intro h
     obtain ⟨k', hk', rfl⟩ := Yl.mp h
     obtain ⟨k2, hk2, e⟩ := Yl.mp ((hmem k').mp hk')
     have : k'.toNat = k2 := by rw [<- e]; rfl
     rw [this]
     exact hk2
    ·intro h
     exact Yl.mpr ⟨(k : Int), (hmem _).mpr (Yl.mpr ⟨k, h, rfl⟩), rfl⟩
end
section
variable {P : Program} {w : World} {K : PySem.W.Frag} {mg : Str -> Option Value} {base : Heap} {f : Addr} {fd : FuncData} {CT CNP : Addr}
def Zm (rs : List (Nat × Rat)) (k : Nat) : Rat := ((rs[k - 1]?).map (·.2)).getD 0
def Zpc (rs : List (Nat × Rat)) (ks : List Nat) : Rat := Zjb (ks.map (Zm rs)) ks.length
theorem RatsV.keep {H H' : Hp} {xs : List V} {qs : List Rat} (h : RatsV H xs qs) (s : ∀ b ys, H b = some (.tup ys) -> H' b = some (.tup ys)) : RatsV H' xs qs := ⟨h.1, fun i x q h1 h2 => (h.2 i x q h1 h2).keep s⟩
theorem RatsV.snoc {H : Hp} {xs : List V} {qs : List Rat} {x : V} {q : Rat} (h : RatsV H xs qs) (hx : RatV H x q) : RatsV H (xs ++ [x]) (qs ++ [q]) := ⟨by simp [h.1], fun i y r h1 h2 => by
 by_cases c : i < xs.length
 ·rw [Y8 c] at h1
  rw [Y8 (by rw [<- h.1]; exact c)] at h2
  exact h.2 i y r h1 h2
 ·have hi : i = xs.length := by have := (List.getElem?_eq_some_iff.mp h1).1; simp at this; omega
  subst hi
  rw [YZ (Yd _)] at h1
  rw [h.1, YZ (Yd _)] at h2
  simp at h1 h2
  subst h1
  subst h2
  exact hx⟩
theorem Zi4 {qs : List Rat} {n : Nat} (hn : qs.length = n) (h : ∀ (i : Nat) q, qs[i]? = some q -> SzQ 110 q) : ∀ i, i <= n -> SzQ (111 * i + 1) (Zjb qs i) := by
 intro i
 induction i with
 | zero => intro _; exact ZdJ (by decide)
 | succ i ih =>
  intro hi
  have e := Yc (show i < qs.length by omega)
  rw [ZcN e]
  exact (ih (by omega)).add (h i _ e) (by omega)
theorem Zlc {ks : List Nat} {n : Nat} (h : ks.Pairwise (· < ·)) (hb : ∀ k ∈ ks, 1 <= k /\ k <= n) : ks.length <= n := by
 have hs : ks ⊆ List.range' 1 n := fun k hk => by
  obtain ⟨h1, h2⟩ := hb k hk
  exact VL.mpr ⟨h1, by omega⟩
 have hn : ks.Nodup := h.imp fun h e => by rw [e] at h; exact YR _ h
 have := VW hn hs
 simpa using this
def ZdT (C : Addr) : Sp := fun vs H Q _ => ∃ (x : V) (rs : List (Nat × Rat)) (d g : Addr) (kvs : List (ZA × V)) (ss : List Str) (hs : List Nat), vs = [x, .ref d, .ref g] /\ TreeV C H x rs /\ Rd H d (.dK kvs) /\ H g = some (.lst (ss.map V.str)) /\ Zbd kvs ss hs rs.length /\ rs.length <= 20 /\ ss.length < 50 /\ Zbj rs /\ (∀ r ∈ rs, SzQ 110 r.2) /\
 ∀ r H' (ks : List Nat), Same H H' -> ks.Pairwise (· < ·) -> (∀ k, k ∈ ks ↔ Z3 rs hs k) -> RatV H' r (Zpc rs ks) -> SzQ 2300 (Zpc rs ks) -> Q r H'
theorem Zmw (F : Fun K "cost" "cost" Zig f fd) (F_total_of : Fn P w K mg base Zw 4 "total_of" ["some"] (ZbX K)) (F_needed : Fn P w K mg base Zw 4 "needed" ["tree", "homes", "group"] (Zcu CT))
  (M_price : Mth P w K mg base Zw 4 CT "price" ["self", "k"] (fun vs H Q _ => ZcR CT CNP vs H Q E0)) : FnOk P w K mg base Zw 5 f fd ["tree", "homes", "group"] (ZdT CT) := by
 refine JL F ZmY (fun vs H Q E h => ?_) (fun cdv A outer s H vs Q E hr h => ?_)
 ·obtain ⟨x, rs, d, g, kvs, ss, hs, rfl, _⟩ := h; rfl
 obtain ⟨x, rs, d, g, kvs, ss, hs, rfl, hT, hd, hg, hH, hrl, hsl, hO, hz, q⟩ := h
 refine ⟨_, (Zg (Zs (Zy F_total_of hr (by decide) rfl (Zh (ZfY (Zkv ["k"] [0] ["tree"]) (Z5 (Zy F_needed hr (by decide) rfl (Zh (Ze 0) (Zh (Ze 1) (Zh (Ze 2) Za))))) (by exact fun s H fp => (Zp 0 (show List.Nodup (["k", "tree"] : List Str) from by decide +kernel))) (by exact fun s H fp => (Za8 M_price hr (by decide) (Ze 1) (Zh (Ze 0) Za)))) Za)))), ?_⟩
 rw [show Zu ["tree", "homes", "group"] [x, .ref d, .ref g] = [some (x), some (.ref d), some (.ref g)] from rfl]
 walk_at "rd"
 simp only [JP, ZcV, cxK]
 walk_at "rd"
 refine ⟨x, rs, d, g, kvs, ss, hs, rfl, hT, hd, hg, hH, by omega, hsl, hO, fun p H1 ks hp s1 e1 hpw hmem => ⟨p, rfl, ⟨_, .of e1⟩, ?_⟩⟩
 rw [show Ji [some x, some (V.ref d), some (V.ref g)] [0] = [some x] from rfl]
 have hbd : ∀ k ∈ ks, 1 <= k /\ k <= rs.length := fun k hk => by
  obtain ⟨h, _, w0, hw, hk2⟩ := (hmem k).mp hk
  exact hw.mem k hk2
 have hkl := Zlc hpw hbd
 unfold Zm8
 refine ZbT (xs := ZF ks) (fun acc i ys H' => Same H1 H' /\ H' acc = some (.lst ys) /\ RatsV H' ys ((ks.take i).map (Zm rs)) /\ i <= ks.length)
  (fun acc H2 hn sm e => ⟨sm, e, by simpa using ZkP, Nat.zero_le _⟩) (fun acc i ys H2 hn ⟨sm, e, hR, hi⟩ => ⟨e, by rw [hR.1]; simp; omega, .of (sm _ _ e1)⟩) (fun acc i y ys H2 os hn hi hP ol => ?_) (fun acc ys H2 hn hP => ?_)
 ·obtain ⟨sm, e, hR, _⟩ := hP
  obtain ⟨o, rfl⟩ : ∃ o, os = [o] := by match os, ol with | [o], _ => exact ⟨o, rfl⟩
  have hil : i < ks.length := by have := (List.getElem?_eq_some_iff.mp hi).1; simpa [ZF] using this
  have hk := Yc hil
  have hy : y = V.int (ks[i] : Int) := by
   unfold ZF at hi
   rw [Yh, hk] at hi
   cases hi
   rfl
  subst hy
  obtain ⟨k1, k2⟩ := hbd _ (YI hil)
  have hT2 := hT.same (s1.trans sm)
  obtain ⟨xa, dx, la, wa, ls, ws, rfl, h1, _⟩ := id hT2
  walk_at "rd"
  refine ⟨[some (.int (ks[i] : Int))], rfl, rfl, ?_⟩
  simp only [Zlf]
  walk_at "rd"
  refine ⟨dx, _, h1, rfl, .ref xa, rs, _, rfl, hT2, fun k' r y ek hr2 hy => ⟨e, Zr hn sm, upd_same, ?_, hil⟩, fun zz => absurd ⟨by omega, by omega⟩ zz⟩
  have ek' : ks[i] - 1 = k' := by omega
  have kp : ∀ b zs, H2 b = some (.tup zs) -> upd H2 acc (.lst (ys ++ [y])) b = some (.tup zs) := fun b zs e' => by rw [Zf (ZZ e' e (by intro z; cases z))]; exact e'
  have hpr : Zm rs ks[i] = r.2 := by unfold Zm; rw [ek', hr2]; rfl
  rw [Yp, hk, YY]
  refine (hR.keep kp).snoc ?_
  show RatV _ y (Zm rs ks[i])
  rw [hpr]
  exact hy.keep kp
 ·obtain ⟨sm, e, hR, _⟩ := hP
  have hnl : (ZF ks).length = ks.length := by simp [ZF]
  rw [hnl, YC] at hR
  have hq : ∀ (i : Nat) q, (ks.map (Zm rs))[i]? = some q -> SzQ 110 q := fun i q hq => by
   rw [Yh] at hq
   cases hk : ks[i]? with
   | none => rw [hk] at hq; cases hq
   | some k =>
    rw [hk] at hq
    cases hq
    obtain ⟨k1, k2⟩ := hbd k (Yo hk)
    have hlt : k - 1 < rs.length := by omega
    show SzQ 110 (Zm rs k)
    unfold Zm
    rw [Yc hlt]
    exact hz _ (YI hlt)
  have hps : ∀ i, i <= ks.length -> SzQ (111 * i + 1) (Zjb (ks.map (Zm rs)) i) := Zi4 (by simp) hq
  refine ⟨acc, ys, ks.map (Zm rs), rfl, .of e, hR, Zm9 hq (by rw [Yi]; omega), by rw [Yi]; omega, fun r H' s3 v => ?_⟩
  rw [Yi] at v
  exact q r H' ks (s1.trans (sm.trans s3)) hpw hmem v ((hps _ (Yd _)).mono (by omega))
end
section
variable {P : Program} {w : World} {K : PySem.W.Frag} {mg : Str -> Option Value} {base : Heap} {f : Addr} {fd : FuncData} {CT CNP : Addr}
theorem ZgE (F : Fun K "cost_of_all" "cost_of_all" ZaR f fd) (n_list : mg "list" = none) (F_cost : Fn P w K mg base Zw 5 "cost" ["tree", "homes", "group"] (ZdT CT)) : FnOk P w K mg base Zw 6 f fd ["tree", "homes"] (fun vs H Q E => ∃ (x : V) (d : Addr) (kvs : List (ZA × V)), vs = [x, .ref d] /\ Rd H d (.dK kvs) /\ ∀ g H', H g = none -> Same H H' -> H' g = some (.lst (kvs.map fun kv => kV kv.1)) -> ZdT CT [x, .ref d, .ref g] H' Q E) := by
 refine JL F ZcT (fun vs H Q E h => ?_) (fun cdv A outer s H vs Q E hr h => ?_)
 ·obtain ⟨x, d, kvs, rfl, _⟩ := h; rfl
 obtain ⟨x, d, kvs, rfl, hd, q⟩ := h
 refine ⟨_, (Zg (Zs (Zy F_cost hr (by decide) rfl (Zh (Ze 0) (Zh (Ze 1) (Zh (ZhB rfl n_list (Zh (Ze 1) Za)) Za)))))), ?_⟩
 rw [show Zu ["tree", "homes"] [x, .ref d] = [some (x), some (.ref d)] from rfl]
 walk_at "rd"
 exact ⟨d, kvs, rfl, hd, fun g H' hg s e => q g H' hg s e⟩
end
theorem ZR {rs : List (Nat × Rat)} {hs : List Nat} {k : Nat} (h : Z3 rs hs k) : 1 <= k /\ k <= rs.length := by
 obtain ⟨_, _, _, hw, hk⟩ := h
 exact hw.mem k hk
theorem Zna {z : Str} {ss : List Str} : inV (V.str z) (ss.map V.str) = decide (z ∈ ss) := by
 unfold inV
 rw [List.any_map]
 induction ss with
 | nil => simp
 | cons y ss ih =>
  rw [VT, ih]
  show ((y == z) || _) = _
  by_cases c : y = z
  ·subst c; simp
  ·have : (y == z) = false := by simpa using c
   rw [this, Bool.false_or]
   simp [Ne.symm c]
theorem Zir (ss : List Str) : (ss.map V.str).all JN = true := by
 rw [List.all_eq_true]
 intro x hx
 obtain ⟨z, _, rfl⟩ := Yl.mp hx
 rfl
theorem ZkI {kvs : List (ZA × V)} {n : Nat} {ss : List Str} (hk : ∀ z ∈ ss, ∃ k : Nat, Jx kvs (Sum.inr z) = some (.int (k : Int)) /\ k <= n) : ∃ hf : Str -> Nat, ∀ gs : List Str, (∀ z ∈ gs, z ∈ ss) -> Zbd kvs gs (gs.map hf) n := by
 classical
 refine ⟨fun z => if h : z ∈ ss then (hk z h).choose else 0, fun gs hg => ⟨by simp, fun i z h h1 h2 => ?_⟩⟩
 have hz := hg z (Yo h1)
 rw [Yh, h1] at h2
 simp only [Option.map_some, Option.some.injEq] at h2
 rw [dif_pos hz] at h2
 subst h2
 exact (hk z hz).choose_spec
theorem ZkQ {rs : List (Nat × Rat)} {hf : Str -> Nat} {gs : List Str} {k : Nat} : Z3 rs (gs.map hf) k ↔ ∃ z ∈ gs, ∃ w, WayR rs (hf z) w /\ k ∈ w := by
 unfold Z3
 constructor
 ·rintro ⟨h, hm, w⟩
  obtain ⟨z, hz, rfl⟩ := Yl.mp hm
  exact ⟨z, hz, w⟩
 ·rintro ⟨z, hz, w⟩
  exact ⟨_, Yl.mpr ⟨z, hz, rfl⟩, w⟩
def ZO (qs : List Rat) : Rat := qs.foldl (· + ·) 0
theorem ZhP (qs : List Rat) : ∀ a : Rat, qs.foldl (· + ·) a = a + qs.foldl (· + ·) 0 := by
 induction qs with
 | nil => intro a; exact (V6 a).symm
 | cons q qs ih =>
  intro a
  show qs.foldl (· + ·) (a + q) = a + qs.foldl (· + ·) (0 + q)
  rw [ih (a + q), ih (0 + q), Rat.zero_add, Vk]
theorem ZG (q : Rat) (qs : List Rat) : ZO (q :: qs) = q + ZO qs := by
 show qs.foldl (· + ·) (0 + q) = _
 rw [Rat.zero_add, ZhP]
 rfl
theorem Zct {qs ps : List Rat} (h : qs.Perm ps) : ZO qs = ZO ps := by
 induction h with
 | nil => rfl
 | cons x _ ih => rw [ZG, ZG, ih]
 | swap x y l => rw [ZG, ZG, ZG, ZG, <- Vk, <- Vk, Rat.add_comm x y]
 | trans _ _ ih1 ih2 => exact ih1.trans ih2
theorem Zg9 {acc : List Nat} {n : Nat} (h : acc.Nodup) (hb : ∀ k ∈ acc, 1 <= k /\ k <= n) : acc.length <= n := by
 have hs : acc ⊆ List.range' 1 n := fun k hk => by
  obtain ⟨h1, h2⟩ := hb k hk
  exact VL.mpr ⟨h1, by omega⟩
 have := VW h hs
 simpa using this
section
variable {P : Program} {w : World} {K : PySem.W.Frag} {mg : Str -> Option Value} {base : Heap} {f : Addr} {fd : FuncData}
def ZeV : Sp := fun vs H Q _ => ∃ (x y : V) (p q : Rat), vs = [x, y] /\ RatV H x p /\ RatV H y q /\ SzQ 3000 p /\ SzQ 3000 q /\ ∀ r H', Same H H' -> RatV H' r (p + q) -> Q r H'
theorem Zmx (F : Fun K "_law_add" "_law_add" ZcF f fd) (F_law_low : Fn P w K mg base Zw 1 "_law_low" ["_law_top", "_law_bottom"] Zbc) : FnOk P w K mg base Zw 2 f fd ["_law_one", "_law_other"] ZeV := by
 refine JL F Zgq (fun vs H Q E h => ?_) (fun cdv A outer s H vs Q E hr h => ?_)
 ·obtain ⟨x, y, p, t, rfl, _⟩ := h; rfl
 obtain ⟨x, y, p, t, rfl, ⟨a, rfl, ha⟩, ⟨b, rfl, hb⟩, z1, z2, q⟩ := h
 refine ⟨_, (Zg (Zs (Zy F_law_low hr (by decide) rfl (Zh (Jf (Jc (Zx (Ze 0) Zc) (Zx (Ze 1) Zc)) (Jc (Zx (Ze 1) Zc) (Zx (Ze 0) Zc))) (Zh (Jc (Zx (Ze 0) Zc) (Zx (Ze 1) Zc)) Za))))), ?_⟩
 rw [show Zu ["_law_one", "_law_other"] [.ref a, .ref b] = [some (.ref a), some (.ref b)] from rfl]
 walk_at "rd"
 simp only [ha, hb, Zbc]
 walk_at "rd"
 have hp := p.den_pos
 have ht := t.den_pos
 refine ⟨JJ z1.1 (ZP z2) (by decide), JJ z2.1 (ZP z1) (by decide), JJ (ZP z1) (ZP z2) (by decide), Big.of (Zaq (ZP z1) (ZP z2)) (by decide), Int.mul_pos (by omega) (by omega), fun r H' hs v => q r H' hs ?_⟩
 rw [Zc4]
 exact v
end
theorem Zeo {a : Addr} {o : Obj} {kvs : List (ZA × V)} {ss : List Str} {cp : St} {tt : TT} {H1 : Hp} {Q : VK} (r : Str -> Bool) (ha : H1 a = some (.frz o (.dK kvs))) (he : (kvs.map fun kv => kV kv.1) = ss.map V.str) (hl : ss.length < 1000) (ht : ∀ z ∈ ss, ∀ H' (k : Bool -> Hp -> Prop), Same H1 H' -> k (r z) H' -> tt (some (V.str z) :: cp) H' k)
  (q : ∀ p H', H1 p = none -> Same H1 H' -> H' p = some (.lst ((ss.filter r).map V.str)) -> Q (.ref p) H') : Zd1 1 cp (Itd a o kvs) (JA 0) tt (ZmD 0) H1 Q := by
 have hlen : kvs.length = ss.length := by have := congrArg List.length he; simpa using this
 refine ZfO (fun acc i ys H' => Same H1 H' /\ H' acc = some (.lst ys) /\ ys = ((ss.take i).filter r).map V.str /\ i <= ss.length)
  (fun acc H2 hn sm e => ⟨sm, e, by simp, Nat.zero_le _⟩) (fun acc i ys H2 ⟨sm, e, e2, hi⟩ => ⟨e, ?_, sm _ _ ha⟩) (fun acc i kv ys H2 os hn hi hP ol => ?_) (fun acc ys H2 hn hP => ?_)
 ·rw [e2, Yi]
  exact Yy (YW _ _) (by rw [YM]; omega)
 ·obtain ⟨sm, e, e2, _⟩ := hP
  obtain ⟨o', rfl⟩ : ∃ o', os = [o'] := by match os, ol with | [o'], _ => exact ⟨o', rfl⟩
  obtain ⟨z, hz, ek⟩ : ∃ z, ss[i]? = some z /\ kV kv.1 = V.str z := by
   have h1 := congrArg (·[i]?) he
   simp only [List.getElem?_map, hi, Option.map_some] at h1
   cases h : ss[i]? with
   | none => rw [h] at h1; cases h1
   | some z => rw [h] at h1; exact ⟨z, rfl, by simpa using h1⟩
  rw [ek]
  have hil := (Yg.mp hz).1
  refine ⟨[some (V.str z)], rfl, rfl, ht z (Yo hz) H2 _ sm ?_⟩
  have tk : (ss.take (i + 1)).filter r = (ss.take i).filter r ++ (if r z = true then [z] else []) := by
   rw [Yp, hz, VH]
   congr 1
   show [z].filter r = _
   by_cases c : r z = true
   ·rw [Yag c, if_pos c]; rfl
   ·rw [Yah c, if_neg c]; rfl
  refine JR (fun c => ⟨V.str z, rfl, e, Zr hn sm, upd_same, ?_, hil⟩) (fun c => ⟨sm, e, ?_, hil⟩)
  ·rw [tk, if_pos c, e2, YY]; rfl
  ·rw [tk, if_neg c, Y5, e2]
 ·obtain ⟨sm, e, e2, _⟩ := hP
  rw [hlen, YC] at e2
  subst e2
  exact q acc H2 hn sm e
def Vil (kvs : List (ZA × V)) (ss : List Str) (hf : Str -> Nat) (n : Nat) : Prop := (kvs.map fun kv => kV kv.1) = ss.map V.str /\ ss.length < 50 /\ ∀ z ∈ ss, Jx kvs (Sum.inr z) = some (.int (hf z : Int)) /\ hf z <= n
theorem Vil.of {kvs : List (ZA × V)} {ss : List Str} {hf : Str -> Nat} {n : Nat} (h1 : (kvs.map fun kv => kV kv.1) = ss.map V.str) (hl : ss.length < 50) (h2 : ∀ gs : List Str, (∀ z ∈ gs, z ∈ ss) -> Zbd kvs gs (gs.map hf) n) : Vil kvs ss hf n :=
 ⟨h1, hl, fun z hz => (h2 [z] (fun y hy => by rw [YH.mp hy]; exact hz)).2 0 z (hf z) rfl rfl⟩
theorem Zmv {rs : List (Nat × Rat)} {k h : Nat} (hh : h <= rs.length) : (h ∈ ben rs k) = (k ∈ wayL rs h) := by
 unfold ben
 rw [YA, Vj]
 simp
 intro _
 omega
section
variable {P : Program} {w : World} {K : PySem.W.Frag} {mg : Str -> Option Value} {base : Heap} {f : Addr} {fd : FuncData} {CT CNP CNT CSE : Addr}
def ZfI (C CNP : Addr) : Sp := fun vs H Q E => ∃ x rs d k, vs = [x, .ref d, .int k] /\ TreeV C H x rs /\ rs.length <= 100 /\
 (∀ k' : Nat, k = (k' : Int) -> inR rs k -> ∃ o kvs ss hf, H d = some (.frz o (.dK kvs)) /\ Vil kvs ss hf rs.length /\ ∀ p H' (ts : List Str), H p = none -> Same H H' -> H' p = some (.lst (ts.map V.str)) -> ts.Pairwise leS -> ts.Perm (ss.filter fun z => decide (k' ∈ wayL rs (hf z))) -> Q (.ref p) H') /\ (¬ inR rs k -> E (.ref CNP) none H)
theorem ZkR (F : Fun K "users" "users" ZeE f fd) (n_sorted : mg "sorted" = none) (M_beneath : Mth P w K mg base Zw 4 CT "beneath" ["self", "k"] (fun vs H Q _ => Ziz CT CNP vs H Q E0)) : FnOk P w K mg base Zw 5 f fd ["tree", "homes", "k"] (fun vs H Q _ => ZfI CT CNP vs H Q E0) := by
 refine JL F sc_users (fun vs H Q E h => ?_) (fun cdv A outer s H vs Q E hr h => ?_)
 ·obtain ⟨x, rs, d, k, rfl, _⟩ := h; rfl
 obtain ⟨x, rs, d, k, rfl, hT, hrl, q1, q2⟩ := h
 refine ⟨_, (Zd (Zo 3 sc_users.nd (Za8 M_beneath hr (by decide) (Ze 0) (Zh (Ze 2) Za)))
   (Zg (Zs (Zd6 rfl n_sorted (Zh (ZeZ (Zkv ["name"] [1, 3] ["homes", "places"]) (Zc2 (Ze 1)) (by exact fun s H fp => (Zp 0 (show List.Nodup (["name", "homes", "places"] : List Str) from by decide +kernel))) (by exact fun s H fp => Zfx (ZiZ K (Jw (Jh hr) (Ze 1) (Ze 0)) (Ze 2))) (by exact fun s H fp => (Ze 0))) Za))))), ?_⟩
 rw [show Zu ["tree", "homes", "k", "places"] [x, .ref d, .int k] = [some (x), some (.ref d), some (.int k), none] from rfl]
 walk_at "rd"
 obtain ⟨a, dx, la, wa, ls, ws, rfl, h1, _⟩ := id hT
 refine ⟨a, rfl, dx, _, h1, rfl, .ref a, rs, k, rfl, hT, hrl, fun p H1 k' ek hin hp s1 e1 => ?_, q2⟩
 obtain ⟨o, kvs, ss, hf, hd, hV, q⟩ := q1 k' ek hin
 simp only [ZbM, Zgp]
 walk_at "rd"
 refine ⟨o, kvs, s1 _ _ hd, ?_⟩
 subst ek
 rw [show Ji [some (V.ref a), some (V.ref d), some (V.int (k' : Int)), some (V.ref p)] [1, 3] = [some (V.ref d), some (V.ref p)] from rfl]
 refine Zeo (fun z => decide (k' ∈ wayL rs (hf z))) (s1 _ _ hd) hV.1 (by have := hV.2.1; omega) (fun z hz H' k sm hk => ?_) (fun p2 H2 hp2 s2 e2 => ?_)
 ·obtain ⟨hv, hle⟩ := hV.2.2 z hz
  walk_at "rd"
  simp only [rIn]
  walk_at "rd"
  refine ⟨kvs, .inr ⟨o, (s1.trans sm) _ _ hd⟩, .inr z, rfl, _, hv, ZF (ben rs k'), .inl (.of (sm _ _ e1)), rfl, Zb0, ?_⟩
  rw [ZdF, decide_eq_decide.mpr (by rw [Zmv hle])]
  exact hk
 ·refine ⟨p2, rfl, _, e2, Yy (YW _ _) (by have := hV.2.1; omega), fun l H3 ts hl s3 e3 hpw hpm => ?_⟩
  exact q l H3 ts ((s1.trans s2).free hl) (s1.trans (s2.trans s3)) e3 hpw hpm
end
def ListV {α : Type} (R : Hp -> V -> α -> Prop) (H : Hp) (xs : List V) (as : List α) : Prop := xs.length = as.length /\ ∀ (i : Nat) x a, xs[i]? = some x -> as[i]? = some a -> R H x a
def ZeB {α : Type} (R : Hp -> V -> α -> Prop) : Prop := ∀ H H' v a, R H v a -> (∀ b ys, H b = some (.tup ys) -> H' b = some (.tup ys)) -> R H' v a
theorem ListV.keep {α : Type} {R : Hp -> V -> α -> Prop} (kR : ZeB R) {H H' : Hp} {xs : List V} {as : List α} (h : ListV R H xs as) (s : ∀ b ys, H b = some (.tup ys) -> H' b = some (.tup ys)) : ListV R H' xs as := ⟨h.1, fun i x a h1 h2 => kR _ _ _ _ (h.2 i x a h1 h2) s⟩
theorem ListV.snoc {α : Type} {R : Hp -> V -> α -> Prop} {H : Hp} {xs : List V} {as : List α} {x : V} {a : α} (h : ListV R H xs as) (hx : R H x a) : ListV R H (xs ++ [x]) (as ++ [a]) := ⟨by simp [h.1], fun i y r h1 h2 => by
 by_cases c : i < xs.length
 ·rw [Y8 c] at h1
  rw [Y8 (by rw [<- h.1]; exact c)] at h2
  exact h.2 i y r h1 h2
 ·have hi : i = xs.length := by have := (List.getElem?_eq_some_iff.mp h1).1; simp at this; omega
  subst hi
  rw [YZ (Yd _)] at h1
  rw [h.1, YZ (Yd _)] at h2
  simp at h1 h2
  subst h1
  subst h2
  exact hx⟩
theorem Zex {α : Type} {K : PySem.W.Frag} {a : Addr} {nt : Nat} {cp : St} {g : TG} {te : TE} {H1 : Hp} {Q : VK} (R : Hp -> V -> α -> Prop) (kR : ZeB R) {xs : List V} {as : List α} (ha : H1 a = some (.lst xs)) (hlen : xs.length = as.length) (hl : xs.length < 1000)
  (ht : ∀ (i : Nat) x b, xs[i]? = some x -> as[i]? = some b -> ∀ H' (k : VK) os, Same H1 H' -> os.length = nt -> (∀ v H2, Same H' H2 -> R H2 v b -> k v H2) -> g x (os ++ cp) H' fun τ H3 => ∃ os', os'.length = nt /\ τ = os' ++ cp /\ te τ H3 k)
  (q : ∀ p H' ys, H1 p = none -> Same H1 H' -> H' p = some (.lst ys) -> ListV R H' ys as -> Q (.ref p) H') : Zm8 nt cp (Itl K a) g te H1 Q := by
 unfold Zm8
 refine ZbT (xs := xs) (fun acc i ys H' => Same H1 H' /\ H' acc = some (.lst ys) /\ ListV R H' ys (as.take i) /\ i <= as.length)
  (fun acc H2 hn sm e => ⟨sm, e, ⟨by simp, fun i v r h1 h2 => by simp at h1⟩, Nat.zero_le _⟩) (fun acc i ys H2 hn ⟨sm, e, e2, hi⟩ => ⟨e, ?_, .of (sm _ _ ha)⟩) (fun acc i y ys H2 os hn hi hP ol => ?_) (fun acc ys H2 hn hP => ?_)
 ·rw [e2.1, YM]; omega
 ·obtain ⟨sm, e, e2, _⟩ := hP
  have hil : i < as.length := by rw [<- hlen]; exact (Yg.mp hi).1
  have hb := Yc hil
  refine ht i y _ hi hb H2 (fun v H5 => H5 acc = some (.lst ys) /\ (Same H1 (upd H5 acc (.lst (ys ++ [v]))) /\ upd H5 acc (.lst (ys ++ [v])) acc = some (.lst (ys ++ [v])) /\ ListV R (upd H5 acc (.lst (ys ++ [v]))) (ys ++ [v]) (as.take (i + 1)) /\ i + 1 <= as.length)) os sm ol fun v H3 s3 hv => ⟨s3 _ _ e, Zr hn (sm.trans s3), upd_same, ?_, hil⟩
  have kp : ∀ b ys', H3 b = some (.tup ys') -> upd H3 acc (.lst (ys ++ [v])) b = some (.tup ys') := fun b ys' eb => by rw [Zf (ZZ eb (s3 _ _ e) (by intro z; cases z))]; exact eb
  rw [Yp, hb]
  exact ((e2.keep kR fun b ys' eb => s3 _ _ eb).keep kR kp).snoc (kR _ _ _ _ hv kp)
 ·obtain ⟨sm, e, e2, _⟩ := hP
  rw [hlen, YC] at e2
  exact q acc H2 ys hn sm e e2
def Zpr (_ : Hp) (v : V) (n : Int) : Prop := v = .int n
theorem Ziy : ZeB Zpr := fun _ _ _ _ h _ => h
theorem ZjQ {H : Hp} {ys : List V} {ns : List Int} (h : ListV Zpr H ys ns) : ys = ns.map V.int := by
 refine Yar fun i => ?_
 rw [Yh]
 by_cases c : i < ys.length
 ·have c2 : i < ns.length := by rw [<- h.1]; exact c
  rw [Yc c, Yc c2]
  exact congrArg some (h.2 i _ _ (Yc c) (Yc c2))
 ·rw [Y0 (by omega), Y0 (by rw [<- h.1]; omega)]
  rfl
theorem Zkb (p q : Rat) : p - q = Rat.divInt (p.num * (q.den : Int) - q.num * (p.den : Int)) ((p.den : Int) * (q.den : Int)) := by
 have hp := p.den_pos
 have hq := q.den_pos
 conv => lhs; rw [<- Vg p, <- Vg q]
 rw [Rat.divInt_sub_divInt _ _ (by omega) (by omega)]
theorem SzQ.sub {n m k : Nat} {p q : Rat} (hp : SzQ n p) (hq : SzQ m q) (h : n + m + 1 <= k) : SzQ k (p - q) := by
 have hq' : SzQ m (-q) := ⟨by rw [Rat.neg_num, Int.natAbs_neg]; exact hq.1, by rw [Rat.neg_den]; exact hq.2⟩
 rw [Rat.sub_eq_add_neg]
 exact hp.add hq' h
def Zdw : Sp := fun vs H Q _ => ∃ (x y : V) (p q : Rat), vs = [x, y] /\ RatV H x p /\ RatV H y q /\ SzQ 3000 p /\ SzQ 3000 q /\ ∀ r H', Same H H' -> RatV H' r (p - q) -> Q r H'
theorem ZaV : ZeB RatV := fun _ _ _ _ h s => h.keep s
section
variable {P : Program} {w : World} {K : PySem.W.Frag} {mg : Str -> Option Value} {base : Heap} {f : Addr} {fd : FuncData}
theorem Zjd (F : Fun K "rest_of" "rest_of" ZcJ f fd) (F_ratio : Fn P w K mg base Zw 2 "ratio" ["top", "bottom"] ZaJ) : FnOk P w K mg base Zw 3 f fd ["one", "other"] Zdw := by
 refine JL F Zgy (fun vs H Q E h => ?_) (fun cdv A outer s H vs Q E hr h => ?_)
 ·obtain ⟨x, y, p, t, rfl, _⟩ := h; rfl
 obtain ⟨x, y, p, t, rfl, ⟨a, rfl, ha⟩, ⟨b, rfl, hb⟩, z1, z2, q⟩ := h
 refine ⟨_, (Zg (Zs (Zy F_ratio hr (by decide) rfl (Zh (JK (Jc (Zx (Ze 0) Zc) (Zx (Ze 1) Zc)) (Jc (Zx (Ze 1) Zc) (Zx (Ze 0) Zc))) (Zh (Jc (Zx (Ze 0) Zc) (Zx (Ze 1) Zc)) Za))))), ?_⟩
 rw [show Zu ["one", "other"] [.ref a, .ref b] = [some (.ref a), some (.ref b)] from rfl]
 walk_at "rd"
 simp only [ha, hb, ZaJ]
 walk_at "rd"
 refine ⟨JJ z1.1 (ZP z2) (by decide), JJ z2.1 (ZP z1) (by decide), JJ (ZP z1) (ZP z2) (by decide), Big.of (Zaq (ZP z1) (ZP z2)) (by decide), Zda p t, fun r H' hs v => q r H' hs ?_⟩
 rw [Zkb]
 exact v
end
theorem Zg5 {p q : Rat} : p.num * (q.den : Int) < q.num * (p.den : Int) ↔ p < q := (Rat.lt_iff p q).symm
def Ze3 : Sp := fun vs H Q _ => ∃ (x y : V) (p q : Rat), vs = [x, y] /\ RatV H x p /\ RatV H y q /\ SzQ 3000 p /\ SzQ 3000 q /\ Q (.bl (decide (p < q))) H
def Zlg (pt C : Addr) : Sp := fun vs H Q _ => ∃ (x : V) (rs : List (Nat × Rat)) (d : Addr) (kvs : List (ZA × V)) (ss : List Str) (hf : Str -> Nat), vs = [x, .ref d] /\ TreeV C H x rs /\ Rd H d (.dK kvs) /\ (kvs.map fun kv => kV kv.1) = ss.map V.str /\ (∀ gs : List Str, (∀ z ∈ gs, z ∈ ss) -> Zbd kvs gs (gs.map hf) rs.length) /\ rs.length <= 20 /\ ss.length < 50 /\ Zbj rs /\ ZeR H pt "far_roads_first.<locals>.<lambda>" /\
 ∀ p H' (fr : List Nat), H p = none -> Same H H' -> H' p = some (.lst (ZF fr)) -> fr.Nodup -> (∀ k, k ∈ fr ↔ Z3 rs (ss.map hf) k) -> fr.Pairwise (fun a b => (wayL rs b).length <= (wayL rs a).length) -> Q (.ref p) H'
noncomputable def kyW (rs : List (Nat × Rat)) (v : V) : Int := match v with | .int i => ((wayL rs i.toNat).length : Nat) | _ => 0
def Zgj (v : V) : Nat := match v with | .int i => i.toNat | _ => 0
theorem Zgg {rs : List (Nat × Rat)} {ks : List Nat} {ys : List V} (h : Zb1 true ((ZF ks).map (kyW rs)) (ZF ks) ys) : ∃ fr : List Nat, ys = ZF fr /\ fr.Perm ks /\ fr.Pairwise (fun a b => (wayL rs b).length <= (wayL rs a).length) := by
 obtain ⟨ps, hp, rfl, hw⟩ := h
 have ez : ((ZF ks).map (kyW rs)).zip (ZF ks) = ks.map fun k : Nat => ((((wayL rs k).length : Nat) : Int), V.int (k : Int)) := by
  unfold ZF
  rw [Yw, List.zip_map']
  exact List.map_congr_left fun k _ => by simp [kyW]
 rw [ez] at hp
 have hm : ∀ p ∈ ps, ∃ k : Nat, p = ((((wayL rs k).length : Nat) : Int), V.int (k : Int)) := fun p hpm => by
  obtain ⟨k, _, e⟩ := Yl.mp (hp.mem_iff.mp hpm)
  exact ⟨k, e.symm⟩
 refine ⟨ps.map fun p => Zgj p.2, ?_, ?_, ?_⟩
 ·unfold ZF
  rw [Yw]
  refine YL fun p hpm => ?_
  obtain ⟨k, rfl⟩ := hm p hpm
  simp [Zgj]
 ·have := hp.map fun p : Int × V => Zgj p.2
  rw [Yw] at this
  refine this.trans (List.Perm.of_eq ?_)
  rw [show ((fun p : Int × V => Zgj p.2) ∘ fun k : Nat => ((((wayL rs k).length : Nat) : Int), V.int (k : Int))) = id from funext fun k => by simp [Zgj], List.map_id]
 ·rw [Vx]
  refine List.Pairwise.imp_of_mem (fun {a b} ha hb hab => ?_) hw
  obtain ⟨k, rfl⟩ := hm a ha
  obtain ⟨j, rfl⟩ := hm b hb
  simp [Zgj] at hab ⊢
  omega
section
variable {P : Program} {w : World} {K : PySem.W.Frag} {mg : Str -> Option Value} {base : Heap} {f c pt : Addr} {fd : FuncData} {CT CNP : Addr}
theorem Zhm (F : Fun K "is_less" "is_less" Zb4 f fd) : FnOk P w K mg base Zw 1 f fd ["one", "other"] Ze3 := by
 refine JL F Zgi (fun vs H Q E h => ?_) (fun cdv A outer s H vs Q E hr h => ?_)
 ·obtain ⟨x, y, p, t, rfl, _⟩ := h; rfl
 obtain ⟨x, y, p, t, rfl, ⟨a, rfl, ha⟩, ⟨b, rfl, hb⟩, z1, z2, q⟩ := h
 refine ⟨_, (Zg (Zs (Zqt (Jc (Zx (Ze 0) Zc) (Zx (Ze 1) Zc)) (Jc (Zx (Ze 1) Zc) (Zx (Ze 0) Zc))))), ?_⟩
 rw [show Zu ["one", "other"] [.ref a, .ref b] = [some (.ref a), some (.ref b)] from rfl]
 walk_at "rd"
 simp only [ha, hb]
 walk_at "rd"
 refine ⟨JJ z1.1 (ZP z2) (by decide), JJ z2.1 (ZP z1) (by decide), ?_⟩
 simp only [Zg5]
 exact q
theorem ZnM (F : Fun K "far_roads_first" "far_roads_first" Zae f fd) (hc : fd.code = .ref c) (hC : codeHdIn K c pt = true) (hB : ZcA mg base) (n_len : mg "len" = none) (n_sorted : mg "sorted" = none) (n_list : mg "list" = none) (F_needed : Fn P w K mg base Zw 4 "needed" ["tree", "homes", "group"] (Zcu CT))
  (M_way : Mth P w K mg base Zw 3 CT "way" ["self", "k"] (fun vs H Q _ => ZeW CT CNP vs H Q E0)) : FnOk P w K mg base Zw 8 f fd ["tree", "homes"] (Zlg pt CT) := by
 refine Zqy F hc Zbs (fun vs H Q E h => ?_) (fun A outer s H vs Q E hr h => ?_)
 ·obtain ⟨x, rs, d, kvs, ss, hf, rfl, _⟩ := h; rfl
 obtain ⟨x, rs, d, kvs, ss, hf, rfl, hT, hd, hkv, hat, hrl, hsl, hO, hB2, q⟩ := h
 refine ⟨_, (Zg (Zs (ZmQ rfl n_sorted (Zy F_needed hr (by decide) rfl (Zh (Ze 0) (Zh (Ze 1) (Zh (ZhB rfl n_list (Zh (Ze 1) Za)) Za)))) (QE.mk (Zgk (z := "tree") (y := "road") (i := 0) (k := 4) rfl rfl rfl rfl hC hB rfl hr ⟨rfl, rfl, rfl, by decide +kernel, by decide +kernel, by decide +kernel, by decide +kernel, fun y e => by have h := PySem.mem_of_lookup e; simp at h; subst h; exact ⟨_, rfl⟩⟩ rfl (Or.inr (Or.inl rfl)) (fun z => absurd ((show _ = some NameKind.cell from rfl).symm.trans z) (by decide)) (fun _ _ _ _ => rfl) (fun _ _ _ _ => Jp rfl n_len (Zh (Za8 M_way (hr.in1.in1.deeper _) (by decide) (Ze 1) (Zh (Ze 0) Za)) Za)))) JV))), ?_⟩
 rw [show Zu ["tree", "homes"] [x, .ref d] = [some (x), some (.ref d)] from rfl]
 walk_at "rd"
 show ZeX _ _ _ _ _ _ _
 walk_at "rd"
 refine ⟨d, kvs, rfl, hd, fun l H1 hl s1 e1 => ?_⟩
 rw [hkv] at e1
 refine ⟨x, rs, d, l, kvs, ss, ss.map hf, rfl, hT.same s1, Zbt hd s1, e1, hat ss fun _ hz => hz, by omega, hsl, hO, fun p H2 ks hp s2 e2 hpw hmem => ?_⟩
 have s12 := s1.trans s2
 have hbd : ∀ k ∈ ks, 1 <= k /\ k <= rs.length := fun k hk => ZR ((hmem k).mp hk)
 have hkl := Zlc hpw hbd
 refine ⟨let ⟨t, ht⟩ := hB2; ⟨t, s12 _ _ ht⟩, x, rfl, fun fv H3 s3 hfv => ⟨p, ZF ks, kyW rs, rfl, s3 _ _ e2, by simp [ZF]; omega, hfv _ _ fun y hy H' k sm hk => ?_, fun D H4 ys hD s4 e4 hs => ?_⟩⟩
 ·obtain ⟨k0, hk0, rfl⟩ := Yl.mp hy
  obtain ⟨b1, b2⟩ := hbd k0 hk0
  have hT2 := hT.same (s12.trans (s3.trans sm))
  obtain ⟨xa, dx, la, wa, ls, ws, rfl, h1, _⟩ := id hT2
  walk_at "rd"
  refine ⟨dx, _, h1, rfl, .ref xa, rs, k0, rfl, hT2, fun p5 H5 k' w0 ek hp5 s5 e5 hw hwl => ⟨p5, rfl, _, .inl e5, ?_⟩, fun zz => absurd ⟨by omega, by omega⟩ zz⟩
  have e : k' = k0 := by omega
  subst e
  have e2 : kyW rs (.int (k' : Int)) = ((ZF w0).length : Nat) := by simp [kyW, ZF, Jk hw]
  rw [<- e2]
  exact hk H5 s5
 ·obtain ⟨fr, rfl, hfp, hfw⟩ := Zgg hs
  have hkn : ks.Nodup := hpw.imp fun h e => by rw [e] at h; exact YR _ h
  exact q D H4 fr ((s12.trans s3).free hD) (s12.trans (s3.trans s4)) e4 (hfp.symm.nodup hkn) (fun k => (hfp.mem_iff).trans (hmem k)) hfw
end
def Zt (B : Nat) (m : Int) : Rat := Rat.divInt m (B : Int)
theorem Jj {B : Nat} (hB : 0 < B) {m n : Int} : Zt B m < Zt B n ↔ m < n := by
 rw [<- Rat.not_le, <- Int.not_le]
 unfold Zt
 rw [Rat.le_iff_sub_nonneg, Rat.divInt_sub_divInt _ _ (by omega) (by omega), <- Int.sub_mul, Rat.divInt_nonneg_iff_of_pos_right (Int.mul_pos (by omega) (by omega))]
 constructor
 ·intro h c
  exact h (Int.mul_nonneg (by omega) (by omega))
 ·intro h c
  refine h ?_
  have := Int.nonneg_of_mul_nonneg_left c (by omega : (0 : Int) < (B : Int))
  omega
theorem Za4 {B : Nat} (hB : 0 < B) (m n : Int) : Zt B m + Zt B n = Zt B (m + n) := ZbV (by omega)
theorem Zf1 {B : Nat} (hB : 0 < B) (m n : Int) : Zt B m - Zt B n = Zt B (m - n) := by
 have := Za4 hB (m - n) n
 rw [Int.sub_add_cancel] at this
 rw [<- this, Rat.sub_eq_add_neg, Vk, Rat.add_neg_cancel, V6]
theorem ZkW {B : Nat} (hB : 0 < B) {m n : Int} (h : Zt B m = Zt B n) : m = n := by
 have h1 : ¬ m < n := fun c => by have := (Jj hB).mpr c; rw [h] at this; exact Rat.lt_irrefl this
 have h2 : ¬ n < m := fun c => by have := (Jj hB).mpr c; rw [h] at this; exact Rat.lt_irrefl this
 omega
theorem Zat (B : Nat) : Zt B 0 = 0 := Yaw _
theorem ZaP {B n : Nat} {m : Int} (hB : 0 < B) (h1 : B < 2 ^ n) (h2 : m.natAbs < 2 ^ n) : SzQ n (Zt B m) := SzQ.of (by omega) h2 (by simpa using h1)
theorem Zdy {B : Nat} (hB : 0 < B) (m : Int) : (Zt B m).den ∣ B := by
 have h1 : (Zt B m).num * (B : Int) = m * ((Zt B m).den : Int) := by
  have h := Vg (Zt B m)
  have hd := (Zt B m).den_pos
  exact (Rat.divInt_eq_divInt_iff (by omega) (by omega)).mp h
 have h2 : ((Zt B m).den : Int) ∣ (Zt B m).num * (B : Int) := ⟨m, by rw [h1, Int.mul_comm]⟩
 have h3 := Int.natAbs_dvd_natAbs.mpr h2
 rw [Int.natAbs_mul] at h3
 have hc : Nat.Coprime (Zt B m).den (Zt B m).num.natAbs := (Zt B m).reduced.symm
 exact hc.dvd_of_dvd_mul_left (by simpa using h3)
theorem ZfK {B : Nat} (hB : 0 < B) (m : Int) : (Zt B m).num < 0 ↔ m < 0 := by
 have h := @Jj B hB m 0
 rw [Zat, Rat.lt_iff] at h
 simp at h
 exact h
theorem Zjl {a b B : Nat} (ha : 0 < a) (h1 : a ∣ B) (h2 : b ∣ B) : JZ a b ∣ B := by
 have : JZ a b = Nat.lcm a b := by
  unfold JZ Nat.lcm
  rw [Nat.mul_comm a b, Nat.mul_div_assoc _ (Yau a b), Nat.mul_comm]
 rw [this]
 exact Nat.lcm_dvd h1 h2
theorem Zfq {qs : List Rat} {B : Nat} (h : ∀ (i : Nat) q, qs[i]? = some q -> q.den ∣ B) : ∀ i, i <= qs.length -> JX qs i ∣ B /\ 0 < JX qs i
 | 0, _ => ⟨Nat.one_dvd _, Nat.one_pos⟩
 | i + 1, hi => by
  have hq := Yc (show i < qs.length from hi)
  obtain ⟨h1, h2⟩ := Zfq h i (Yr hi)
  rw [Zck hq]
  exact ⟨Zjl h2 h1 (h i _ hq), Zf0 h2 (qs[i]).den_pos⟩
theorem Zeh {B : Nat} {ms : List Int} (hB : 0 < B) (h1 : B < 2 ^ 2600) (h2 : ∀ m ∈ ms, m.natAbs < 2 ^ 2700) : Zo5 (ms.map (Zt B)) := by
 refine ⟨fun i q h => ?_, fun i hi => ?_⟩
 ·rw [Yh] at h
  obtain ⟨m, hm, rfl⟩ := YD.mp h
  exact (ZaP (n := 2700) hB (Yt h1 (Va (by decide) (by decide))) (h2 m (Yo hm))).mono (by decide)
 ·have h3 := Zfq (B := B) (fun i q h => by
   rw [Yh] at h
   obtain ⟨m, _, rfl⟩ := YD.mp h
   exact Zdy hB m) i hi
  exact Yj (Nat.le_of_dvd hB h3.1) (Yr (Yt h1 (Va (by decide) (by decide))))
theorem ZcB {B : Nat} (hB : 0 < B) (ms : List Int) : ∀ i, i <= ms.length -> Zjb (ms.map (Zt B)) i = Zt B (ms.take i).sum
 | 0, _ => (Zat B).symm
 | i + 1, hi => by
  have hm := Yc (show i < ms.length from hi)
  rw [ZcN (q := Zt B ms[i]) (by rw [Yh, hm]; rfl), ZcB hB ms i (Yr hi), Za4 hB, Yp, hm, List.sum_append]
  simp
theorem ZfG {B : Nat} (hB : 0 < B) (ms : List Int) : Zjb (ms.map (Zt B)) (ms.map (Zt B)).length = Zt B ms.sum := by
 rw [Yi, ZcB hB ms _ (Yd _), YC]
def ZdZ : Sp := fun vs H Q _ => ∃ (d g : Addr) (o : Obj) (kvs : List (ZA × V)) (ss gs : List Str), vs = [.ref d, .ref g] /\ H d = some (.frz o (.dK kvs)) /\ (kvs.map fun kv => kV kv.1) = ss.map V.str /\ ss.length < 50 /\ H g = some (.lst (gs.map V.str)) /\
 ∀ p H' (ts : List Str), H p = none -> Same H H' -> H' p = some (.lst (ts.map V.str)) -> ts.Pairwise leS -> ts.Perm (ss.filter fun z => !decide (z ∈ gs)) -> Q (.ref p) H'
def ZH : Int -> List Int -> List Int
 | _, [] => []
 | d, l :: ls => min l d :: ZH (d - min l d) ls
theorem ZcC : ∀ (d : Int) (ls : List Int), (ZH d ls).length = ls.length
 | _, [] => rfl
 | d, l :: ls => by rw [ZH, YN, YN, ZcC]
theorem Zdi : ∀ (d : Int) (ls : List Int), 0 <= d -> (∀ l ∈ ls, 0 <= l) -> (∀ (i : Nat) l p, ls[i]? = some l -> (ZH d ls)[i]? = some p -> 0 <= p /\ p <= l /\ p <= d) /\ (d <= ls.sum -> (ZH d ls).sum = d)
 | d, [], _, _ => ⟨fun i l p h => by simp at h, fun h => by simp [ZH] at h ⊢; omega⟩
 | d, l :: ls, hd, hl => by
  have h0 := hl l (.head _)
  obtain ⟨h1, h2⟩ := Zdi (d - min l d) ls (by omega) fun x hx => hl x (.tail _ hx)
  refine ⟨fun i x p hx hp => ?_, fun hs => ?_⟩
  ·match i with
   | 0 => simp [ZH] at hx hp; subst hx hp; omega
   | i + 1 =>
    rw [ZH] at hp
    have := h1 i x p (by simpa using hx) (by simpa using hp)
    omega
  ·rw [ZH, VS]
   rw [VS] at hs
   by_cases c : l <= d
   ·have : min l d = l := by omega
    rw [this] at h2 ⊢
    have := h2 (by omega)
    omega
   ·have e : min l d = d := by omega
    rw [e, Int.sub_self] at h2 ⊢
    have hz : ∀ x ∈ ls, 0 <= x := fun x hx => hl x (.tail _ hx)
    have hsum : 0 <= ls.sum := by
     clear h1 h2 hs hl
     induction ls with
     | nil => simp
     | cons y ys ih => rw [VS]; have := hz y (.head _); have := ih fun x hx => hz x (.tail _ hx); omega
    have := h2 hsum
    omega
def Zmi (B : Nat) (H : Hp) (xs : List V) (ps : List (Str × Int)) : Prop := ListV (fun H v p => ∃ t r, v = .ref t /\ H t = some (.tup [.str p.1, r]) /\ RatV H r (Zt B p.2)) H xs ps
def Zhy : Sp := fun vs H Q _ => ∃ (x : V) (g d : Addr) (lvs : List (ZA × V)) (ts : List Str) (B : Nat) (c : Int) (l : Str -> Int), vs = [x, .ref g, .ref d] /\ RatV H x (Zt B c) /\ H g = some (.lst (ts.map V.str)) /\ Rd H d (.dK lvs) /\ (∀ z ∈ ts, ∃ v, Jx lvs (Sum.inr z) = some v /\ RatV H v (Zt B (l z))) /\ 0 < B /\ B < 2 ^ 2600 /\ 0 <= c /\ c.natAbs < 2 ^ 2600 /\ (∀ z ∈ ts, 0 <= l z /\ (l z).natAbs < 2 ^ 2600) /\ ts.length < 50 /\
 ∀ p H' xs, H p = none -> Same H H' -> H' p = some (.lst xs) -> Zmi B H' xs ((ts.zip (ZH c (ts.map l))).filter fun p => decide (0 < p.2)) -> Q (.ref p) H'
section
variable {P : Program} {w : World} {K : PySem.W.Frag} {mg : Str -> Option Value} {base : Heap} {f : Addr} {fd : FuncData} {CT CNP : Addr}
theorem ZhF (F : Fun K "others" "others" ZdC f fd) (n_sorted : mg "sorted" = none) : FnOk P w K mg base Zw 1 f fd ["homes", "names"] ZdZ := by
 refine JL F Zh9 (fun vs H Q E h => ?_) (fun cdv A outer s H vs Q E hr h => ?_)
 ·obtain ⟨d, g, o, kvs, ss, gs, rfl, _⟩ := h; rfl
 obtain ⟨d, g, o, kvs, ss, gs, rfl, hd, hkv, hl, hg, q⟩ := h
 refine ⟨_, (Zg (Zs (Zd6 rfl n_sorted (Zh (ZeZ (Zkv ["name"] [1] ["names"]) (Zc2 (Ze 0)) (by exact fun s H fp => (Zp 0 (show List.Nodup (["name", "names"] : List Str) from by decide +kernel))) (by exact fun s H fp => Zfx (ZmG K (Ze 0) (Ze 1))) (by exact fun s H fp => (Ze 0))) Za)))), ?_⟩
 rw [show Zu ["homes", "names"] [.ref d, .ref g] = [some (.ref d), some (.ref g)] from rfl]
 walk_at "rd"
 simp only [ZbM, Zgp]
 walk_at "rd"
 refine ⟨o, kvs, hd, ?_⟩
 rw [show Ji [some (V.ref d), some (V.ref g)] [1] = [some (V.ref g)] from rfl]
 refine Zeo (fun z => !decide (z ∈ gs)) hd hkv (by omega) (fun z hz H' k sm hk => ?_) (fun p2 H2 hp2 s2 e2 => ?_)
 ·walk_at "rd"
  simp only [rIn]
  walk_at "rd"
  refine ⟨_, .inl (.of (sm _ _ hg)), rfl, Zir _, ?_⟩
  rw [Zna]
  exact hk
 ·refine ⟨p2, rfl, _, e2, Yy (YW _ _) (by omega), fun l H3 ts hl s3 e3 hpw hpm => ?_⟩
  exact q l H3 ts (s2.free hl) (s2.trans s3) e3 hpw hpm
def Ppy (H0 : Hp) (x : V) (g d p : Addr) (B : Nat) (c : Int) (ts : List Str) (l : Str -> Int) (i : Nat) (σ : St) (H : Hp) : Prop := ∃ (y : V) (o1 o2 : Option V) (due : Int) (xs : List V), σ = [some x, some (.ref g), some (.ref d), some (.ref p), some y, o1, o2] /\ Same H0 H /\ RatV H y (Zt B due) /\ 0 <= due /\ due <= c /\ H p = some (.lst xs) /\
 ∃ pre, pre.length = i /\ ZH c (ts.map l) = pre ++ ZH due ((ts.drop i).map l) /\ Zmi B H xs (((ts.take i).zip pre).filter fun p => decide (0 < p.2))
theorem ZlW (F : Fun K "payments" "payments" Zbw f fd) (F_is_less : Fn P w K mg base Zw 1 "is_less" ["one", "other"] Ze3) (F_ratio_d : FnD P w K mg base Zw 2 "ratio" ["top", "bottom"] [.int 1] ZaJ) (F_rest_of : Fn P w K mg base Zw 3 "rest_of" ["one", "other"] Zdw) : FnOk P w K mg base Zw 4 f fd ["price", "payers", "left"] Zhy := by
 refine JL F sc_payments (fun vs H Q E h => ?_) (fun cdv A outer s H vs Q E hr h => ?_)
 ·obtain ⟨x, g, d, lvs, ts, B, c, l, rfl, _⟩ := h; rfl
 obtain ⟨x, g, d, lvs, ts, B, c, l, rfl, hx, hg, hd, hv, hB0, hB1, hc0, hc1, hl, htl, q⟩ := h
 refine ⟨_, (Zd (Zo 3 sc_payments.nd (JQ Za))
   (Zd (Zo 4 sc_payments.nd (Ze 0))
   (Zd (ZY Ys (Z5 (Ze 1)) (Zp 5 sc_payments.nd) (Zd (Zo 6 sc_payments.nd (Zpv (ZU (Zy F_is_less hr (by decide) rfl (Zh (Jw (Jh hr) (Ze 2) (Ze 5)) (Zh (Ze 4) Za)))) (Jw (Jh hr) (Ze 2) (Ze 5)) (Ze 4)))
   (Zg (Z4 (ZU (Zy F_is_less hr (by decide) rfl (Zh (Zpw F_ratio_d hr (by decide) rfl (Zh Zc Za)) (Zh (Ze 6) Za)))) (Zd (Z6 (Zdq (Ze 3) (Zh (Jo (Zh (Ze 5) (Zh (Ze 6) Za))) Za)))
   (Zg (Zo 4 sc_payments.nd (Zy F_rest_of hr (by decide) rfl (Zh (Ze 4) (Zh (Ze 6) Za)))))) ZN))))
   (Zg (Zs (Ze 3)))))), ?_⟩
 rw [show Zu ["price", "payers", "left", "rows", "due", "name", "amount"] [x, .ref g, .ref d] = [some (x), some (.ref g), some (.ref d), none, none, none, none] from rfl]
 walk_at "rd"
 intro p H1 hp s1 e1
 simp only [Zao]
 walk_at "rd"
 have kpR : ZeB (fun H v (p : Str × Int) => ∃ t r, v = .ref t /\ H t = some (.tup [.str p.1, r]) /\ RatV H r (Zt B p.2)) := fun H H' v p h s => let ⟨t, r, a1, a2, a3⟩ := h; ⟨t, r, a1, s _ _ a2, a3.keep s⟩
 refine Zax (Ppy H x g d p B c ts l) ⟨x, _, _, c, [], rfl, s1, hx.same s1, hc0, by omega, e1, [], rfl, by simp, ⟨by simp, fun i v r h => by simp at h⟩⟩ (fun i σ H' _ ⟨_, _, _, _, _, _, sm, _⟩ => .of (sm _ _ hg)) (fun i y σ H' hi hP => ?_) (fun σ H' hP => ?_)
 ·obtain ⟨y0, o1, o2, due, xs, rfl, sm, hy, hd0, hd1, ep, pre, hpl, hpre, hR⟩ := hP
  rw [Yh] at hi
  obtain ⟨z, hz, rfl⟩ := YD.mp hi
  have hzm := Yo hz
  have hil := (Yg.mp hz).1
  obtain ⟨v, ev, rv⟩ := hv z hzm
  obtain ⟨hl0, hl1⟩ := hl z hzm
  have szl : SzQ 3000 (Zt B (l z)) := (ZaP hB0 hB1 hl1).mono (by decide)
  have szd : SzQ 3000 (Zt B due) := (ZaP hB0 hB1 (Yy (by omega) hc1)).mono (by decide)
  have hdr : (ts.drop i).map l = l z :: (ts.drop (i + 1)).map l := by rw [Yad hil, Yq, (Yg.mp hz).2]
  have htk : ts.take (i + 1) = ts.take i ++ [z] := by rw [Yp, hz]; rfl
  have hpre2 : ZH c (ts.map l) = (pre ++ [min (l z) due]) ++ ZH (due - min (l z) due) ((ts.drop (i + 1)).map l) := by rw [hpre, hdr, ZH, List.append_assoc]; rfl
  have hzp : ((ts.take (i + 1)).zip (pre ++ [min (l z) due])).filter (fun p => decide (0 < p.2)) = ((ts.take i).zip pre).filter (fun p => decide (0 < p.2)) ++ (if 0 < min (l z) due then [(z, min (l z) due)] else []) := by
   rw [htk, List.zip_append (by rw [YM, hpl]; omega), VH]
   congr 1
   by_cases c0 : 0 < min (l z) due
   ·rw [if_pos c0]; simp [c0]
   ·rw [if_neg c0]; simp [c0]
  refine ZB fun R0 hR0 => ?_
  suffices fin : ∀ u : V, RatV H' u (Zt B (min (l z) due)) -> R0 [some x, some (.ref g), some (.ref d), some (.ref p), some y0, some (.str z), some u] H' by
   walk_at "rd"
   refine ⟨lvs, Zbt hd sm, .inr z, rfl, v, ev, v, y0, _, _, rfl, rv.same sm, hy, szl, szd, _, rfl, ?_⟩
   by_cases c0 : l z < due
   ·rw [if_pos (YQ ((Jj hB0).mpr c0))]
    refine ⟨lvs, Zbt hd sm, .inr z, rfl, v, ev, fin v ?_⟩
    rw [show min (l z) due = l z by omega]
    exact rv.same sm
   ·rw [if_neg (by rw [Ve, Jj hB0]; exact c0)]
    refine fin y0 ?_
    rw [show min (l z) due = due by omega]
    exact hy
  intro u hu
  have szu : SzQ 3000 (Zt B (min (l z) due)) := (ZaP hB0 hB1 (Yy (by omega) hc1)).mono (by decide)
  subst hR0
  walk_at "rd"
  refine ⟨_, _, rfl, Big.of (n := 1) (by decide) (by decide), by decide, fun r0 H2 s2 v2 => ?_⟩
  have e0 : Rat.divInt 0 1 = Zt B 0 := by rw [Zat]; exact Yaw 1
  rw [e0] at v2
  have sz0 : SzQ 3000 (Zt B 0) := by rw [Zat]; exact ZdJ (by decide)
  refine ⟨r0, u, _, _, rfl, v2, hu.same s2, sz0, szu, _, rfl, ?_⟩
  by_cases c0 : 0 < min (l z) due
  ·rw [if_pos (YQ ((Jj hB0).mpr c0))]
   refine ⟨⟨_, s2 _ _ ep⟩, fun t H3 ht s3 e3 => ?_⟩
   have s23 := s2.trans s3
   have ep3 := s23 _ _ ep
   have kp : ∀ b ys, H3 b = some (.tup ys) -> upd H3 p (.lst (xs ++ [.ref t])) b = some (.tup ys) := fun b ys e => by rw [Zf (ZZ e ep3 (by intro z; cases z))]; exact e
   have hxl : xs.length < 1000000 := by
    rw [hR.1]
    refine Yy (YW _ _) ?_
    rw [Vf, YM]
    omega
   refine ⟨xs, ep3, hxl, y0, u, _, _, rfl, (hy.same s23).keep kp, (hu.same s23).keep kp, szd, szu, fun r4 H4 s4 v4 => ?_⟩
   rw [Zf1 hB0] at v4
   refine ⟨r4, _, _, due - min (l z) due, xs ++ [.ref t], rfl, (Zr hp (sm.trans s23)).trans s4, v4, by omega, by omega, s4 _ _ upd_same, pre ++ [min (l z) due], by simp [hpl], hpre2, ?_⟩
   rw [hzp, if_pos c0]
   exact ((((hR.keep kpR fun b ys e => s23 _ _ e).keep kpR kp).snoc ⟨t, u, rfl, kp _ _ e3, (hu.same s23).keep kp⟩)).keep kpR fun b ys e => s4 _ _ e
  ·rw [if_neg (by rw [Ve, Jj hB0]; exact c0)]
   have ez : min (l z) due = 0 := by omega
   refine ⟨y0, _, _, due, xs, rfl, sm.trans s2, hy.same s2, hd0, hd1, s2 _ _ ep, pre ++ [min (l z) due], by simp [hpl], ?_, ?_⟩
   ·rw [hpre2, ez, Int.sub_zero]
   ·rw [hzp, if_neg c0, Y5]
    exact hR.keep kpR fun b ys e => s2 _ _ e
 ·obtain ⟨y0, o1, o2, due, xs, rfl, sm, hy, hd0, hd1, ep, pre, hpl, hpre, hR⟩ := hP
  walk_at "rd"
  rw [Yi, List.drop_length, List.map_nil, ZH, Y5] at hpre
  rw [Yi, YC, <- hpre] at hR
  exact q p H' xs hp sm ep hR
end
def ShV (H : Hp) (svs : List (ZA × V)) (ss : List Str) (qf : Str -> Rat) : Prop := svs.length = ss.length /\ ∀ (i : Nat) z, ss[i]? = some z -> ∃ v, svs[i]? = some (Sum.inr z, v) /\ RatV H v (qf z)
theorem ShV.keep {H H' : Hp} {svs : List (ZA × V)} {ss : List Str} {qf : Str -> Rat} (h : ShV H svs ss qf) (s : ∀ b ys, H b = some (.tup ys) -> H' b = some (.tup ys)) : ShV H' svs ss qf := ⟨h.1, fun i z e => let ⟨v, e1, r⟩ := h.2 i z e; ⟨v, e1, r.keep s⟩⟩
theorem ShV.keys {H : Hp} {svs : List (ZA × V)} {ss : List Str} {qf : Str -> Rat} (h : ShV H svs ss qf) : svs.map (·.1) = ss.map Sum.inr := by
 refine Yar fun i => ?_
 rw [Yh, Yh]
 cases e : ss[i]? with
 | none => rw [Y0 (by rw [h.1]; exact List.getElem?_eq_none_iff.mp e)]; rfl
 | some z => obtain ⟨v, e1, _⟩ := h.2 i z e; rw [e1]; rfl
theorem Zey : ∀ {svs : List (ZA × V)} {i : Nat} {k : ZA} {v : V}, svs[i]? = some (k, v) -> (svs.map (·.1)).Nodup -> Jx svs k = some v
 | [], i, k, v, h, _ => by cases h
 | kv :: svs, 0, k, v, h, _ => by cases h; exact ZbW rfl
 | kv :: svs, i + 1, k, v, h, hn => by
  rw [Yq, Y4] at hn
  have hm : (k, v) ∈ svs := Yo h
  rw [ZbZ (fun e => hn.1 (Yl.mpr ⟨_, hm, e.symm⟩))]
  exact Zey h hn.2
theorem ZcQ {ss : List Str} (h : ss.Nodup) : (ss.map (Sum.inr : Str -> ZA)).Nodup := List.Pairwise.map _ (fun _ _ hne e => hne (by injection e)) h
theorem ShV.val {H : Hp} {svs : List (ZA × V)} {ss : List Str} {qf : Str -> Rat} (h : ShV H svs ss qf) (hn : ss.Nodup) : ∀ z ∈ ss, ∃ v, Jx svs (Sum.inr z) = some v /\ RatV H v (qf z) := fun z hz => by
 obtain ⟨i, hi, e⟩ := Vv hz
 obtain ⟨v, e1, r⟩ := h.2 i z (by rw [Yc hi, e])
 exact ⟨v, Zey e1 (by rw [h.keys]; exact ZcQ hn), r⟩
theorem ZgV {svs : List (ZA × V)} {k : ZA} {v : V} (h : k ∉ svs.map (·.1)) : Je svs k v = svs ++ [(k, v)] := by
 unfold Je
 rw [if_neg]
 intro c
 obtain ⟨kv, h1, h2⟩ := List.any_eq_true.mp c
 exact h (List.mem_map.mpr ⟨kv, h1, by simpa using h2⟩)
theorem ShV.snoc {H : Hp} {svs : List (ZA × V)} {ss : List Str} {qf : Str -> Rat} {z : Str} {v : V} (h : ShV H svs ss qf) (hz : z ∉ ss) (r : RatV H v (qf z)) : ShV H (Je svs (Sum.inr z) v) (ss ++ [z]) qf := by
 rw [ZgV (by rw [h.keys]; intro c; obtain ⟨y, hy, e⟩ := Yl.mp c; injection e with e; exact hz (e ▸ hy))]
 refine ⟨by simp [h.1], fun i y e => ?_⟩
 by_cases c : i < ss.length
 ·rw [Y8 c] at e
  rw [Y8 (by rw [h.1]; exact c)]
  exact h.2 i y e
 ·have hi : i = ss.length := by have := (List.getElem?_eq_some_iff.mp e).1; simp at this; omega
  subst hi
  rw [YZ (Yd _)] at e
  rw [<- h.1, YZ (Yd _)]
  simp at e
  subst e
  exact ⟨v, by simp, r⟩
theorem ShV.put {H : Hp} {svs : List (ZA × V)} {ss : List Str} {qf qg : Str -> Rat} {z : Str} {v : V} (h : ShV H svs ss qf) (hz : z ∈ ss) (r : RatV H v (qg z)) (hq : ∀ y, y ≠ z -> qg y = qf y) : ShV H (Je svs (Sum.inr z) v) ss qg := by
 have hk : (svs.any fun kv => decide (kv.1 = (Sum.inr z : ZA))) = true := by
  have : (Sum.inr z : ZA) ∈ svs.map (·.1) := by rw [h.keys]; exact Yl.mpr ⟨z, hz, rfl⟩
  obtain ⟨kv, h1, h2⟩ := Yl.mp this
  exact List.any_eq_true.mpr ⟨kv, h1, by simpa using h2⟩
 unfold Je
 rw [if_pos (by simpa using hk)]
 refine ⟨by rw [Yi]; exact h.1, fun i y e => ?_⟩
 obtain ⟨u, e1, r1⟩ := h.2 i y e
 rw [Yh, e1]
 by_cases c : y = z
 ·subst c
  exact ⟨v, by simp, r⟩
 ·exact ⟨u, by simp [c], by rw [hq y c]; exact r1⟩
theorem Ze5 {rs : List (Nat × Rat)} {h : Nat} {w : List Nat} (hw : WayR rs h w) : ∀ k ∈ w, ∃ w', WayR rs k w' /\ w' <:+ w /\ k ∈ w' := by
 induction hw with
 | nil => intro k hk; cases hk
 | @cons j r w hr hw' ih =>
  intro k hk
  rcases Yn.mp hk with rfl | hk
  ·exact ⟨_, .cons hr hw', List.suffix_refl _, .head _⟩
  ·obtain ⟨w', h1, h2, h3⟩ := ih k hk
   exact ⟨w', h1, h2.trans (List.suffix_cons _ _), h3⟩
theorem ZhD {rs : List (Nat × Rat)} {h k r : Nat} {w : List Nat} (hw : WayR rs h w) (hk : k ∈ w) (hr : r ∈ w) (hl : (wayL rs r).length <= (wayL rs k).length) : r ∈ wayL rs k := by
 obtain ⟨wk, h1, h2, _⟩ := Ze5 hw k hk
 obtain ⟨wr, h3, h4, h5⟩ := Ze5 hw r hr
 rw [Jk h1] at hl ⊢
 rw [Jk h3] at hl
 exact (List.suffix_of_suffix_length_le h4 h2 hl).subset h5
theorem Zhf {rs : List (Nat × Rat)} {h k r : Nat} {w : List Nat} (hw : WayR rs h w) (hk : k ∈ w) (hr : r ∈ wayL rs k) : r ∈ w := by
 obtain ⟨wk, h1, h2, _⟩ := Ze5 hw k hk
 rw [Jk h1] at hr
 exact h2.subset hr
def sm {α : Type} (l : List α) (f : α -> Int) : Int := (l.map f).sum
theorem Zhb {α : Type} (f : α -> Int) : sm [] f = 0 := rfl
theorem Zz {α : Type} (x : α) (l : List α) (f : α -> Int) : sm (x :: l) f = f x + sm l f := by unfold sm; rw [List.map_cons, List.sum_cons]
theorem ZaK {α : Type} (l m : List α) (f : α -> Int) : sm (l ++ m) f = sm l f + sm m f := by unfold sm; rw [List.map_append, List.sum_append]
theorem Zfj {α : Type} (l : List α) (f g : α -> Int) : sm l (fun x => f x + g x) = sm l f + sm l g := by
 induction l with
 | nil => rfl
 | cons x l ih => rw [Zz, Zz, Zz, ih]; omega
theorem ZiJ {α : Type} (l : List α) (f g : α -> Int) : sm l (fun x => f x - g x) = sm l f - sm l g := by
 induction l with
 | nil => rfl
 | cons x l ih => rw [Zz, Zz, Zz, ih]; omega
theorem ZmF {α : Type} {l : List α} {f g : α -> Int} (h : ∀ x ∈ l, f x <= g x) : sm l f <= sm l g := by
 induction l with
 | nil => exact Int.le_refl _
 | cons x l ih => rw [Zz, Zz]; have := h x (.head _); have := ih fun y hy => h y (.tail _ hy); omega
theorem ZX {α : Type} {l : List α} {f g : α -> Int} (h : ∀ x ∈ l, f x = g x) : sm l f = sm l g := by
 unfold sm
 rw [YL h]
theorem Ja {α : Type} {l : List α} {f : α -> Int} (h : ∀ x ∈ l, f x = 0) : sm l f = 0 := by
 rw [ZX h]
 induction l with
 | nil => rfl
 | cons x l ih => rw [Zz, ih fun y hy => h y (.tail _ hy)]; rfl
theorem ZaU {α : Type} {l : List α} {f : α -> Int} (h : ∀ x ∈ l, 0 <= f x) : 0 <= sm l f := by
 have := ZmF (f := fun _ => 0) h
 rw [Ja fun _ _ => rfl] at this
 exact this
theorem ZcG {α : Type} {l : List α} {f : α -> Int} (h : ∀ x ∈ l, 0 <= f x) {x : α} (hx : x ∈ l) : f x <= sm l f := by
 induction l with
 | nil => cases hx
 | cons y l ih =>
  rw [Zz]
  have h0 := h y (.head _)
  have h1 := ZaU fun z hz => h z (.tail _ hz)
  rcases Yn.mp hx with rfl | hx
  ·omega
  ·have := ih (fun z hz => h z (.tail _ hz)) hx
   omega
theorem Zdf {α β : Type} (l : List α) (m : List β) (f : α -> β -> Int) : sm l (fun x => sm m (f x)) = sm m (fun y => sm l (fun x => f x y)) := by
 induction l with
 | nil => rw [Zhb]; exact (Ja fun _ _ => rfl).symm
 | cons x l ih => rw [Zz, ih, <- Zfj]; exact ZX fun y _ => (Zz x l fun x => f x y).symm
theorem Zba {α : Type} {l m : List α} (h : l.Perm m) (f : α -> Int) : sm l f = sm m f := by
 induction h with
 | nil => rfl
 | cons x _ ih => rw [Zz, Zz, ih]
 | swap x y l => rw [Zz, Zz, Zz, Zz]; omega
 | trans _ _ ih1 ih2 => exact ih1.trans ih2
theorem Zas {α : Type} (l : List α) (p : α -> Bool) (f : α -> Int) : sm (l.filter p) f = sm l (fun x => if p x = true then f x else 0) := by
 induction l with
 | nil => rfl
 | cons x l ih =>
  rw [Zz]
  by_cases c : p x = true
  ·rw [Yag c, Zz, ih, if_pos c]
  ·rw [Yah c, ih, if_neg c]; omega
theorem Zfr {α : Type} (l : List α) (p : α -> Bool) (f : α -> Int) : sm l f = sm (l.filter p) f + sm (l.filter fun x => !p x) f := by
 rw [Zas, Zas, <- Zfj]
 refine ZX fun x _ => ?_
 cases p x <;> simp
theorem Zcz {α : Type} [DecidableEq α] {l : List α} (hn : l.Nodup) {r : α} (hr : r ∈ l) (f : α -> Int) : sm l (fun k => if k = r then f k else 0) = f r := by
 induction l with
 | nil => cases hr
 | cons x l ih =>
  rw [Zz]
  rw [Y4] at hn
  by_cases c : x = r
  ·subst c
   rw [if_pos rfl, Ja fun y hy => if_neg (fun e : y = x => hn.1 (by rw [<- e]; exact hy))]
   omega
  ·rw [if_neg c, ih hn.2 (by rcases Yn.mp hr with h | h; exact absurd h.symm c; exact h)]
   omega
structure PayOk (rs : List (Nat × Rat)) (hf : Str -> Nat) (ss : List Str) (cs : Nat -> Int) (D : List Nat) (pay : Nat -> Str -> Int) : Prop where
 nn : ∀ k z, 0 <= pay k z
 on : ∀ k z, pay k z ≠ 0 -> k ∈ D /\ z ∈ ss /\ k ∈ wayL rs (hf z)
 full : ∀ k ∈ D, sm ss (pay k) = cs k
def ZiK (rs : List (Nat × Rat)) (hf : Str -> Nat) (cs : Nat -> Int) (a : Str -> Int) (G : List Str) : Prop := ∀ acc : List Nat, acc.Nodup -> (∀ k, k ∈ acc ↔ Z3 rs (G.map hf) k) -> sm acc cs < sm G a
theorem Z7 {rs : List (Nat × Rat)} {hf : Str -> Nat} {G : List Str} {k : Nat} (hO : ∀ z ∈ G, WayR rs (hf z) (wayL rs (hf z))) : Z3 rs (G.map hf) k ↔ ∃ z ∈ G, k ∈ wayL rs (hf z) := by
 rw [ZkQ]
 constructor
 ·rintro ⟨z, hz, w, hw, hk⟩
  exact ⟨z, hz, by rw [Jk hw]; exact hk⟩
 ·rintro ⟨z, hz, hk⟩
  exact ⟨z, hz, _, hO z hz, hk⟩
theorem ZiP {fr acc : List Nat} {cs g : Nat -> Int} (hn : acc.Nodup) (hfn : fr.Nodup) (hs : ∀ k ∈ acc, k ∈ fr) (hg : ∀ k ∈ fr, k ∉ acc -> 0 <= cs k - g k) (hg2 : ∀ k ∈ acc, g k = 0) : sm acc cs <= sm fr cs - sm fr g := by
 have hp : acc.Perm (fr.filter fun k => decide (k ∈ acc)) := (List.perm_ext_iff_of_nodup hn (hfn.filter _)).mpr fun k => by
  rw [YA]
  simp
  exact fun h => hs k h
 rw [Zba hp, Zas, <- ZiJ]
 refine ZmF fun k hk => ?_
 by_cases c : k ∈ acc
 ·rw [if_pos (by simpa using c), hg2 k c]; omega
 ·rw [if_neg (by simpa using c)]; exact hg k hk c
theorem ZhW {rs : List (Nat × Rat)} {hf : Str -> Nat} {ss U G : List Str} {cs : Nat -> Int} {a : Str -> Int} {D rest : List Nat} {r : Nat} {pay : Nat -> Str -> Int} (hO : ∀ z ∈ ss, WayR rs (hf z) (wayL rs (hf z))) (hfn : (D ++ r :: rest).Nodup)
  (hm : ∀ k, k ∈ D ++ r :: rest ↔ Z3 rs (ss.map hf) k) (hw : (D ++ r :: rest).Pairwise (fun a b => (wayL rs b).length <= (wayL rs a).length)) (hc : ∀ k, 0 <= cs k) (hP : PayOk rs hf ss cs D pay) (ht : sm (D ++ r :: rest) cs = sm ss a)
  (hU : U.Perm (ss.filter fun z => decide (r ∈ wayL rs (hf z)))) (hlt : sm U (fun z => a z - sm (D ++ r :: rest) (fun k => pay k z)) < cs r) (hG : G.Perm (ss.filter fun z => !decide (z ∈ U))) : ZiK rs hf cs a G := by
 intro acc han ham
 have hUm : ∀ z, z ∈ U ↔ z ∈ ss /\ r ∈ wayL rs (hf z) := fun z => by rw [hU.mem_iff, List.mem_filter]; simp
 have hGm : ∀ z, z ∈ G ↔ z ∈ ss /\ z ∉ U := fun z => by rw [hG.mem_iff, List.mem_filter]; simp
 have hOG : ∀ z ∈ G, WayR rs (hf z) (wayL rs (hf z)) := fun z hz => hO z ((hGm z).mp hz).1
 -- what those who use r have paid, road by road
 let u : Nat -> Int := fun k => sm U (pay k)
 let g : Nat -> Int := fun k => u k + if k = r then cs k else 0
 have hrf : r ∈ D ++ r :: rest := by simp
 have hrD : r ∉ D := fun c => (Yaq.mp hfn).2.2 r c r (.head _) rfl
 have eU : sm ss (fun z => if decide (z ∈ U) = true then a z else 0) = sm U a := by
  rw [<- Zas]
  refine Zba ?_ a
  refine List.Perm.trans (List.Perm.of_eq ?_) hU.symm
  refine List.filter_congr fun z hz => ?_
  rw [decide_eq_decide, hUm]
  exact ⟨fun h => h.2, fun h => ⟨hz, h⟩⟩
 have e1 : sm ss a = sm U a + sm G a := by
  rw [Zfr ss (fun z => decide (z ∈ U)), Zas ss (fun z => decide (z ∈ U)), eU, Zba hG]
 have e2 : sm U (fun z => a z - sm (D ++ r :: rest) (fun k => pay k z)) = sm U a - sm (D ++ r :: rest) u := by
  rw [ZiJ, Zdf]
 have e3 : sm (D ++ r :: rest) g = sm (D ++ r :: rest) u + cs r := by
  rw [Zfj, Zcz hfn hrf]
 have hu : ∀ k, u k <= cs k \/ k ∉ D := fun k => by
  by_cases c : k ∈ D
  ·left
   have : sm U (pay k) <= sm ss (pay k) := by
    rw [Zba hU, Zas]
    refine ZmF fun z _ => ?_
    split
    ·exact Int.le_refl _
    ·exact hP.nn k z
   rw [hP.full k c] at this
   exact this
  ·exact .inr c
 have hu0 : ∀ k, k ∉ D -> u k = 0 := fun k c => Ja fun z _ => by
  by_cases h : pay k z = 0
  ·exact h
  ·exact absurd (hP.on k z h).1 c
 have key := ZiP (cs := cs) (g := g) han hfn (fun k hk => ?_) (fun k hk hka => ?_) fun k hk => ?_
 ·omega
 ·-- a road needed by others is needed by all
  obtain ⟨z, hz, hkz⟩ := (Z7 hOG).mp ((ham k).mp hk)
  exact (hm k).mpr ((Z7 hO).mpr ⟨z, ((hGm z).mp hz).1, hkz⟩)
 ·show 0 <= cs k - (u k + if k = r then cs k else 0)
  by_cases c : k = r
  ·rw [if_pos c, hu0 k (c ▸ hrD)]; omega
  ·rw [if_neg c]
   rcases hu k with h | h
   ·omega
   ·rw [hu0 k h]; have := hc k; omega
 ·show u k + (if k = r then cs k else 0) = 0
  obtain ⟨z, hz, hkz⟩ := (Z7 hOG).mp ((ham k).mp hk)
  obtain ⟨hzs, hzU⟩ := (hGm z).mp hz
  have hkr : k ≠ r := fun c => hzU ((hUm z).mpr ⟨hzs, c ▸ hkz⟩)
  rw [if_neg hkr, V7]
  refine Ja fun z' hz' => ?_
  by_cases h : pay k z' = 0
  ·exact h
  ·obtain ⟨hkD, hz's, hkz'⟩ := hP.on k z' h
   have hl : (wayL rs r).length <= (wayL rs k).length := (List.pairwise_append.mp hw).2.2 k hkD r (.head _)
   have hrk : r ∈ wayL rs k := ZhD (hO z' hz's) hkz' ((hUm z').mp hz').2 hl
   exact absurd ((hUm z).mpr ⟨hzs, Zhf (hO z hzs) hkz hrk⟩) hzU
structure Jd (H : Hp) (CT : Addr) (x : V) (d sd : Addr) (rs : List (Nat × Rat)) (o : Obj) (kvs svs : List (ZA × V)) (ss : List Str) (hf : Str -> Nat) (B : Nat) (a : Str -> Int) (cs : Nat -> Int) : Prop where
 tree : TreeV CT H x rs
 home : H d = some (.frz o (.dK kvs))
 keys : kvs.map (·.1) = ss.map Sum.inr
 share : Rd H sd (.dK svs)
 shv : ShV H svs ss (fun z => Zt B (a z))
 nd : ss.Nodup
 few : ss.length <= 12
 hat : ∀ gs : List Str, (∀ z ∈ gs, z ∈ ss) -> Zbd kvs gs (gs.map hf) rs.length
 rl : rs.length <= 20
 ok : Zbj rs
 sz : ∀ r ∈ rs, SzQ 110 r.2
 b0 : 0 < B
 b1 : B < 2 ^ 2600
 az : ∀ z ∈ ss, (a z).natAbs < 2 ^ 2600
 c0 : ∀ k, 0 <= cs k
 cz : ∀ k, (cs k).natAbs < 2 ^ 2600
 pr : ∀ k, 1 <= k -> k <= rs.length -> Zm rs k = Zt B (cs k)
 tot : ∀ ks : List Nat, ks.Nodup -> (∀ k, k ∈ ks ↔ Z3 rs (ss.map hf) k) -> sm ks cs = sm ss a
section
variable {H : Hp} {CT : Addr} {x : V} {d sd : Addr} {rs : List (Nat × Rat)} {o : Obj} {kvs svs : List (ZA × V)} {ss : List Str} {hf : Str -> Nat} {B : Nat} {a : Str -> Int} {cs : Nat -> Int}
theorem Jd.same (J : Jd H CT x d sd rs o kvs svs ss hf B a cs) {H' : Hp} (s : Same H H') : Jd H' CT x d sd rs o kvs svs ss hf B a cs :=
 { J with tree := J.tree.same s, home := s _ _ J.home, share := Zbt J.share s, shv := J.shv.keep fun b ys e => s _ _ e }
theorem Jd.kv (J : Jd H CT x d sd rs o kvs svs ss hf B a cs) : (kvs.map fun kv => kV kv.1) = ss.map V.str := by
 have := congrArg (List.map kV) J.keys
 rw [Yw, Yw] at this
 exact this
theorem Jd.kl (J : Jd H CT x d sd rs o kvs svs ss hf B a cs) : kvs.length = ss.length := by have := congrArg List.length J.keys; simpa using this
theorem Jd.way (J : Jd H CT x d sd rs o kvs svs ss hf B a cs) : ∀ z ∈ ss, WayR rs (hf z) (wayL rs (hf z)) := fun z hz => by
 have h := (J.hat [z] (fun y hy => by rw [YH.mp hy]; exact hz)).2 0 z (hf z) rfl rfl
 obtain ⟨w, hw, _⟩ := ZaT J.ok h.2
 rw [Jk hw]
 exact hw
theorem Jd.price (J : Jd H CT x d sd rs o kvs svs ss hf B a cs) {ks : List Nat} (h : ∀ k ∈ ks, 1 <= k /\ k <= rs.length) : Zpc rs ks = Zt B (sm ks cs) := by
 unfold Zpc
 have e : ks.map (Zm rs) = (ks.map cs).map (Zt B) := by
  rw [Yw]
  exact YL fun k hk => J.pr k (h k hk).1 (h k hk).2
 rw [e, ZcB J.b0 _ _ (by simp), List.take_of_length_le (by simp)]
 rfl
end
theorem ZpH {ss : List Str} {a : Str -> Int} (hl : ss.length <= 12) (h : ∀ z ∈ ss, (a z).natAbs < 2 ^ 2600) : (sm ss a).natAbs < 2 ^ 2700 := by
 have : ∀ l : List Str, (∀ z ∈ l, (a z).natAbs < 2 ^ 2600) -> (sm l a).natAbs <= l.length * 2 ^ 2600 := by
  intro l
  induction l with
  | nil => intro _; simp [Zhb]
  | cons z l ih =>
   intro h
   have h1 := ih fun y hy => h y (.tail _ hy)
   have h2 := h z (.head _)
   rw [Zz, YN, Nat.add_mul, Nat.one_mul]
   refine Yj (Int.natAbs_add_le _ _) ?_
   omega
 have h1 := this ss h
 refine Yy h1 ?_
 refine Yy (Nat.mul_le_mul_right _ hl) ?_
 rw [show (2700 : Nat) = 100 + 2600 from rfl, Vq]
 exact Nat.mul_lt_mul_of_pos_right (by decide) (V0 _)
def ZgP (CT : Addr) : Sp := fun vs H Q E => ∃ (x : V) (d : Addr) (kvs : List (ZA × V)), vs = [x, .ref d] /\ Rd H d (.dK kvs) /\ ∀ g H', H g = none -> Same H H' -> H' g = some (.lst (kvs.map fun kv => kV kv.1)) -> ZdT CT [x, .ref d, .ref g] H' Q E
def Zfp (CT : Addr) : Sp := fun vs H Q _ => ∃ (x : V) (d sd : Addr) (rs : List (Nat × Rat)) (o : Obj) (kvs svs : List (ZA × V)) (ss : List Str) (hf : Str -> Nat) (B : Nat) (a : Str -> Int) (cs : Nat -> Int), vs = [x, .ref d, .ref sd] /\ Jd H CT x d sd rs o kvs svs ss hf B a cs /\ ∀ H', Same H H' -> Q .non H'
section
variable {P : Program} {w : World} {K : PySem.W.Frag} {mg : Str -> Option Value} {base : Heap} {f pt : Addr} {fd : FuncData} {CT CNP : Addr}
theorem ZkF (F : Fun K "look_sharing" "look_sharing" ZaF f fd) (n_set : mg "set" = none) (n_list : mg "list" = none) (F_total_of : Fn P w K mg base Zw 4 "total_of" ["some"] (ZbX K)) (F_cost_of_all : Fn P w K mg base Zw 6 "cost_of_all" ["tree", "homes"] (ZgP CT)) : FnOk P w K mg base Zw 7 f fd ["tree", "homes", "sharing"] (Zfp CT) := by
 refine JL F ZcK (fun vs H Q E h => ?_) (fun cdv A outer s H vs Q E hr h => ?_)
 ·obtain ⟨x, d, sd, rs, o, kvs, svs, ss, hf, B, a, cs, rfl, _⟩ := h; rfl
 obtain ⟨x, d, sd, rs, o, kvs, svs, ss, hf, B, a, cs, rfl, J, q⟩ := h
 refine ⟨_, (Zd (Z4 (Zmg (Nat.lt_of_succ_lt (Jh hr)) rfl n_set (Zh (Ze 2) Za) (Zh (Ze 1) Za)) (Zg Jt) ZN)
   (Zg (Z4 (Zo1 hr (Zy F_total_of hr (by decide) rfl (Zh (Zgb rfl n_list (Ze 2)) Za)) (Zy F_cost_of_all hr (by decide) rfl (Zh (Ze 0) (Zh (Ze 1) Za)))) (Zg Jt) ZN))), ?_⟩
 rw [show Zu ["tree", "homes", "sharing"] [x, .ref d, .ref sd] = [some (x), some (.ref d), some (.ref sd)] from rfl]
 refine ZB fun R0 hR0 => ?_
 refine Jv fun A0 hA0 C0 hC0 => ?_
 simp only [Zhh, tB]
 walk_at "rd"
 have hsk := J.shv.keys
 refine ⟨svs, J.share, by rw [J.shv.1]; have := J.few; omega, kvs, .inr ⟨o, J.home⟩, by rw [J.kl]; have := J.few; omega, fun r hr => ?_⟩
 have hrt : r = true := hr.mpr ⟨by rw [J.kl]; exact J.shv.1, fun k hk => by rw [J.keys]; rw [hsk] at hk; exact hk⟩
 rw [hrt, if_neg (by decide)]
 subst hC0
 walk_at "rd"
 subst hR0
 try dsimp only
 refine Jv fun A0 hA0 C0 hC0 => ?_
 walk_at "rd"
 simp only [Zlq]
 walk_at "rd"
 refine ⟨svs, J.share, fun l H1 hl s1 e1 => ?_⟩
 have hRv : RatsV H1 (svs.map (·.2)) ((ss.map a).map (Zt B)) := ⟨by simp [J.shv.1], fun i v t h1 h2 => by
  rw [Yh] at h1
  rw [Yw, Yh] at h2
  obtain ⟨z, hz, rfl⟩ := YD.mp h2
  obtain ⟨v', e', r'⟩ := J.shv.2 i z hz
  rw [e'] at h1
  cases h1
  exact r'.same s1⟩
 refine ⟨l, svs.map (·.2), _, rfl, .of e1, hRv, Zeh J.b0 J.b1 (fun m hm => ?_), by simp; have := J.few; omega, fun r1 H2 s2 v1 => ?_⟩
 ·obtain ⟨z, hz, rfl⟩ := Yl.mp hm
  exact Yt (J.az z hz) (Va (by decide) (by decide))
 rw [ZfG J.b0] at v1
 have s12 := s1.trans s2
 refine ⟨x, d, kvs, rfl, .inr ⟨o, s12 _ _ J.home⟩, fun g H3 hg s3 e3 => ?_⟩
 rw [J.kv] at e3
 have s13 := s12.trans s3
 refine ⟨x, rs, d, g, kvs, ss, ss.map hf, rfl, J.tree.same s13, .inr ⟨o, s13 _ _ J.home⟩, e3, J.hat ss fun _ hz => hz, J.rl, by have := J.few; omega, J.ok, J.sz, fun r2 H4 ks s4 hpw hmem v2 _ => ?_⟩
 have hkn : ks.Nodup := hpw.imp fun h e => by rw [e] at h; exact YR _ h
 rw [J.price fun k hk => ZR ((hmem k).mp hk), J.tot ks hkn hmem] at v2
 obtain ⟨p1, p2, rfl, rfl, he⟩ := ZbH (v1.same (s3.trans s4)) v2
 refine ⟨true, 1, p1, p2, rfl, rfl, he, by decide, _, rfl, ?_⟩
 rw [if_neg (by decide)]
 subst hC0
 walk_at "rd"
 exact q H4 (s13.trans s4)
end
def Jz (rows : List (Str × Int)) (z : Str) : Int := sm rows fun p => if z = p.1 then p.2 else 0
theorem Zmp (z : Str) : Jz [] z = 0 := rfl
theorem ZdI {rows : List (Str × Int)} {i : Nat} {p : Str × Int} (h : rows[i]? = some p) (z : Str) : Jz (rows.take (i + 1)) z = Jz (rows.take i) z + if z = p.1 then p.2 else 0 := by
 unfold Jz
 rw [Yp, h, ZaK]
 simp [sm]
theorem ZfM {rows : List (Str × Int)} (h : ∀ p ∈ rows, 0 <= p.2) (i : Nat) (z : Str) : 0 <= Jz (rows.take i) z /\ Jz (rows.take i) z <= Jz rows z := by
 have hn : ∀ l : List (Str × Int), (∀ p ∈ l, 0 <= p.2) -> 0 <= Jz l z := fun l hl => ZaU fun p hp => by
  show 0 <= if z = p.1 then p.2 else 0
  split
  ·exact hl p hp
  ·exact Int.le_refl _
 have e : Jz rows z = Jz (rows.take i) z + Jz (rows.drop i) z := by
  unfold Jz
  rw [<- ZaK, Yaj]
 have h1 := hn (rows.take i) fun p hp => h p (List.mem_of_mem_take hp)
 have h2 := hn (rows.drop i) fun p hp => h p (List.mem_of_mem_drop hp)
 omega
theorem ZdB : ∀ (ts : List Str) (d : Int) (l : Str -> Int), ts.Nodup -> 0 <= d -> (∀ z ∈ ts, 0 <= l z) -> ∀ z, 0 <= Jz (ts.zip (ZH d (ts.map l))) z /\ (z ∉ ts -> Jz (ts.zip (ZH d (ts.map l))) z = 0) /\ (z ∈ ts -> Jz (ts.zip (ZH d (ts.map l))) z <= l z)
 | [], _, _, _, _, _, z => ⟨Int.le_refl _, fun _ => rfl, fun h => by cases h⟩
 | y :: ts, d, l, hn, hd, hl, z => by
  rw [Y4] at hn
  have h0 := hl y (.head _)
  obtain ⟨h1, h2, h3⟩ := ZdB ts (d - min (l y) d) l hn.2 (by omega) (fun x hx => hl x (.tail _ hx)) z
  rw [Yq, ZH, List.zip_cons_cons]
  unfold Jz at h1 h2 h3 ⊢
  rw [Zz]
  dsimp only
  by_cases c : z = y
  ·subst c
   rw [if_pos rfl, h2 hn.1]
   exact ⟨by omega, fun h => absurd (Vc ..) h, fun _ => by omega⟩
  ·rw [if_neg c]
   refine ⟨by omega, fun h => ?_, fun h => ?_⟩
   ·rw [h2 fun hm => h (.tail _ hm)]; rfl
   ·have := h3 (by rcases Yn.mp h with h | h; exact absurd h c; exact h)
    omega
def Zi (ts : List Str) (d : Int) (l : Str -> Int) : List (Str × Int) := (ts.zip (ZH d (ts.map l))).filter fun p => decide (0 < p.2)
theorem Zgl {ts : List Str} {d : Int} {l : Str -> Int} (hd : 0 <= d) (hl : ∀ z ∈ ts, 0 <= l z) : ∀ p ∈ ts.zip (ZH d (ts.map l)), 0 <= p.2 := fun p hp => by
 obtain ⟨i, hi, e⟩ := Vv hp
 rw [List.getElem_zip] at e
 have hi1 : i < ts.length := by rw [Vf] at hi; omega
 have hi2 : i < (ZH d (ts.map l)).length := by rw [Vf] at hi; omega
 have := (Zdi d (ts.map l) hd (fun x hx => by obtain ⟨z, hz, rfl⟩ := Yl.mp hx; exact hl z hz)).1 i (l ts[i]) (ZH d (ts.map l))[i] (by rw [Yh, Yc hi1]; rfl) (Yc hi2)
 rw [<- e]
 exact this.1
theorem Zbg {ts : List Str} {d : Int} {l : Str -> Int} (hd : 0 <= d) (hl : ∀ z ∈ ts, 0 <= l z) (z : Str) : Jz (Zi ts d l) z = Jz (ts.zip (ZH d (ts.map l))) z := by
 unfold Jz Zi
 rw [Zas]
 refine ZX fun p hp => ?_
 have := Zgl hd hl p hp
 by_cases c : 0 < p.2
 ·rw [if_pos (YQ c)]
 ·rw [if_neg (by simpa using c)]
  split
  ·omega
  ·rfl
theorem Zjz {ss ts : List Str} {d : Int} {l : Str -> Int} (hn : ss.Nodup) (hs : ∀ z ∈ ts, z ∈ ss) (hd : 0 <= d) (hl : ∀ z ∈ ts, 0 <= l z) (hge : d <= sm ts l) : sm ss (Jz (Zi ts d l)) = d := by
 rw [ZX fun z _ => Zbg hd hl z]
 unfold Jz
 rw [Zdf]
 have e : sm (ts.zip (ZH d (ts.map l))) (fun y => sm ss fun x => if x = y.1 then y.2 else 0) = sm (ts.zip (ZH d (ts.map l))) (fun p => p.2) := ZX fun p hp => by
  have hp1 : p.1 ∈ ss := hs _ (VO hp).1
  exact Zcz hn hp1 fun _ => p.2
 rw [e]
 have e2 : sm (ts.zip (ZH d (ts.map l))) (fun p => p.2) = (ZH d (ts.map l)).sum := by
  unfold sm
  rw [show (ts.zip (ZH d (ts.map l))).map (fun p => p.2) = (ts.zip (ZH d (ts.map l))).map Prod.snd from rfl, List.map_snd_zip (by rw [ZcC, Yi]; exact Yd _)]
 rw [e2]
 exact (Zdi d (ts.map l) hd fun x hx => by obtain ⟨z, hz, rfl⟩ := Yl.mp hx; exact hl z hz).2 hge
theorem Za5 {ts : List Str} {d : Int} {l : Str -> Int} {p : Str × Int} (h : p ∈ Zi ts d l) : p.1 ∈ ts /\ 0 < p.2 := by
 obtain ⟨h1, h2⟩ := YA.mp h
 exact ⟨(List.of_mem_zip h1).1, by simpa using h2⟩
theorem ZjZ {rs : List (Nat × Rat)} {hf : Str -> Nat} {ss ts : List Str} {cs : Nat -> Int} {a : Str -> Int} {fr : List Nat} {i r : Nat} {pay : Nat -> Str -> Int} (hn : ss.Nodup) (hfn : fr.Nodup) (hr : fr[i]? = some r) (hc : ∀ k, 0 <= cs k) (hP : PayOk rs hf ss cs (fr.take i) pay)
  (hU : ts.Perm (ss.filter fun z => decide (r ∈ wayL rs (hf z)))) (hl : ∀ z ∈ ss, 0 <= a z - sm fr (fun k => pay k z)) (hge : cs r <= sm ts fun z => a z - sm fr (fun k => pay k z)) :
  ∃ pay', PayOk rs hf ss cs (fr.take (i + 1)) pay' /\ (∀ z, a z - sm fr (fun k => pay' k z) = (a z - sm fr (fun k => pay k z)) - Jz (Zi ts (cs r) fun z => a z - sm fr (fun k => pay k z)) z) /\ (∀ k z, k ≠ r -> pay' k z = pay k z) /\ ∀ z, pay' r z = Jz (Zi ts (cs r) fun z => a z - sm fr (fun k => pay k z)) z := by
 have hts : ∀ z ∈ ts, z ∈ ss /\ r ∈ wayL rs (hf z) := fun z hz => by have := List.mem_filter.mp (hU.mem_iff.mp hz); simpa using this
 have hlt : ∀ z ∈ ts, 0 <= a z - sm fr (fun k => pay k z) := fun z hz => hl z (hts z hz).1
 have htn : ts.Nodup := hU.symm.nodup (hn.filter _)
 have hrD : r ∉ fr.take i := fun c => by
  have h1 : (fr.take (i + 1)).Nodup := hfn.sublist (Vn _ _)
  rw [Yp, hr] at h1
  exact (List.nodup_append.mp h1).2.2 r c r (by simp) rfl
 have h0 : ∀ z, pay r z = 0 := fun z => by
  by_cases h : pay r z = 0
  ·exact h
  ·exact absurd (hP.on r z h).1 hrD
 have hz := ZdB ts (cs r) (fun z => a z - sm fr (fun k => pay k z)) htn (hc r) hlt
 have tk : ∀ k, k ∈ fr.take (i + 1) ↔ k ∈ fr.take i \/ k = r := fun k => by rw [List.take_add_one, hr, List.mem_append]; simp
 refine ⟨fun k z => if k = r then Jz (Zi ts (cs r) fun z => a z - sm fr (fun k => pay k z)) z else pay k z, ⟨fun k z => ?_, fun k z h => ?_, fun k hk => ?_⟩, fun z => ?_, fun k z h => if_neg h, fun z => if_pos rfl⟩
 ·show 0 <= if k = r then _ else _
  split
  ·rw [Zbg (hc r) hlt]; exact (hz z).1
  ·exact hP.nn k z
 ·by_cases c : k = r
  ·have h : Jz (Zi ts (cs r) fun z => a z - sm fr (fun k => pay k z)) z ≠ 0 := by simpa [c] using h
   rw [Zbg (hc r) hlt] at h
   have hzt : z ∈ ts := Vt fun hn => h ((hz z).2.1 hn)
   exact ⟨(tk k).mpr (.inr c), (hts z hzt).1, c ▸ (hts z hzt).2⟩
  ·have h : pay k z ≠ 0 := by simpa [c] using h
   obtain ⟨h1, h2, h3⟩ := hP.on k z h
   exact ⟨(tk k).mpr (.inl h1), h2, h3⟩
 ·by_cases c : k = r
  ·subst c
   simp only [if_true]
   exact Zjz hn (fun z hz => (hts z hz).1) (hc k) hlt hge
  ·simp only [if_neg c]
   exact hP.full k (((tk k).mp hk).resolve_right c)
 ·have hrf : r ∈ fr := Yo hr
  have e : sm fr (fun k => if k = r then Jz (Zi ts (cs r) fun z => a z - sm fr (fun k => pay k z)) z else pay k z) = sm fr (fun k => pay k z) + sm fr (fun k => if k = r then Jz (Zi ts (cs r) fun z => a z - sm fr (fun k => pay k z)) z else 0) := by
   rw [<- Zfj]
   refine ZX fun k _ => ?_
   by_cases c : k = r
   ·rw [if_pos c, if_pos c, c, h0]; omega
   ·rw [if_neg c, if_neg c]; omega
  show a z - sm fr (fun k => if k = r then _ else _) = _
  rw [e, Zcz hfn hrf fun _ => Jz (Zi ts (cs r) fun z => a z - sm fr (fun k => pay k z)) z]
  omega
theorem ZiQ {rs : List (Nat × Rat)} {hf : Str -> Nat} {ss : List Str} {cs : Nat -> Int} {a : Str -> Int} {fr : List Nat} {pay : Nat -> Str -> Int} (hP : PayOk rs hf ss cs fr pay) (hl : ∀ z ∈ ss, 0 <= a z - sm fr (fun k => pay k z)) (ht : sm fr cs = sm ss a) : ∀ z ∈ ss, a z = sm fr (fun k => pay k z) := fun z hz => by
 have h1 := ZcG hl hz
 rw [ZiJ, Zdf, <- ht, ZX (f := fun y => sm ss (pay y)) (g := cs) fun k hk => hP.full k hk] at h1
 have h2 := hl z hz
 omega
theorem ZoM {rs : List (Nat × Rat)} {hf : Str -> Nat} {ss G : List Str} {cs : Nat -> Int} {a : Str -> Int} {z : Str} (hO : ∀ z ∈ ss, WayR rs (hf z) (wayL rs (hf z))) (hn : ss.Nodup) (hc : ∀ k, 0 <= cs k) (htot : ∀ ks : List Nat, ks.Nodup -> (∀ k, k ∈ ks ↔ Z3 rs (ss.map hf) k) -> sm ks cs = sm ss a)
  (hz : z ∈ ss) (ha : a z < 0) (hG : G.Perm (ss.filter fun y => !decide (y ∈ [z]))) : ZiK rs hf cs a G := by
 classical
 intro acc han ham
 have hnr : (List.range' 1 rs.length).Nodup := (List.pairwise_lt_range' (s := 1) (n := rs.length)).imp fun h e => by rw [e] at h; exact YR _ h
 have hGm : ∀ y ∈ G, y ∈ ss := fun y hy => (YA.mp (hG.mem_iff.mp hy)).1
 have hks := htot ((List.range' 1 rs.length).filter fun k => decide (Z3 rs (ss.map hf) k)) (hnr.filter _) fun k => by
  rw [YA, VL, Ve]
  exact ⟨fun h => h.2, fun h => ⟨⟨(ZR h).1, by have := (ZR h).2; omega⟩, h⟩⟩
 have key := ZiP (cs := cs) (g := fun _ => 0) han (hnr.filter fun k => decide (Z3 rs (ss.map hf) k)) (fun k hk => ?_) (fun k _ _ => by have := hc k; omega) fun _ _ => rfl
 ·rw [hks, Ja (f := fun _ => 0) fun _ _ => rfl] at key
  have e1 : sm ss a = sm (ss.filter fun y => decide (y ∈ [z])) a + sm (ss.filter fun y => !decide (y ∈ [z])) a := Zfr ss (fun y => decide (y ∈ [z])) a
  have e2 : sm (ss.filter fun y => decide (y ∈ [z])) a = a z := by
   rw [Zas]
   have : (fun x => if decide (x ∈ [z]) = true then a x else 0) = fun x => if x = z then a x else 0 := by
    funext x
    simp
   rw [this]
   exact Zcz hn hz a
  rw [Zba hG]
  omega
 ·obtain ⟨y, hy, hky⟩ := (Z7 fun z hz => hO z (hGm z hz)).mp ((ham k).mp hk)
  have hN : Z3 rs (ss.map hf) k := (Z7 hO).mpr ⟨y, hGm y hy, hky⟩
  rw [YA, VL, Ve]
  exact ⟨⟨(ZR hN).1, by have := (ZR hN).2; omega⟩, hN⟩
def Zqh (B : Nat) (H : Hp) (v : V) (p : Nat × Str × Int) : Prop := ∃ t r, v = .ref t /\ H t = some (.tup [.int (p.1 : Int), .str p.2.1, r]) /\ RatV H r (Zt B p.2.2)
def Zli (B : Nat) (H : Hp) (tvs : List V) (ps : List (Nat × Str × Int)) : Prop := ListV (Zqh B) H tvs ps
theorem ZbL {B : Nat} : ZeB (Zqh B) := fun H H' v p h s => let ⟨t, r, a1, a2, a3⟩ := h; ⟨t, r, a1, s _ _ a2, a3.keep s⟩
def Jg (ps : List (Nat × Str × Int)) (k : Nat) : Int := sm ps fun p => if p.1 = k then p.2.2 else 0
def Jr (ps : List (Nat × Str × Int)) (z : Str) : Int := sm ps fun p => if z = p.2.1 then p.2.2 else 0
structure TabI (rs : List (Nat × Rat)) (hf : Str -> Nat) (ss : List Str) (D fr : List Nat) (pay : Nat -> Str -> Int) (ps : List (Nat × Str × Int)) : Prop where
 row : ∀ p ∈ ps, p.1 ∈ D /\ p.2.1 ∈ ss /\ p.1 ∈ wayL rs (hf p.2.1) /\ 0 < p.2.2
 one : (ps.map fun p => (p.1, p.2.1)).Nodup
 road : ∀ k, Jg ps k = sm ss (pay k)
 name : ∀ z, Jr ps z = sm fr (fun k => pay k z)
theorem ZmT {rows : List (Str × Int)} {z : Str} (h : z ∉ rows.map (·.1)) : Jz rows z = 0 := Ja fun p hp => by
 have hne : z ≠ p.1 := fun e => h (by rw [e]; exact List.mem_map_of_mem hp)
 show (if z = p.1 then p.2 else 0) = 0
 rw [if_neg hne]
theorem Zlv : ∀ {rows : List (Str × Int)} {p : Str × Int}, (rows.map (·.1)).Nodup -> p ∈ rows -> Jz rows p.1 = p.2
 | [], _, _, h => by cases h
 | q :: rows, p, hn, h => by
  rw [Yq, Y4] at hn
  unfold Jz
  rw [Zz]
  rcases Yn.mp h with rfl | h
  ·rw [if_pos rfl]
   have := ZmT hn.1
   unfold Jz at this
   omega
  ·have hne : p.1 ≠ q.1 := fun e => hn.1 (e ▸ List.mem_map_of_mem h)
   rw [if_neg hne]
   have := Zlv hn.2 h
   unfold Jz at this
   omega
theorem Zdb {ts : List Str} {d : Int} {l : Str -> Int} (hn : ts.Nodup) : ((Zi ts d l).map (·.1)).Nodup := by
 have h1 : ((Zi ts d l).map (·.1)).Sublist ((ts.zip (ZH d (ts.map l))).map (·.1)) := (List.filter_sublist).map _
 rw [show (ts.zip (ZH d (ts.map l))).map (·.1) = (ts.zip (ZH d (ts.map l))).map Prod.fst from rfl, List.map_fst_zip (by rw [ZcC, Yi]; exact Yd _)] at h1
 exact hn.sublist h1
theorem Zei {y : Str} {ts : List Str} {d : Int} {l : Str -> Int} : Zi (y :: ts) d l = (if 0 < min (l y) d then [(y, min (l y) d)] else []) ++ Zi ts (d - min (l y) d) l := by
 unfold Zi
 rw [Yq, ZH, List.zip_cons_cons]
 by_cases c : 0 < min (l y) d
 ·rw [List.filter_cons_of_pos (by simpa using c), if_pos c]; rfl
 ·rw [List.filter_cons_of_neg (by simpa using c), if_neg c]; rfl
theorem Zd8 : ∀ {ts : List Str} {l : Str -> Int}, (∀ z ∈ ts, 0 <= l z) -> Zi ts 0 l = []
 | [], _, _ => rfl
 | y :: ts, l, h => by
  have h0 := h y (.head _)
  rw [Zei, if_neg (by omega), show (0 : Int) - min (l y) 0 = 0 by omega, Zd8 fun z hz => h z (.tail _ hz)]
  rfl
theorem Zed : ∀ {ts : List Str} {d : Int} {l : Str -> Int}, 0 <= d -> (∀ z ∈ ts, 0 <= l z) -> ((Zi ts d l).filter fun p => !decide (p.2 = l p.1)).length <= 1
 | [], _, _, _, _ => YB _
 | y :: ts, d, l, hd, h => by
  have h0 := h y (.head _)
  have h1 : ∀ z ∈ ts, 0 <= l z := fun z hz => h z (.tail _ hz)
  rw [Zei, VH, YS]
  by_cases c : l y <= d
  ·rw [show min (l y) d = l y by omega]
   have := Zed (ts := ts) (d := d - l y) (l := l) (by omega) h1
   split
   ·simp at this ⊢; exact this
   ·simp at this ⊢; exact this
  ·rw [show min (l y) d = d by omega, Int.sub_self, Zd8 h1]
   split
   ·exact Yj (Vp (Nat.add_zero _)) (YW _ _)
   ·exact YB _
theorem Zg7 {α : Type} (l : List α) (p : α -> Bool) : l.length = (l.filter p).length + (l.filter fun x => !p x).length := by
 induction l with
 | nil => rfl
 | cons x l ih =>
  by_cases c : p x = true
  ·rw [List.filter_cons_of_pos c, List.filter_cons_of_neg (by simp [c]), List.length_cons, List.length_cons, ih]; omega
  ·rw [List.filter_cons_of_neg c, List.filter_cons_of_pos (by simpa using c), List.length_cons, List.length_cons, ih]; omega
def Zn8 (l : Str -> Int) (ss : List Str) : Nat := (ss.filter fun z => decide (l z = 0)).length
theorem Zji {ss ts : List Str} {d : Int} {l : Str -> Int} (hn : ss.Nodup) (htn : ts.Nodup) (hts : ∀ z ∈ ts, z ∈ ss) (hd : 0 <= d) (hl : ∀ z ∈ ts, 0 <= l z) : (Zi ts d l).length + Zn8 l ss <= 1 + Zn8 (fun z => l z - Jz (Zi ts d l) z) ss := by
 have h1 := Zed hd hl
 have hz := ZdB ts d l htn hd hl
 have hra := Zbg hd hl
 have hnm := Zdb (d := d) (l := l) htn
 have hsp : (Zi ts d l).length = ((Zi ts d l).filter fun p => decide (p.2 = l p.1)).length + ((Zi ts d l).filter fun p => !decide (p.2 = l p.1)).length := Zg7 _ _
 have hsub : (ss.filter (fun z => decide (l z = 0)) ++ ((Zi ts d l).filter fun p => decide (p.2 = l p.1)).map (·.1)).length <= (ss.filter fun z => decide (l z - Jz (Zi ts d l) z = 0)).length := by
  refine VW ?_ fun z hz' => ?_
  ·refine Yaq.mpr ⟨hn.filter _, hnm.sublist (List.filter_sublist.map _), fun x hx y hy e => ?_⟩
   obtain ⟨p, hp, rfl⟩ := Yl.mp hy
   have hp' := YA.mp hp
   have := (Za5 hp'.1).2
   have e1 : p.2 = l p.1 := by simpa using hp'.2
   have e2 : l x = 0 := by simpa using (List.mem_filter.mp hx).2
   rw [e] at e2
   omega
  ·rcases Yx.mp hz' with h | h
   ·obtain ⟨g1, g2⟩ := YA.mp h
    have g2 : l z = 0 := by simpa using g2
    refine YA.mpr ⟨g1, ?_⟩
    have g3 := hz z
    rw [<- hra z] at g3
    have : Jz (Zi ts d l) z = 0 := by
     by_cases c : z ∈ ts
     ·have := g3.2.2 c; have := g3.1; omega
     ·exact g3.2.1 c
    rw [g2, this]
    rfl
   ·obtain ⟨p, hp, rfl⟩ := Yl.mp h
    obtain ⟨g1, g2⟩ := YA.mp hp
    have g2 : p.2 = l p.1 := by simpa using g2
    refine YA.mpr ⟨hts _ (Za5 g1).1, ?_⟩
    rw [Zlv hnm g1]
    simp
    omega
 rw [YS, Yi] at hsub
 show (Zi ts d l).length + (ss.filter fun z => decide (l z = 0)).length <= 1 + (ss.filter fun z => decide (l z - Jz (Zi ts d l) z = 0)).length
 omega
theorem ZmR (ps qs : List (Nat × Str × Int)) (z : Str) : Jr (ps ++ qs) z = Jr ps z + Jr qs z := by unfold Jr; rw [ZaK]
theorem Zm2 (ps qs : List (Nat × Str × Int)) (k : Nat) : Jg (ps ++ qs) k = Jg ps k + Jg qs k := by unfold Jg; rw [ZaK]
theorem ZmM (r : Nat) (rows : List (Str × Int)) (z : Str) : Jr (rows.map fun p => (r, p.1, p.2)) z = Jz rows z := by
 unfold Jr Jz sm
 rw [Yw]
 rfl
theorem ZlC (r k : Nat) (rows : List (Str × Int)) : Jg (rows.map fun p => (r, p.1, p.2)) k = if r = k then sm rows (fun p => p.2) else 0 := by
 unfold Jg sm
 rw [Yw]
 split
 ·rename_i h
  refine congrArg List.sum (YL fun p _ => ?_)
  show (if r = k then p.2 else 0) = p.2
  rw [if_pos h]
 ·rename_i h
  have : (rows.map ((fun p : Nat × Str × Int => if p.1 = k then p.2.2 else 0) ∘ fun p => (r, p.1, p.2))) = rows.map fun _ => (0 : Int) := YL fun p _ => by
   show (if r = k then p.2 else 0) = 0
   rw [if_neg h]
  rw [this]
  have := Ja (l := rows) (f := fun _ => 0) fun _ _ => rfl
  exact this
theorem Zjm {ss ts : List Str} {d : Int} {l : Str -> Int} (hn : ss.Nodup) (hs : ∀ z ∈ ts, z ∈ ss) : sm (Zi ts d l) (fun p => p.2) = sm ss (Jz (Zi ts d l)) := by
 unfold Jz
 rw [Zdf]
 refine ZX fun p hp => ?_
 exact (Zcz hn (hs _ (Za5 hp).1) fun _ => p.2).symm
theorem ZjU {rs : List (Nat × Rat)} {hf : Str -> Nat} {ss ts : List Str} {cs : Nat -> Int} {a : Str -> Int} {fr : List Nat} {i r : Nat} {pay : Nat -> Str -> Int} {ps : List (Nat × Str × Int)} (hn : ss.Nodup) (hfn : fr.Nodup) (hr : fr[i]? = some r) (hc : ∀ k, 0 <= cs k) (hP : PayOk rs hf ss cs (fr.take i) pay)
  (hU : ts.Perm (ss.filter fun z => decide (r ∈ wayL rs (hf z)))) (hl : ∀ z ∈ ss, 0 <= a z - sm fr (fun k => pay k z)) (hge : cs r <= sm ts fun z => a z - sm fr (fun k => pay k z)) (hT : TabI rs hf ss (fr.take i) fr pay ps) :
  ∃ pay', PayOk rs hf ss cs (fr.take (i + 1)) pay' /\ (∀ z, a z - sm fr (fun k => pay' k z) = (a z - sm fr (fun k => pay k z)) - Jz (Zi ts (cs r) fun z => a z - sm fr (fun k => pay k z)) z) /\
   TabI rs hf ss (fr.take (i + 1)) fr pay' (ps ++ (Zi ts (cs r) fun z => a z - sm fr (fun k => pay k z)).map fun p => (r, p.1, p.2)) := by
 obtain ⟨pay', h1, h2, h3, h4⟩ := ZjZ hn hfn hr hc hP hU hl hge
 have hts : ∀ z ∈ ts, z ∈ ss /\ r ∈ wayL rs (hf z) := fun z hz => by have := List.mem_filter.mp (hU.mem_iff.mp hz); simpa using this
 have htn : ts.Nodup := hU.symm.nodup (hn.filter _)
 have hrD : r ∉ fr.take i := fun c => by
  have h1 : (fr.take (i + 1)).Nodup := hfn.sublist (Vn _ _)
  rw [Yp, hr] at h1
  exact (List.nodup_append.mp h1).2.2 r c r (by simp) rfl
 have tk : ∀ k, k ∈ fr.take (i + 1) ↔ k ∈ fr.take i \/ k = r := fun k => by rw [List.take_add_one, hr, List.mem_append]; simp
 refine ⟨pay', h1, h2, fun p hp => ?_, ?_, fun k => ?_, fun z => ?_⟩
 ·rcases Yx.mp hp with hp | hp
  ·have := hT.row p hp
   exact ⟨(tk _).mpr (.inl this.1), this.2⟩
  ·obtain ⟨q, hq, rfl⟩ := Yl.mp hp
   have := Za5 hq
   exact ⟨(tk _).mpr (.inr rfl), (hts _ this.1).1, (hts _ this.1).2, this.2⟩
 ·rw [YY, Yw]
  refine Yaq.mpr ⟨hT.one, ?_, fun x hx y hy e => ?_⟩
  ·have h5 := Zdb (d := cs r) (l := fun z => a z - sm fr (fun k => pay k z)) htn
   have h6 : (Zi ts (cs r) fun z => a z - sm fr (fun k => pay k z)).map ((fun p : Nat × Str × Int => (p.1, p.2.1)) ∘ fun p => (r, p.1, p.2)) = ((Zi ts (cs r) fun z => a z - sm fr (fun k => pay k z)).map (·.1)).map fun z => (r, z) := by rw [Yw]; rfl
   rw [h6]
   exact Vx.mpr (h5.imp fun h e => h (by injection e))
  ·obtain ⟨p, hp, rfl⟩ := Yl.mp hx
   obtain ⟨q, _, rfl⟩ := Yl.mp hy
   have e1 : p.1 = r := congrArg Prod.fst e
   exact hrD (e1 ▸ (hT.row p hp).1)
 ·rw [Zm2, ZlC, hT.road k]
  have h5 := Zjm (d := cs r) (l := fun z => a z - sm fr (fun k => pay k z)) hn fun z hz => (hts z hz).1
  by_cases c : r = k
  ·subst c
   rw [if_pos rfl, h5, ZX (f := pay' r) fun z _ => h4 z]
   have : sm ss (pay r) = 0 := Ja fun z _ => Vt fun h => hrD (hP.on r z h).1
   omega
  ·rw [if_neg c, V7]
   exact ZX fun z _ => (h3 k z (Ne.symm c)).symm
 ·rw [ZmR, ZmM, hT.name z]
  have := h2 z
  omega
theorem Zmz {rs : List (Nat × Rat)} {hf : Str -> Nat} {ss : List Str} {D fr : List Nat} : TabI rs hf ss D fr (fun _ _ => 0) [] := ⟨(fun p hp => by cases hp), List.nodup_nil, fun k => (Ja fun _ _ => rfl).symm, fun z => (Ja fun _ _ => rfl).symm⟩
structure TabOk (rs : List (Nat × Rat)) (hf : Str -> Nat) (ss : List Str) (cs : Nat -> Int) (a : Str -> Int) (qs : List (Nat × Str × Int)) : Prop where
 row : ∀ p ∈ qs, 1 <= p.1 /\ p.1 <= rs.length /\ p.2.1 ∈ ss /\ p.1 ∈ wayL rs (hf p.2.1) /\ 0 < p.2.2
 up : qs.Pairwise fun x y => ZS (x.1, x.2.1) (y.1, y.2.1) = true
 few : qs.length < 64
 road : ∀ k, Z3 rs (ss.map hf) k -> Jg qs k = cs k
 name : ∀ z ∈ ss, Jr qs z = a z
theorem Zd3 {α β : Type} {g : α -> β} {l m : List β} (h : l.Perm m) : ∀ Z : List α, m = Z.map g -> ∃ Z' : List α, Z'.Perm Z /\ l = Z'.map g := by
 induction h with
 | nil => intro Z e; exact ⟨[], by rw [List.map_eq_nil_iff.mp e.symm], rfl⟩
 | cons x _ ih =>
  intro Z e
  obtain ⟨z, Z0, rfl, rfl, e0⟩ := List.map_eq_cons_iff.mp e.symm
  obtain ⟨Z', h1, h2⟩ := ih Z0 e0.symm
  exact ⟨z :: Z', h1.cons z, by rw [h2]; rfl⟩
 | swap x y l =>
  intro Z e
  obtain ⟨z, Z0, rfl, rfl, e0⟩ := List.map_eq_cons_iff.mp e.symm
  obtain ⟨z1, Z1, rfl, rfl, rfl⟩ := List.map_eq_cons_iff.mp e0
  exact ⟨z1 :: z :: Z1, .swap .., rfl⟩
 | trans _ _ ih1 ih2 =>
  intro Z e
  obtain ⟨Z1, h1, e1⟩ := ih2 Z e
  obtain ⟨Z2, h2, e2⟩ := ih1 Z1 e1
  exact ⟨Z2, h2.trans h1, e2⟩
theorem Zf9 {B : Nat} {H : Hp} {tvs : List V} {ps : List (Nat × Str × Int)} {qs : List (V × Int × Str)} (hT : Zli B H tvs ps) (hp : qs.Perm ((tvs.zip ps).map fun x => (x.1, (x.2.1 : Int), x.2.2.1))) (hw : qs.Pairwise fun x y => ZS x.2 y.2 = true) :
  ∃ ps', ps'.Perm ps /\ Zli B H (qs.map (·.1)) ps' /\ ps'.Pairwise fun x y => ZS (x.1, x.2.1) (y.1, y.2.1) = true := by
 obtain ⟨Z, h1, rfl⟩ := Zd3 hp _ rfl
 have hl : tvs.length = ps.length := hT.1
 refine ⟨Z.map (·.2), ?_, ⟨by simp, fun i x p hx hp' => ?_⟩, List.pairwise_map.mpr (List.pairwise_map.mp hw)⟩
 ·have := h1.map Prod.snd
  rw [List.map_snd_zip (by omega)] at this
  exact this
 ·rw [Yw, Yh] at hx
  rw [Yh] at hp'
  obtain ⟨z, hz, rfl⟩ := YD.mp hx
  rw [hz] at hp'
  cases hp'
  obtain ⟨j, hj, e⟩ := Vv (h1.mem_iff.mp (Yo hz))
  rw [List.getElem_zip] at e
  rw [Vf] at hj
  have hj1 : j < tvs.length := by omega
  have hj2 : j < ps.length := by omega
  rw [<- e]
  exact hT.2 j _ _ (Yc hj1) (Yc hj2)
theorem Zkm {B : Nat} {H : Hp} {tvs : List V} {ps : List (Nat × Str × Int)} (hT : Zli B H tvs ps) : ∀ x ∈ (tvs.zip ps).map (fun x => ((x.1, (x.2.1 : Int), x.2.2.1) : V × Int × Str)), ∃ t r, x.1 = .ref t /\ H t = some (.tup [.int x.2.1, .str x.2.2, r]) := fun x hx => by
 obtain ⟨z, hz, rfl⟩ := Yl.mp hx
 obtain ⟨j, hj, e⟩ := Vv hz
 rw [List.getElem_zip] at e
 rw [Vf] at hj
 obtain ⟨t, r, h1, h2, _⟩ := hT.2 j _ _ (Yc (show j < tvs.length by omega)) (Yc (show j < ps.length by omega))
 rw [<- e]
 exact ⟨t, r, h1, h2⟩
theorem Zfy {α β γ : Type} {tvs : List α} {ps : List β} (g : β -> γ) (hl : tvs.length = ps.length) : ((tvs.zip ps).map fun x => (x.1, g x.2)).map (·.1) = tvs /\ ((tvs.zip ps).map fun x => (x.1, g x.2)).map (·.2) = ps.map g := by
 rw [Yw, Yw]
 refine ⟨?_, ?_⟩
 ·show (tvs.zip ps).map Prod.fst = tvs
  exact List.map_fst_zip (by omega)
 ·show (tvs.zip ps).map (g ∘ Prod.snd) = _
  rw [<- Yw, List.map_snd_zip (by omega)]
theorem Zm4 {ps qs : List (Nat × Str × Int)} (h : ps.Perm qs) (z : Str) : Jr ps z = Jr qs z := Zba h _
theorem ZlG {ps qs : List (Nat × Str × Int)} (h : ps.Perm qs) (k : Nat) : Jg ps k = Jg qs k := Zba h _
def Zd9 (pt CT : Addr) : Sp := fun vs H Q _ => ∃ (x : V) (d sd : Addr) (rs : List (Nat × Rat)) (o : Obj) (kvs svs : List (ZA × V)) (ss : List Str) (hf : Str -> Nat) (B : Nat) (a : Str -> Int) (cs : Nat -> Int), vs = [x, .ref d, .ref sd] /\ Jd H CT x d sd rs o kvs svs ss hf B a cs /\ ZeR H pt "far_roads_first.<locals>.<lambda>" /\
 (∀ r H' g (G : List Str), H g = none -> Same H H' -> H' r = some (.tup [.str (Str.ofString "refused"), .ref g]) -> H' g = some (.lst (G.map V.str)) -> G.Pairwise leS -> G.Nodup -> (∀ z ∈ G, z ∈ ss) -> ZiK rs hf cs a G -> Q (.ref r) H') /\
 ∀ r H' g (tvs : List V) (qs : List (Nat × Str × Int)) (fr : List Nat) (pay : Nat -> Str -> Int), H g = none -> Same H H' -> H' r = some (.tup [.str (Str.ofString "good"), .ref g]) -> H' g = some (.lst tvs) -> Zli B H' tvs qs -> TabOk rs hf ss cs a qs -> (∀ k, k ∈ fr ↔ Z3 rs (ss.map hf) k) -> fr.Nodup -> PayOk rs hf ss cs fr pay -> (∀ z ∈ ss, a z = sm fr (fun k => pay k z)) -> Q (.ref r) H'
def Pj1 (H0 : Hp) (x : V) (d sd : Addr) (a : Str -> Int) (ts : List Str) (i : Nat) (σ : St) (H : Hp) : Prop := ∃ o : Option V, σ = [some x, some (.ref d), some (.ref sd), o, none, none, none, none, none] /\ Same H0 H /\ ∀ z ∈ ts.take i, 0 <= a z
def Zj (a : Str -> Int) (fr : List Nat) (pay : Nat -> Str -> Int) (z : Str) : Int := a z - sm fr (fun k => pay k z)
def Pj2 (H0 : Hp) (x : V) (d sd lv tb : Addr) (rs : List (Nat × Rat)) (ss : List Str) (hf : Str -> Nat) (B : Nat) (a : Str -> Int) (cs : Nat -> Int) (fp : Addr) (fr : List Nat) (i : Nat) (σ : St) (H : Hp) : Prop := ∃ (o3 o6 o7 o8 : Option V) (lvs : List (ZA × V)) (tvs : List V) (pay : Nat -> Str -> Int) (ps : List (Nat × Str × Int)),
 σ = [some x, some (.ref d), some (.ref sd), o3, some (.ref lv), some (.ref tb), o6, o7, o8] /\ Same H0 H /\ H fp = some (.lst (ZF fr)) /\ H lv = some (.dK lvs) /\ H tb = some (.lst tvs) /\ Zli B H tvs ps /\ ps.length <= i + Zn8 (Zj a fr pay) ss /\ TabI rs hf ss (fr.take i) fr pay ps /\ ShV H lvs ss (fun z => Zt B (Zj a fr pay z)) /\ PayOk rs hf ss cs (fr.take i) pay /\ ∀ z ∈ ss, 0 <= Zj a fr pay z
def Pj3 (H0 : Hp) (x : V) (d sd lv tb : Addr) (ss : List Str) (B : Nat) (l : Str -> Int) (fp pp rp : Addr) (fr : List Nat) (v6 : V) (xs : List V) (rows : List (Str × Int)) (ps : List (Nat × Str × Int)) (k : Nat) (j : Nat) (σ : St) (H : Hp) : Prop := ∃ (o3 o8 : Option V) (lvs : List (ZA × V)) (tvs : List V),
 σ = [some x, some (.ref d), some (.ref sd), o3, some (.ref lv), some (.ref tb), some v6, some (.ref pp), o8] /\ Same H0 H /\ H fp = some (.lst (ZF fr)) /\ H lv = some (.dK lvs) /\ H tb = some (.lst tvs) /\ Zli B H tvs (ps ++ (rows.take j).map fun p => (k, p.1, p.2)) /\ H rp = some (.lst xs) /\ Zmi B H xs rows /\ ShV H lvs ss (fun z => Zt B (l z - Jz (rows.take j) z))
section
variable {P : Program} {w : World} {K : PySem.W.Frag} {mg : Str -> Option Value} {base : Heap} {f pt : Addr} {fd : FuncData} {CT CNP : Addr}
theorem Zh3 (F : Fun K "judged" "judged" ZdR f fd) (n_sorted : mg "sorted" = none) (n_dict : mg "dict" = none) (F_look_sharing : Fn P w K mg base Zw 7 "look_sharing" ["tree", "homes", "sharing"] (Zfp CT)) (F_others : Fn P w K mg base Zw 1 "others" ["homes", "names"] ZdZ) (F_far_roads_first : Fn P w K mg base Zw 8 "far_roads_first" ["tree", "homes"] (Zlg pt CT))
  (F_users : Fn P w K mg base Zw 5 "users" ["tree", "homes", "k"] (fun vs H Q _ => ZfI CT CNP vs H Q E0)) (F_is_less : Fn P w K mg base Zw 1 "is_less" ["one", "other"] Ze3) (F_total_of : Fn P w K mg base Zw 4 "total_of" ["some"] (ZbX K)) (M_price : Mth P w K mg base Zw 4 CT "price" ["self", "k"] (fun vs H Q _ => ZcR CT CNP vs H Q E0))
  (F_payments : Fn P w K mg base Zw 4 "payments" ["price", "payers", "left"] Zhy) (F_rest_of : Fn P w K mg base Zw 3 "rest_of" ["one", "other"] Zdw) : FnOk P w K mg base Zw 9 f fd ["tree", "homes", "sharing"] (Zd9 pt CT) := by
 refine JL F sc_judged (fun vs H Q E h => ?_) (fun cdv A outer s H vs Q E hr h => ?_)
 ·obtain ⟨x, d, sd, rs, o, kvs, svs, ss, hf, B, a, cs, rfl, _⟩ := h; rfl
 obtain ⟨x, d, sd, rs, o, kvs, svs, ss, hf, B, a, cs, rfl, J, hTb, q, q2⟩ := h
 refine ⟨_, (Zd (Z6 (Zy F_look_sharing hr (by decide) rfl (Zh (Ze 0) (Zh (Ze 1) (Zh (Ze 2) Za)))))
   (Zd (ZY Ys (Z5 (Zmy rfl n_sorted (Zh (Ze 1) Za))) (Zp 3 sc_judged.nd) (Zg (Z4 (Zne (Zx (Jw (Jh hr) (Ze 2) (Ze 3)) Zc) Zc) (Zg (Zs (Jo (Zh ZdS (Zh (Zy F_others hr (by decide) rfl (Zh (Ze 1) (Zh (JQ (Zh (Ze 3) Za)) Za))) Za))))) ZN)))
   (Zd (Zo 4 sc_judged.nd (Zha rfl n_dict (Zh (Ze 2) Za)))
   (Zd (Zo 5 sc_judged.nd (JQ Za))
   (Zd (ZY Ys (Z5 (Zy F_far_roads_first hr (by decide) rfl (Zh (Ze 0) (Zh (Ze 1) Za)))) (Zp 6 sc_judged.nd) (Zd (Zo 7 sc_judged.nd (Zy F_users hr (by decide) rfl (Zh (Ze 0) (Zh (Ze 1) (Zh (Ze 6) Za)))))
   (Zd (Z4 (ZU (Zy F_is_less hr (by decide) rfl (Zh (Zy F_total_of hr (by decide) rfl (Zh (ZfY (Zkv ["name"] [4] ["left"]) (Z5 (Ze 7)) (by exact fun s H fp => (Zp 0 (show List.Nodup (["name", "left"] : List Str) from by decide +kernel))) (by exact fun s H fp => (Jw (Jh hr) (Ze 1) (Ze 0)))) Za)) (Zh (Za8 M_price hr (by decide) (Ze 0) (Zh (Ze 6) Za)) Za)))) (Zg (Zs (Jo (Zh ZdS (Zh (Zy F_others hr (by decide) rfl (Zh (Ze 1) (Zh (Ze 7) Za))) Za))))) ZN)
   (Zg (ZY Ys (Z5 (Zy F_payments hr (by decide) rfl (Zh (Za8 M_price hr (by decide) (Ze 0) (Zh (Ze 6) Za)) (Zh (Ze 7) (Zh (Ze 4) Za))))) (Zff (n := 2) (ZV (Zp 3 sc_judged.nd) (ZV (Zp 8 sc_judged.nd) Zcb))) (Zd (Zc9 (Jh hr) (Ze 4) (Ze 3) (Zy F_rest_of hr (by decide) rfl (Zh (Jw (Jh hr) (Ze 4) (Ze 3)) (Zh (Ze 8) Za))))
   (Zg (Z6 (Zdq (Ze 5) (Zh (Jo (Zh (Ze 6) (Zh (Ze 3) (Zh (Ze 8) Za)))) Za))))))))))
   (Zg (Zs (Jo (Zh ZdS (Zh (Zgd rfl n_sorted (Zh (Ze 5) Za)) Za)))))))))), ?_⟩
 rw [show Zu ["tree", "homes", "sharing", "name", "left", "table", "road", "payers", "amount"] [x, .ref d, .ref sd] = [some (x), some (.ref d), some (.ref sd), none, none, none, none, none, none] from rfl]
 have hO := J.way
 have hfew := J.few
 refine ZB fun R0 hR0 => ?_
 walk_at "rd"
 refine ⟨x, d, sd, rs, o, kvs, svs, ss, hf, B, a, cs, rfl, J, fun H1 s1 => ?_⟩
 subst hR0
 try dsimp only
 refine ZB fun R0 hR0 => ?_
 rw [Zao]
 walk_at "rd"
 refine ⟨kvs, .inr ⟨o, s1 _ _ J.home⟩, ss, J.kv, by omega, fun l H2 ts hl s2 e2 hso hpe => ?_⟩
 have s12 := s1.trans s2
 refine Zax (xs := ts.map V.str) (fun i σ H' => Pj1 H x d sd a ts i σ H' /\ H' l = some (.lst (ts.map V.str))) ⟨⟨_, rfl, s12, fun z hz => by simp at hz⟩, e2⟩ (fun i σ H' _ hP => ?_) (fun i y σ H' hi hP => ?_) (fun σ H' hP => ?_)
 ·exact .of hP.2
 ·obtain ⟨⟨o3, rfl, sm', hnn⟩, el⟩ := hP
  rw [Yh] at hi
  obtain ⟨z, hz, rfl⟩ := YD.mp hi
  have hzs : z ∈ ss := hpe.mem_iff.mp (Yo hz)
  have J' := J.same sm'
  obtain ⟨v, ev, rv⟩ := J'.shv.val J.nd z hzs
  obtain ⟨pv, rfl, hpv⟩ := id rv
  walk_at "rd"
  refine ⟨svs, J'.share, .inr z, rfl, _, ev, pv, rfl, _, hpv, _, rfl, _, rfl, ?_⟩
  by_cases c0 : a z < 0
  ·rw [if_pos ((ZfK J.b0 _).mpr c0)]
   intro gl H3 hgl s3 e3
   have s03 := sm'.trans s3
   refine ⟨d, gl, o, kvs, ss, [z], rfl, s03 _ _ J.home, J.kv, by omega, e3, fun p H4 G hp s4 e4 hGw hGp => fun r H5 hr5 s5 e5 => ?_⟩
   have hGm : ∀ y ∈ G, y ∈ ss := fun y hy => (YA.mp (hGp.mem_iff.mp hy)).1
   exact q r H5 p G (s03.free hp) (s03.trans (s4.trans s5)) e5 (s5 _ _ e4) hGw (hGp.symm.nodup (J.nd.filter _)) hGm (ZoM hO J.nd J.c0 J.tot hzs c0 hGp)
  ·rw [if_neg (fun c => c0 ((ZfK J.b0 _).mp c))]
   refine ⟨⟨_, rfl, sm', fun y hy => ?_⟩, el⟩
   rw [Yp, hz, Yx] at hy
   rcases hy with hy | hy
   ·exact hnn y hy
   ·have : y = z := by simpa using hy
    rw [this]; omega
 ·obtain ⟨⟨o3, rfl, sm', hnn⟩, el⟩ := hP
  have hnn' : ∀ z ∈ ss, 0 <= a z := fun z hz => hnn z (by rw [Yi, YC]; exact hpe.mem_iff.mpr hz)
  subst hR0
  try dsimp only
  have J' := J.same sm'
  walk_at "rd"
  refine ⟨sd, svs, rfl, J'.share, fun lv H3 hlv s3 e3 tb H4 htb s4 e4 => ?_⟩
  have s04 := sm'.trans (s3.trans s4)
  have hne : lv ≠ tb := Zk e3 htb
  have hlv0 : H lv = none := sm'.free hlv
  have htb0 : H tb = none := (sm'.trans s3).free htb
  rw [Zao]
  walk_at "rd"
  refine ⟨x, rs, d, kvs, ss, hf, rfl, J.tree.same s04, .inr ⟨o, s04 _ _ J.home⟩, J.kv, J.hat, J.rl, by omega, J.ok, let ⟨t, ht⟩ := hTb; ⟨t, s04 _ _ ht⟩, fun fp H5 fr hfp s5 e5 hfn hfm hfw => ?_⟩
  have s05 := s04.trans s5
  have htot := J.tot fr hfn hfm
  have hbd : ∀ k ∈ fr, 1 <= k /\ k <= rs.length := fun k hk => ZR ((hfm k).mp hk)
  have hfl : fr.length <= 20 := Yj (Zg9 hfn hbd) J.rl
  have hp0 : PayOk rs hf ss cs (fr.take 0) (fun _ _ => 0) := ⟨fun _ _ => Int.le_refl _, fun k z h => absurd rfl h, fun k hk => by simp at hk⟩
  have hl0 : ∀ z, Zj a fr (fun _ _ => 0) z = a z := fun z => by unfold Zj; rw [Ja fun _ _ => rfl]; omega
  refine Zax (xs := ZF fr) (Pj2 H x d sd lv tb rs ss hf B a cs fp fr) ⟨_, _, _, _, svs, [], fun _ _ => 0, [], rfl, s05, e5, (s4.trans s5) _ _ e3, s5 _ _ e4, ⟨rfl, fun i x p h => by simp at h⟩, Nat.zero_le _, Zmz, ?_, hp0, fun z hz => by rw [hl0]; exact hnn' z hz⟩ (fun i σ H' _ hP => ?_) (fun i y σ H6 hi hP => ?_) (fun σ H6 hP => ?_)
  ·have e : (fun z => Zt B (Zj a fr (fun _ _ => 0) z)) = fun z => Zt B (a z) := funext fun z => by rw [hl0]
   rw [e]
   exact J.shv.keep fun b ys e => s05 _ _ e
  ·obtain ⟨_, _, _, _, _, _, _, _, _, _, e', _⟩ := hP
   exact .of e'
  ·obtain ⟨o3, o6, o7, o8, lvs, tvs, pay, ps, rfl, s6, ef6, el6, et6, htab6, hcnt6, hTI6, hS6, hP6, hL6⟩ := hP
   have hil : i < fr.length := by have := (List.getElem?_eq_some_iff.mp hi).1; simpa [ZF] using this
   have hri := Yc hil
   have hy : y = V.int (fr[i] : Int) := by
    unfold ZF at hi
    rw [Yh, hri] at hi
    cases hi
    rfl
   subst hy
   obtain ⟨b1, b2⟩ := hbd _ (YI hil)
   have J6 := J.same s6
   have hin : inR rs ((fr[i] : Nat) : Int) := ⟨by omega, by omega⟩
   refine ZB fun R0 hR0 => ?_
   walk_at "rd"
   refine ⟨x, rs, d, _, rfl, J6.tree, by have := J.rl; omega, fun k' ek _ => ⟨o, kvs, ss, hf, J6.home, Vil.of J.kv (by omega) J.hat, fun pp H7 ts7 hpp s7 e7 hpw7 hpm7 => ?_⟩, fun hno => absurd hin hno⟩
   have ek' : k' = fr[i] := by omega
   subst ek'
   have hts : ∀ z ∈ ts7, z ∈ ss := fun z hz => (YA.mp (hpm7.mem_iff.mp hz)).1
   have htl7 : ts7.length <= 12 := Yj (Yj (Vp hpm7.length_eq) (YW _ _)) hfew
   have s07 := s6.trans s7
   have J7 := J.same s07
   have el7 := s7 _ _ el6
   have hS7 := hS6.keep fun b ys e => s7 _ _ e
   have lsz : ∀ z ∈ ss, (Zj a fr pay z).natAbs < 2 ^ 2600 := fun z hz => by
    have h1 := hL6 z hz
    have h2 := J.az z hz
    have h3 : 0 <= sm fr (fun k => pay k z) := ZaU fun k _ => hP6.nn k z
    have h4 := hnn' z hz
    unfold Zj at h1 ⊢
    omega
   subst hR0
   try dsimp only
   refine ZB fun R0 hR0 => ?_
   refine Jv fun A0 hA0 C0 hC0 => ?_
   walk_at "rd"
   simp only [JP, ZcV, cxK]
   walk_at "rd"
   refine ⟨⟨_, .of e7⟩, ?_⟩
   rw [show Ji [some x, some (V.ref d), some (V.ref sd), o3, some (V.ref lv), some (V.ref tb), some (V.int (fr[i] : Int)), some (V.ref pp), o8] [4] = [some (V.ref lv)] from rfl]
   refine Zex RatV ZaV (xs := ts7.map V.str) (as := (ts7.map (Zj a fr pay)).map (Zt B)) e7 (by simp) (by rw [List.length_map]; omega) (fun i' y t' hi' ht' H' kk os sm'' ol hkk => ?_) (fun pq H8 zs hpq s8 e8 hY => ?_)
   ·obtain ⟨o', rfl⟩ : ∃ o', os = [o'] := by match os, ol with | [o'], _ => exact ⟨o', rfl⟩
    rw [Yh] at hi'
    obtain ⟨z, hz', rfl⟩ := YD.mp hi'
    rw [Yw, Yh, hz'] at ht'
    cases ht'
    obtain ⟨v, ev, rv⟩ := (hS7.keep fun b ys e => sm'' _ _ e).val J.nd z (hts z (Yo hz'))
    walk_at "rd"
    refine ⟨[some (.str z)], rfl, rfl, ?_⟩
    walk_at "rd"
    exact ⟨lvs, .inl (sm'' _ _ el7), .inr z, rfl, _, ev, hkk _ _ (fun _ _ w => w) rv⟩
   have hms : ∀ m ∈ ts7.map (Zj a fr pay), m.natAbs < 2 ^ 2700 := fun m hm => by
    obtain ⟨z, hz, rfl⟩ := Yl.mp hm
    exact Yt (lsz z (hts z hz)) (Va (by decide) (by decide))
   refine ⟨pq, zs, _, rfl, .of e8, hY, Zeh J.b0 J.b1 hms, by simp; omega, fun r1 H9 s9 v1 => ?_⟩
   rw [ZfG J.b0] at v1
   replace v1 : RatV H9 r1 (Zt B (sm ts7 (Zj a fr pay))) := v1
   have s79 := s8.trans s9
   have s09 := s07.trans s79
   have hT9 := J.tree.same s09
   obtain ⟨xa, dx, la, wa, ls, ws, rfl, h1, _⟩ := id hT9
   have hprc : Zm rs fr[i] = Zt B (cs fr[i]) := J.pr _ b1 b2
   have szc : SzQ 3000 (Zt B (cs fr[i])) := (ZaP J.b0 J.b1 (J.cz _)).mono (by decide)
   refine ⟨xa, rfl, dx, _, h1, rfl, .ref xa, rs, _, rfl, hT9, fun k' r y ek hr2 hy => ?_, fun zz => absurd hin zz⟩
   have eyp : RatV H9 y (Zt B (cs fr[i])) := by
    have ek' : fr[i] - 1 = k' := by omega
    have : Zm rs fr[i] = r.2 := by unfold Zm; rw [ek', hr2]; rfl
    rw [<- hprc, this]
    exact hy
   have szs : SzQ 3000 (Zt B (sm ts7 (Zj a fr pay))) := (ZaP (n := 2700) J.b0 (Yt J.b1 (Va (by decide) (by decide))) (ZpH htl7 fun z hz => lsz z (hts z hz))).mono (by decide)
   refine ⟨r1, y, _, _, rfl, v1, eyp, szs, szc, _, rfl, ?_⟩
   by_cases c0 : sm ts7 (Zj a fr pay) < cs fr[i]
   ·rw [if_pos (YQ ((Jj J.b0).mpr c0))]
    subst hA0
    walk_at "rd"
    refine ⟨d, pp, o, kvs, ss, ts7, rfl, s09 _ _ J.home, J.kv, by omega, s79 _ _ e7, fun p H10 G hp s10 e10 hGw hGp => fun r' H11 hr11 s11 e11 => ?_⟩
    have hGm : ∀ y ∈ G, y ∈ ss := fun y hy => (YA.mp (hGp.mem_iff.mp hy)).1
    have hsp : fr = fr.take i ++ fr[i] :: fr.drop (i + 1) := by rw [<- Yad hil, Yaj]
    have hov : ZiK rs hf cs a G := by
     refine ZhW (D := fr.take i) (r := fr[i]) (rest := fr.drop (i + 1)) (pay := pay) hO ?_ ?_ ?_ J.c0 hP6 ?_ hpm7 ?_ hGp
     ·rw [<- hsp]; exact hfn
     ·rw [<- hsp]; exact hfm
     ·rw [<- hsp]; exact hfw
     ·rw [<- hsp]; exact htot
     ·rw [<- hsp]; exact c0
    exact q r' H11 p G (s09.free hp) (s09.trans (s10.trans s11)) e11 (s11 _ _ e10) hGw (hGp.symm.nodup (J.nd.filter _)) hGm hov
   ·rw [if_neg (by rw [Ve, Jj J.b0]; exact c0)]
    subst hC0
    walk_at "rd"
    subst hR0
    try dsimp only
    rw [Zao]
    walk_at "rd"
    refine ⟨dx, _, h1, rfl, .ref xa, rs, _, rfl, hT9, fun k2 r2 y2 ek2 hr22 hy2 => ?_, fun zz => absurd hin zz⟩
    have eyp2 : RatV H9 y2 (Zt B (cs fr[i])) := by
     have ek' : fr[i] - 1 = k2 := by omega
     have : Zm rs fr[i] = r2.2 := by unfold Zm; rw [ek', hr22]; rfl
     rw [<- hprc, this]
     exact hy2
    have hS9 := hS7.keep fun b ys e => s79 _ _ e
    have el9 := s79 _ _ el7
    have et9 := (s7.trans s79) _ _ et6
    have ef9 := (s7.trans s79) _ _ ef6
    refine ⟨y2, pp, lv, lvs, ts7, B, cs fr[i], Zj a fr pay, rfl, eyp2, s79 _ _ e7, .inl el9, fun z hz => hS9.val J.nd z (hts z hz), J.b0, J.b1, J.c0 _, J.cz _, fun z hz => ⟨hL6 z (hts z hz), lsz z (hts z hz)⟩, by omega, fun rp H10 xs10 hrp s10 e10 hR10 => ?_⟩
    have s710 := s79.trans s10
    have s010 := s09.trans s10
    have hlv10 : lv ≠ rp := Zk el9 hrp
    have htb10 : tb ≠ rp := Zk et9 hrp
    have hfp10 : fp ≠ lv := ZZ ef9 el9 (by intro z; cases z)
    have hfpt : fp ≠ tb := (Zk e4 hfp).symm
    have hnr : ∀ p ∈ Zi ts7 (cs fr[i]) (Zj a fr pay), 0 <= p.2 := fun p hp => Int.le_of_lt (Za5 hp).2
    have hlt7 : ∀ z ∈ ts7, 0 <= Zj a fr pay z := fun z hz => hL6 z (hts z hz)
    have htn : ts7.Nodup := hpm7.symm.nodup (J.nd.filter _)
    have hamt : ∀ z ∈ ss, Jz (Zi ts7 (cs fr[i]) (Zj a fr pay)) z <= Zj a fr pay z := fun z hz => by
     rw [Zbg (J.c0 _) hlt7]
     have hh := ZdB ts7 (cs fr[i]) (Zj a fr pay) htn (J.c0 _) hlt7 z
     by_cases c : z ∈ ts7
     ·exact hh.2.2 c
     ·rw [hh.2.1 c]; exact hL6 z hz
    have kpR : ZeB (fun H v (p : Str × Int) => ∃ t r, v = .ref t /\ H t = some (.tup [.str p.1, r]) /\ RatV H r (Zt B p.2)) := fun H H' v p h s => let ⟨t, r, a1, a2, a3⟩ := h; ⟨t, r, a1, s _ _ a2, a3.keep s⟩
    have hrl : (Zi ts7 (cs fr[i]) (Zj a fr pay)).length <= 12 := Yj (YW _ _) (by rw [Vf]; omega)
    have hxl10 : xs10.length = (Zi ts7 (cs fr[i]) (Zj a fr pay)).length := hR10.1
    refine Zax (xs := xs10) (Pj3 H (.ref xa) d sd lv tb ss B (Zj a fr pay) fp pp rp fr (.int (fr[i] : Int)) xs10 (Zi ts7 (cs fr[i]) (Zj a fr pay)) ps fr[i]) ⟨_, _, lvs, tvs, rfl, s010, s10 _ _ ef9, s10 _ _ el9, s10 _ _ et9, by rw [List.take_zero, List.map_nil, Y5]; exact htab6.keep ZbL fun b ys e => ((s7.trans s79).trans s10) _ _ e, e10, hR10, ?_⟩ (fun j σ H' _ hP => ?_) (fun j y σ H' hj hP => ?_) (fun σ H' hP => ?_)
    ·have e : (fun z => Zt B (Zj a fr pay z - Jz ((Zi ts7 (cs fr[i]) (Zj a fr pay)).take 0) z)) = fun z => Zt B (Zj a fr pay z) := funext fun z => by rw [List.take_zero, Zmp, Int.sub_zero]
     rw [e]
     exact hS9.keep fun b ys e => s10 _ _ e
    ·obtain ⟨_, _, _, _, _, _, _, _, _, _, e', _⟩ := hP
     exact .of e'
    ·obtain ⟨q3, q8, lv2, tv2, rfl, s11, ef11, el11, et11, htab11, er11, hR11, hS11⟩ := hP
     have hjl : j < xs10.length := (Yg.mp hj).1
     have hjr : j < (Zi ts7 (cs fr[i]) (Zj a fr pay)).length := by omega
     have hrj := Yc hjr
     obtain ⟨t, r, rfl, ht, hrv⟩ := hR11.2 j _ _ hj hrj
     obtain ⟨hn1, hn2⟩ := Za5 (YI hjr)
     have hns := hts _ hn1
     obtain ⟨v, ev, rv⟩ := hS11.val J.nd _ hns
     have hpt := ZfM hnr j (Zi ts7 (cs fr[i]) (Zj a fr pay))[j].1
     have hpt2 := ZfM hnr (j + 1) (Zi ts7 (cs fr[i]) (Zj a fr pay))[j].1
     rw [ZdI hrj, if_pos rfl] at hpt2
     have ha1 := hamt _ hns
     have ha2 := lsz _ hns
     have ha3 := hL6 _ hns
     have szv : SzQ 3000 (Zt B (Zj a fr pay (Zi ts7 (cs fr[i]) (Zj a fr pay))[j].1 - Jz ((Zi ts7 (cs fr[i]) (Zj a fr pay)).take j) (Zi ts7 (cs fr[i]) (Zj a fr pay))[j].1)) := (ZaP J.b0 J.b1 (by omega)).mono (by decide)
     have szr : SzQ 3000 (Zt B (Zi ts7 (cs fr[i]) (Zj a fr pay))[j].2) := (ZaP J.b0 J.b1 (by omega)).mono (by decide)
     walk_at "rd"
     refine ⟨_, ht, rfl, _, _, rfl, _, _, rfl, rfl, lv2, .inl el11, .inr _, rfl, v, ev, v, r, _, _, rfl, rv, hrv, szv, szr, fun r12 H12 s12' v12 => ?_⟩
     rw [Zf1 J.b0] at v12
     have el12 := s12' _ _ el11
     have et12 := s12' _ _ et11
     have kp : ∀ b ys v', H12 b = some (.tup ys) -> upd H12 lv (.dK (Je lv2 (Sum.inr (Zi ts7 (cs fr[i]) (Zj a fr pay))[j].1) v')) b = some (.tup ys) := fun b ys v' e => by rw [Zf (ZZ e el12 (by intro z; cases z))]; exact e
     refine ⟨lv2, el12, .inr _, rfl, by rw [hS11.1]; omega, ⟨tv2, by rw [Zf hne.symm]; exact et12⟩, fun p13 H13 hp13 s13 e13 => ?_⟩
     have et13 : H13 tb = some (.lst tv2) := s13 _ _ (by rw [Zf hne.symm]; exact et12)
     have kp2 : ∀ b ys, H13 b = some (.tup ys) -> upd H13 tb (.lst (tv2 ++ [.ref p13])) b = some (.tup ys) := fun b ys e => by rw [Zf (ZZ e et13 (by intro z; cases z))]; exact e
     have hcz : Zn8 (Zj a fr pay) ss <= ss.length := YW _ _
     have htl11 := htab11.1
     rw [YS, Yi, YM] at htl11
     refine ⟨tv2, et13, by omega, _, _, Je lv2 (Sum.inr (Zi ts7 (cs fr[i]) (Zj a fr pay))[j].1) r12, tv2 ++ [.ref p13], rfl, Zr htb0 ((Zr hlv0 (s11.trans s12')).trans s13), ?_, ?_, upd_same, ?_, ?_, ?_, ?_⟩
     ·rw [Zf hfpt]; exact s13 _ _ (by rw [Zf hfp10]; exact s12' _ _ ef11)
     ·rw [Zf hne]; exact s13 _ _ upd_same
     ·rw [Yp, hrj, YY, <- List.append_assoc]
      exact ListV.snoc (((((htab11.keep ZbL fun b ys e => s12' _ _ e).keep ZbL fun b ys e => kp b ys _ e).keep ZbL fun b ys e => s13 _ _ e).keep ZbL kp2)) ⟨p13, r, rfl, kp2 _ _ e13, (((hrv.same s12').keep fun b ys e => kp b ys _ e).same s13).keep kp2⟩
     ·rw [Zf htb10.symm]; exact s13 _ _ (by rw [Zf hlv10.symm]; exact s12' _ _ er11)
     ·exact (((hR11.keep kpR fun b ys e => s12' _ _ e).keep kpR fun b ys e => kp b ys _ e).keep kpR fun b ys e => s13 _ _ e).keep kpR kp2
     ·refine ShV.keep (ShV.keep (ShV.put ((hS11.keep fun b ys e => s12' _ _ e).keep fun b ys e => kp b ys _ e) hns ?_ fun y hy => ?_) fun b ys e => s13 _ _ e) kp2
      ·rw [ZdI hrj, if_pos rfl]
       refine RatV.keep ?_ fun b ys e => kp b ys _ e
       rw [show Zj a fr pay (Zi ts7 (cs fr[i]) (Zj a fr pay))[j].1 - (Jz ((Zi ts7 (cs fr[i]) (Zj a fr pay)).take j) (Zi ts7 (cs fr[i]) (Zj a fr pay))[j].1 + (Zi ts7 (cs fr[i]) (Zj a fr pay))[j].2) = Zj a fr pay (Zi ts7 (cs fr[i]) (Zj a fr pay))[j].1 - Jz ((Zi ts7 (cs fr[i]) (Zj a fr pay)).take j) (Zi ts7 (cs fr[i]) (Zj a fr pay))[j].1 - (Zi ts7 (cs fr[i]) (Zj a fr pay))[j].2 by omega]
       exact v12
      ·rw [ZdI hrj, if_neg hy, V7]
    ·obtain ⟨q3, q8, lv2, tv2, rfl, s11, ef11, el11, et11, htab11, er11, hR11, hS11⟩ := hP
     rw [hxl10, YC] at hS11 htab11
     obtain ⟨pay', hP', hpe', hTI'⟩ := ZjU J.nd hfn hri J.c0 hP6 hpm7 hL6 (by have := c0; unfold Zj at this; omega) hTI6
     have hcn := Zji (l := Zj a fr pay) J.nd htn hts (J.c0 fr[i]) hlt7
     refine ⟨_, _, _, _, lv2, tv2, pay', _, rfl, s11, ef11, el11, et11, htab11, ?_, hTI', ?_, hP', fun z hz => ?_⟩
     ·have e : Zj a fr pay' = fun z => Zj a fr pay z - Jz (Zi ts7 (cs fr[i]) (Zj a fr pay)) z := funext fun z => hpe' z
      rw [e, YS, Yi]
      omega
     ·have e : (fun z => Zt B (Zj a fr pay' z)) = fun z => Zt B (Zj a fr pay z - Jz (Zi ts7 (cs fr[i]) (Zj a fr pay)) z) := funext fun z => by
       show Zt B (a z - sm fr (fun k => pay' k z)) = _
       rw [hpe' z]
       rfl
      rw [e]
      exact hS11
     ·show 0 <= a z - sm fr (fun k => pay' k z)
      rw [hpe' z]
      have := hamt z hz
      show 0 <= Zj a fr pay z - Jz (Zi ts7 (cs fr[i]) (Zj a fr pay)) z
      omega
  ·obtain ⟨o3, o6, o7, o8, lvs, tvs, pay, ps, rfl, s6, ef6, el6, et6, htab6, hcnt6, hTI6, hS6, hP6, hL6⟩ := hP
   have hnl : (ZF fr).length = fr.length := by simp [ZF]
   rw [hnl, YC] at hP6
   rw [hnl, YC] at hTI6
   have hcz : Zn8 (Zj a fr pay) ss <= ss.length := YW _ _
   have htl : tvs.length = ps.length := htab6.1
   have zf1 : ((tvs.zip ps).map fun x => ((x.1, (x.2.1 : Int), x.2.2.1) : V × Int × Str)).map (·.1) = tvs := (Zfy (fun p : Nat × Str × Int => ((p.1 : Int), p.2.1)) htl).1
   have zf2 : ((tvs.zip ps).map fun x => ((x.1, (x.2.1 : Int), x.2.2.1) : V × Int × Str)).map (·.2) = ps.map fun p => ((p.1 : Int), p.2.1) := (Zfy (fun p : Nat × Str × Int => ((p.1 : Int), p.2.1)) htl).2
   walk_at "rd"
   refine ⟨tb, (tvs.zip ps).map fun x => (x.1, (x.2.1 : Int), x.2.2.1), rfl, by rw [zf1]; exact et6, by rw [Yi, Vf]; omega, Zkm htab6, ?_, fun l H7 qs hl s7 e7 hqp hqw r H8 hr s8 e8 => ?_⟩
   ·rw [zf2]
    refine Vx.mpr ((Vx.mp hTI6.one).imp fun h e => h ?_)
    have e1 := congrArg Prod.fst e
    have e2 := congrArg Prod.snd e
    dsimp only at e1 e2
    exact Prod.ext (by show _ = _; dsimp only; omega) e2
   obtain ⟨ps', h1, h2, h3⟩ := Zf9 (htab6.keep ZbL fun b ys e => s7 _ _ e) hqp hqw
   refine q2 r H8 l _ ps' fr pay (s6.free hl) (s6.trans (s7.trans s8)) e8 (s8 _ _ e7) (ListV.keep (H' := H8) ZbL h2 fun b ys e => s8 _ _ e) ⟨fun p hp => ?_, h3, by rw [h1.length_eq]; omega, fun k hk => ?_, fun z hz => ?_⟩ hfm hfn hP6 (ZiQ hP6 hL6 htot)
   ·have h := hTI6.row p (h1.mem_iff.mp hp)
    exact ⟨(hbd _ h.1).1, (hbd _ h.1).2, h.2⟩
   ·rw [ZlG h1, hTI6.road k]
    exact hP6.full k ((hfm k).mpr hk)
   ·rw [Zm4 h1, hTI6.name z]
    exact (ZiQ hP6 hL6 htot z hz).symm
end
def Zd4 : Sp := fun vs H Q _ => ∃ (p d : Addr) (c : Int) (xs : List V) (rs : List (Nat × Rat)) (o : Obj) (kvs : List (ZA × V)) (ss : List Str) (hf : Str -> Nat), vs = [.ref p, .ref d, .int c] /\ H p = some (.lst xs) /\ RoadsV H xs rs /\ H d = some (.frz o (.dK kvs)) /\ kvs.map (·.1) = ss.map Sum.inr /\ ss.Nodup /\ ss.length <= 12 /\ (∀ gs : List Str, (∀ z ∈ gs, z ∈ ss) -> Zbd kvs gs (gs.map hf) rs.length) /\ rs.length <= 20 /\ Zbj rs /\ (∀ r ∈ rs, SzQ 110 r.2 /\ 0 <= r.2.num) /\
 ∀ b H' svs qf B, H b = none -> Same H H' -> H' b = some (.dK svs) -> ShV H' svs ss qf -> 0 < B -> B <= 2 ^ 2400 -> (∀ z ∈ ss, (qf z).den ∣ B /\ 0 <= qf z) -> (∀ r ∈ rs, r.2.den ∣ B) -> (∀ ks : List Nat, ks.Nodup -> (∀ k, k ∈ ks ↔ Z3 rs (ss.map hf) k) -> ZO (ss.map qf) = ZO (ks.map (Zm rs))) -> (∀ G : List Str, G.Nodup -> (∀ z ∈ G, z ∈ ss) -> ∀ ks : List Nat, ks.Nodup -> (∀ k, k ∈ ks ↔ Z3 rs (G.map hf) k) -> ZO (G.map qf) <= ZO (ks.map (Zm rs))) -> Q (.ref b) H'
theorem Zc7 {ss : List Str} {qf : Str -> Rat} (hn : ss.Nodup) {z : Str} (hz : z ∈ ss) (q : Rat) : ZO (ss.map fun y => if y = z then qf y + q else qf y) = ZO (ss.map qf) + q := by
 induction ss with
 | nil => cases hz
 | cons y ss ih =>
  rw [Y4] at hn
  rw [Yq, Yq, ZG, ZG]
  by_cases c : y = z
  ·subst c
   rw [if_pos rfl, show (ss.map fun x => if x = y then qf x + q else qf x) = ss.map qf from YL fun x hx => if_neg (fun e : x = y => hn.1 (by rw [<- e]; exact hx)), Vk, Vk, Rat.add_comm q]
  ·rw [if_neg c, ih hn.2 (by rcases Yn.mp hz with h | h; exact absurd h.symm c; exact h), Vk]
theorem Zcn {ss : List Str} : ZO (ss.map fun _ => (0 : Rat)) = 0 := by
 induction ss with
 | nil => rfl
 | cons y ss ih => rw [Yq, ZG, ih, V6]
theorem ZmV {p q : Rat} {B : Nat} (hB : 0 < B) (h1 : p.den ∣ B) (h2 : q.den ∣ B) : (p + q).den ∣ B := by
 rw [<- Zcg hB h1, <- Zcg hB h2]
 have := Zdy hB (JG B p + JG B q)
 rw [<- Za4 hB] at this
 exact this
theorem ZmS {t : Int} {b : Nat} (hb : 0 < b) : (Rat.divInt t (b : Int)).den ∣ b := Zdy hb t
theorem ZfZ (ms : List Int) (i : Nat) (m : Int) (h : ms[i]? = some m) : (ms.take (i + 1)).sum = (ms.take i).sum + m := by rw [List.take_add_one, h, List.sum_append]; simp
theorem Zib {a : Addr} {o : Obj} {kvs : List (ZA × V)} {ss : List Str} {cp : St} {tt : TT} {H1 : Hp} {Q : VK} (r : Str -> Bool) (ha : H1 a = some (.frz o (.dK kvs))) (he : (kvs.map fun kv => kV kv.1) = ss.map V.str) (hl : ss.length < 1000) (ht : ∀ z ∈ ss, ∀ H' (k : Bool -> Hp -> Prop), Same H1 H' -> (∀ H'', Same H' H'' -> k (r z) H'') -> tt (some (V.str z) :: cp) H' k)
  (q : ∀ p H', H1 p = none -> Same H1 H' -> H' p = some (.lst ((ss.filter r).map V.str)) -> Q (.ref p) H') : Zd1 1 cp (Itd a o kvs) (JA 0) tt (ZmD 0) H1 Q := by
 have hlen : kvs.length = ss.length := by have := congrArg List.length he; simpa using this
 refine ZfO (fun acc i ys H' => Same H1 H' /\ H' acc = some (.lst ys) /\ ys = ((ss.take i).filter r).map V.str /\ i <= ss.length)
  (fun acc H2 hn sm e => ⟨sm, e, by simp, Nat.zero_le _⟩) (fun acc i ys H2 ⟨sm, e, e2, hi⟩ => ⟨e, ?_, sm _ _ ha⟩) (fun acc i kv ys H2 os hn hi hP ol => ?_) (fun acc ys H2 hn hP => ?_)
 ·rw [e2, Yi]
  exact Yy (YW _ _) (by rw [YM]; omega)
 ·obtain ⟨sm, e, e2, _⟩ := hP
  obtain ⟨o', rfl⟩ : ∃ o', os = [o'] := by match os, ol with | [o'], _ => exact ⟨o', rfl⟩
  obtain ⟨z, hz, ek⟩ : ∃ z, ss[i]? = some z /\ kV kv.1 = V.str z := by
   have h1 := congrArg (·[i]?) he
   simp only [List.getElem?_map, hi, Option.map_some] at h1
   cases h : ss[i]? with
   | none => rw [h] at h1; cases h1
   | some z => rw [h] at h1; exact ⟨z, rfl, by simpa using h1⟩
  rw [ek]
  have hil := (Yg.mp hz).1
  refine ⟨[some (V.str z)], rfl, rfl, ht z (Yo hz) H2 _ sm fun H3 s3 => ?_⟩
  have tk : (ss.take (i + 1)).filter r = (ss.take i).filter r ++ (if r z = true then [z] else []) := by
   rw [Yp, hz, VH]
   congr 1
   show [z].filter r = _
   by_cases c : r z = true
   ·rw [Yag c, if_pos c]; rfl
   ·rw [Yah c, if_neg c]; rfl
  refine JR (fun c => ⟨V.str z, rfl, s3 _ _ e, Zr hn (sm.trans s3), upd_same, ?_, hil⟩) (fun c => ⟨sm.trans s3, s3 _ _ e, ?_, hil⟩)
  ·rw [tk, if_pos c, e2, YY]; rfl
  ·rw [tk, if_neg c, Y5, e2]
 ·obtain ⟨sm, e, e2, _⟩ := hP
  rw [hlen, YC] at e2
  subst e2
  exact q acc H2 hn sm e
theorem Zl4 (us : List Str) : (us.map fun _ => (1 : Int)).sum = us.length := by
 induction us with
 | nil => rfl
 | cons x us ih => rw [Yq, VS, ih, YN]; omega
def Psh (H0 : Hp) (p d b nb : Addr) (c : Int) (rs : List (Nat × Rat)) (ss : List Str) (hf : Str -> Nat) (i : Nat) (σ : St) (H : Hp) : Prop := ∃ (o4 o6 o7 o8 o9 o10 : Option V) (svs : List (ZA × V)) (qf : Str -> Rat) (B : Nat) (ns : List Int), σ = [some (.ref p), some (.ref d), some (.int c), some (.ref b), o4, some (.ref nb), o6, o7, o8, o9, o10] /\ Same H0 H /\ H b = some (.dK svs) /\ H nb = some (.lst (ns.map V.int)) /\ (rs.length - i) * ss.length <= ns.length /\ (∀ n ∈ ns, 0 <= n /\ n < 7) /\
 ShV H svs ss qf /\ 0 < B /\ B <= 2 ^ (117 * i) /\ (∀ z ∈ ss, (qf z).den ∣ B /\ 0 <= qf z /\ SzQ (119 * i + 1) (qf z)) /\ (∀ (j : Nat) r, j < i -> rs[j]? = some r -> r.2.den ∣ B) /\ (∀ ks : List Nat, ks.Nodup -> (∀ k, k ∈ ks ↔ (k <= i /\ Z3 rs (ss.map hf) k)) -> ZO (ss.map qf) = ZO (ks.map (Zm rs))) /\ (∀ G : List Str, G.Nodup -> (∀ z ∈ G, z ∈ ss) -> ∀ ks : List Nat, ks.Nodup -> (∀ k, k ∈ ks ↔ (k <= i /\ Z3 rs (G.map hf) k)) -> ZO (G.map qf) <= ZO (ks.map (Zm rs)))
def Psz (H0 : Hp) (p d b nb np pp : Addr) (c : Int) (v6 : V) (ss ns : List Str) (ps : List Int) (nums : List Int) (i Tn : Nat) (pr : Rat) (qf : Str -> Rat) (B : Nat) (j : Nat) (σ : St) (H : Hp) : Prop := ∃ (o4 o9 o10 : Option V) (svs : List (ZA × V)) (qg : Str -> Rat), σ = [some (.ref p), some (.ref d), some (.int c), some (.ref b), o4, some (.ref nb), some v6, some (.ref np), some (.ref pp), o9, o10] /\ Same H0 H /\ H b = some (.dK svs) /\ H nb = some (.lst (nums.map V.int)) /\ H np = some (.lst (ns.map V.str)) /\ H pp = some (.lst (ps.map V.int)) /\
 ShV H svs ss qg /\ (∀ z ∈ ss, (qg z).den ∣ B /\ 0 <= qg z /\ SzQ (119 * (i + 1) + 1) (qg z) /\ (z ∉ ns.take j -> SzQ (119 * i + 1) (qg z))) /\ ZO (ss.map qg) = ZO (ss.map qf) + Rat.divInt (pr.num * (ps.take j).sum) ((pr.den : Int) * (Tn : Int)) /\ (∀ z, z ∉ ns.take j -> qg z = qf z) /\ ∀ G : List Str, G.Nodup -> ZO (G.map qg) <= ZO (G.map qf) + Rat.divInt (pr.num * (ps.take j).sum) ((pr.den : Int) * (Tn : Int))
section
variable {P : Program} {w : World} {K : PySem.W.Frag} {mg : Str -> Option Value} {base : Heap} {f : Addr} {fd : FuncData}
theorem ZhH (F : Fun K "_law_shared_by" "_law_shared_by" ZaA f fd) (n_len : mg "len" = none) (n_range : mg "range" = none) (n_max : mg "max" = none) (n_sum : mg "sum" = none) (n_zip : mg "zip" = none) (F_law_numbers : Fn P w K mg base Zw 2 "_law_numbers" ["_law_cell", "_law_many", "_law_most"] Zam) (F_law_way : Fn P w K mg base Zw 1 "_law_way" ["_law_roads", "_law_k"] ZiE)
  (F_law_add : Fn P w K mg base Zw 2 "_law_add" ["_law_one", "_law_other"] ZeV) (F_law_low : Fn P w K mg base Zw 1 "_law_low" ["_law_top", "_law_bottom"] Zbc) : FnOk P w K mg base Zw 3 f fd ["_law_roads", "_law_homes", "_law_cell"] Zd4 := by
 refine JL F sc_law_shared_by (fun vs H Q E h => ?_) (fun cdv A outer s H vs Q E hr h => ?_)
 ·obtain ⟨p, d, c, xs, rs, o, kvs, ss, hf, rfl, _⟩ := h; rfl
 obtain ⟨p, d, c, xs, rs, o, kvs, ss, hf, rfl, hp, hR, hd, hks, hnd, hl12, hH, hrl, hO, hz, q⟩ := h
 have hkl : kvs.length = ss.length := by have := congrArg List.length hks; simpa using this
 have hkv : (kvs.map fun kv => kV kv.1) = ss.map V.str := by
  have := congrArg (List.map kV) hks
  rw [Yw, Yw] at this
  exact this
 have hway : ∀ z ∈ ss, WayR rs (hf z) (wayL rs (hf z)) /\ (wayL rs (hf z)).length <= rs.length /\ Jx kvs (Sum.inr z) = some (.int (hf z : Int)) := fun z hz => by
  have h := (hH [z] (fun y hy => by rw [YH.mp hy]; exact hz)).2 0 z (hf z) rfl rfl
  obtain ⟨w, hw, hwl⟩ := ZaT hO h.2
  rw [Jk hw]
  exact ⟨hw, hwl, h.1⟩
 refine ⟨_, (Zd (Zo 3 sc_law_shared_by.nd Zi0)
   (Zd (ZY Ys (Zc2 (Ze 1)) (Zp 4 sc_law_shared_by.nd) (Zg (Zc9 (Jh hr) (Ze 3) (Ze 4) (Jo (Zh Zc (Zh Zc Za))))))
   (Zd (Zo 5 sc_law_shared_by.nd (Zy F_law_numbers hr (by decide) rfl (Zh (Ze 2) (Zh (Jc (Jp rfl n_len (Zh (Ze 0) Za)) (ZoI rfl n_len (Zh (Ze 1) Za))) (Zh Zc Za)))))
   (Zd (ZY Ys (Znr rfl n_range (Zh Zc (Zh (Jf (Jp rfl n_len (Zh (Ze 0) Za)) Zc) Za))) (Zp 6 sc_law_shared_by.nd) (Zd (Zgx 7 (Zkv ["_law_name"] [0, 1, 6] ["_law_roads", "_law_homes", "_law_k"]) (Zc2 (Ze 1)) (by exact fun s H fp => (Zp 0 (show List.Nodup (["_law_name", "_law_roads", "_law_homes", "_law_k"] : List Str) from by decide +kernel))) (by exact fun s H fp => Zfx (ZiZ K (Ze 3) (Zy F_law_way hr (by decide) rfl (Zh (Ze 1) (Zh (Jw (Jh hr) (Ze 2) (Ze 0)) Za))))) (by exact fun s H fp => (Ze 0)) (Zp 7 sc_law_shared_by.nd))
   (Zd (Zbi 8 (Zkv ["_law_name"] [5] ["_law_numbers_here"]) (Z5 (Ze 7)) (by exact fun s H fp => (Zp 0 (show List.Nodup (["_law_name", "_law_numbers_here"] : List Str) from by decide +kernel))) (by exact fun s H fp => (ZpV rfl n_max (Zh Zc (Zh (JK (Zoc (Ze 1)) Zc) Za)))) (Zp 8 sc_law_shared_by.nd))
   (Zd (Z4 (ZnX (Zih rfl n_sum (Zh (Ze 8) Za)) Zc) (Zg (Zbi 8 (ZpD ["_law_name"]) (Z5 (Ze 7)) (by exact fun s H fp => (Zp 0 (show List.Nodup (["_law_name"] : List Str) from by decide +kernel))) (by exact fun s H fp => Zc) (Zp 8 sc_law_shared_by.nd))) ZN)
   (Zg (ZY Ys (ZoJ rfl n_zip (Zh (Ze 7) (Zh (Ze 8) Za))) (Zff (n := 2) (ZV (Zp 4 sc_law_shared_by.nd) (ZV (Zp 9 sc_law_shared_by.nd) Zcb))) (Zd (Zo 10 sc_law_shared_by.nd (Zx (Ju (Ze 0) (JK (Ze 6) Zc)) Zc))
   (Zg (Zc9 (Jh hr) (Ze 3) (Ze 4) (Zy F_law_add hr (by decide) rfl (Zh (Jw (Jh hr) (Ze 3) (Ze 4)) (Zh (Zy F_law_low hr (by decide) rfl (Zh (Jc (Zx (Ze 10) Zc) (Ze 9)) (Zh (Jc (Zx (Ze 10) Zc) (Zih rfl n_sum (Zh (Ze 8) Za))) Za))) Za))))))))))))
   (Zg (Zs (Ze 3))))))), ?_⟩
 rw [show Zu ["_law_roads", "_law_homes", "_law_cell", "_law_sharing", "_law_name", "_law_numbers_here", "_law_k", "_law_names", "_law_parts", "_law_part", "_law_price"] [.ref p, .ref d, .int c] = [some (.ref p), some (.ref d), some (.int c), none, none, none, none, none, none, none, none] from rfl]
 walk_at "rd"
 intro b H1 hb s1 e1
 simp only [Zcv]
 walk_at "rd"
 refine ZdU (o := o) (kvs := kvs) (fun i σ H' => ∃ (o4 : Option V) (svs : List (ZA × V)), σ = [some (V.ref p), some (V.ref d), some (V.int c), some (V.ref b), o4, none, none, none, none, none, none] /\ Same H H' /\ H' b = some (.dK svs) /\ ShV H' svs (ss.take i) (fun _ => 0)) ⟨_, [], rfl, s1, e1, by simp, fun i z h => by simp at h⟩ (fun i σ H' _ ⟨_, _, _, sm', _⟩ => sm' _ _ hd) (fun i kv σ H' hi hP => ?_) (fun σ H' hP => ?_)
 ·obtain ⟨o4, svs, rfl, sm', eb, hS⟩ := hP
  have hil : i < ss.length := by rw [<- hkl]; exact (Yg.mp hi).1
  have hz0 := Yc hil
  have hkk : kv.1 = Sum.inr ss[i] := by
   have := congrArg (·[i]?) hks
   simp only [List.getElem?_map, hi, hz0, Option.map_some, Option.some.injEq] at this
   exact this
  rw [hkk]
  walk_at "rd"
  intro t H2 ht s2 e2
  have eb2 := s2 _ _ eb
  have kp : ∀ b' ys, H2 b' = some (.tup ys) -> upd H2 b (.dK (Je svs (Sum.inr ss[i]) (.ref t))) b' = some (.tup ys) := fun b' ys e => by rw [Zf (ZZ e eb2 (by intro z; cases z))]; exact e
  refine ⟨svs, eb2, .inr ss[i], rfl, by rw [hS.1, YM]; omega, Zr hb (sm'.trans s2), _, upd_same, ?_⟩
  rw [Yp, hz0]
  refine ShV.snoc ((hS.keep fun b ys e => s2 _ _ e).keep kp) (fun hm => ?_) ⟨t, rfl, kp _ _ e2⟩
  have h1 : (ss.take (i + 1)).Nodup := hnd.sublist (Vn _ _)
  rw [Yp, hz0] at h1
  exact (List.nodup_append.mp h1).2.2 _ hm _ (by simp) rfl
 ·obtain ⟨o4, svs, rfl, sm', eb, hS⟩ := hP
  rw [hkl, YC] at hS
  dsimp only
  walk_at "rd"
  have hxl := hR.1
  have hlen : xs.length * kvs.length <= 240 := by
   rw [hxl, hkl]
   exact Yj (V3 hrl hl12) (by decide)
  have e240 : ((xs.length : Int) * (kvs.length : Int)) = ((xs.length * kvs.length : Nat) : Int) := by simp
  refine ⟨xs, .inl (sm' _ _ hp), kvs, .inr ⟨o, sm' _ _ hd⟩, JJ (a := 5) (b := 4) (by rw [VI]; omega) (by rw [VI]; omega) (by decide), _, _, _, rfl, by rw [e240]; omega, by rw [e240]; omega, by decide, by decide, fun nb H3 nums hnb s3 e3 hnl hnb7 => ?_⟩
  rw [e240] at hnl
  have hbn : b ≠ nb := Zk eb hnb
  have s03 := sm'.trans s3
  have hnb0 : H nb = none := sm'.free hnb
  rw [Zif]
  walk_at "rd"
  refine ⟨xs, .inl (s03 _ _ hp), by omega, by omega, ?_⟩
  refine ZcH (Psh H p d b nb c rs ss hf) ⟨_, _, _, _, _, _, svs, fun _ => 0, 1, nums, rfl, s03, s3 _ _ eb, e3, ?_, hnb7, hS.keep (fun b ys e => s3 _ _ e), Nat.one_pos, by simp, fun z _ => ⟨Nat.one_dvd _, Rat.le_refl, ZdJ (by decide)⟩, fun j r h => absurd h (Nat.not_lt_zero j), fun ks _ hk => ?_, fun G _ _ ks _ hk => ?_⟩ (fun i σ H4 hi hP => ?_) (fun σ H4 hP => ?_)
  ·rw [Nat.sub_zero, <- hxl, <- hkl]; omega
  ·have : ks = [] := by
    cases ks with
    | nil => rfl
    | cons k ks => have := (hk k).mp (.head _); have := (ZR this.2).1; omega
   subst this
   rw [Zcn]
   rfl
  ·rw [Zcn]
   have : ks = [] := by
    cases ks with
    | nil => rfl
    | cons k ks => have := (hk k).mp (.head _); have := (ZR this.2).1; omega
   subst this
   exact Rat.le_refl
  ·obtain ⟨o4, o6, o7, o8, o9, o10, svs, qf, B, ns, rfl, s4, eb4, en4, hnl4, hn7, hS4, hB0, hB1, hq4, hd4, ht4, hg4⟩ := hP
   have hir : i < rs.length := by omega
   have hri := Yc hir
   have hix : i < xs.length := by omega
   refine ZB fun R0 hR0 => ?_
   walk_at "rd"
   simp only [ZbM, Zgp, cxK]
   walk_at "rd"
   refine ⟨o, kvs, s4 _ _ hd, ?_⟩
   rw [show Ji [some (V.ref p), some (V.ref d), some (V.int c), some (V.ref b), o4, some (V.ref nb), some (V.int (1 + (i : Int))), o7, o8, o9, o10] [0, 1, 6] = [some (V.ref p), some (V.ref d), some (V.int (1 + (i : Int)))] from rfl]
   refine Zib (fun z => decide (i + 1 ∈ wayL rs (hf z))) (s4 _ _ hd) hkv (by omega) (fun z hz' H' k sm'' hk => ?_) (fun np H5 hnp s5 e5 => ?_)
   ·obtain ⟨hw1, hw2, hw3⟩ := hway z hz'
    have s0 := s4.trans sm''
    walk_at "rd"
    refine ⟨kvs, .inr ⟨o, s0 _ _ hd⟩, .inr z, rfl, _, hw3, p, xs, rs, hf z, wayL rs (hf z), rfl, s0 _ _ hp, hR.same s0, hw1, by omega, fun pw H6 hpw s6 e6 => ?_⟩
    simp only [rIn]
    walk_at "rd"
    refine ⟨_, .inl (.of e6), rfl, Zb0, ?_⟩
    have ei : (1 + (i : Int)) = ((i + 1 : Nat) : Int) := by omega
    rw [ei, ZdF]
    exact hk H6 s6
   have s05 := s4.trans s5
   have eb5 := s5 _ _ eb4
   have en5 := s5 _ _ en4
   have hS5 := hS4.keep fun b ys e => s5 _ _ e
   have hnpn : np ≠ nb := fun z => by rw [z, en4] at hnp; cases hnp
   have hnpb : np ≠ b := fun z => by rw [z, eb4] at hnp; cases hnp
   have hul : (ss.filter fun z => decide (i + 1 ∈ wayL rs (hf z))).length <= ss.length := YW _ _
   have hus : ∀ z ∈ ss.filter (fun z => decide (i + 1 ∈ wayL rs (hf z))), z ∈ ss := fun z hz => (YA.mp hz).1
   have hus2 : ∀ z ∈ ss.filter (fun z => decide (i + 1 ∈ wayL rs (hf z))), i + 1 ∈ wayL rs (hf z) := fun z hz => by simpa using (List.mem_filter.mp hz).2
   have hum : ∀ z ∈ ss, i + 1 ∈ wayL rs (hf z) -> z ∈ ss.filter (fun z => decide (i + 1 ∈ wayL rs (hf z))) := fun z hz h => List.mem_filter.mpr ⟨hz, by simpa using h⟩
   have hun : (ss.filter fun z => decide (i + 1 ∈ wayL rs (hf z))).Nodup := hnd.filter _
   generalize ss.filter (fun z => decide (i + 1 ∈ wayL rs (hf z))) = us at e5 hul hus hus2 hum hun
   subst hR0
   try dsimp only
   refine ZB fun R0 hR0 => ?_
   walk_at "rd"
   simp only [JP, ZcV, cxK]
   walk_at "rd"
   refine ⟨⟨_, .of e5⟩, ?_⟩
   rw [show Ji [some (V.ref p), some (V.ref d), some (V.int c), some (V.ref b), o4, some (V.ref nb), some (V.int (1 + (i : Int))), some (V.ref np), o8, o9, o10] [5] = [some (V.ref nb)] from rfl]
   unfold Zm8
   refine ZbT (xs := us.map V.str) (fun acc j ys H' => (∀ b' o', b' ≠ nb -> H5 b' = some o' -> H' b' = some o') /\ acc ≠ nb /\ H' acc = some (.lst ys) /\ j <= us.length /\ (∃ ns' : List Int, H' nb = some (.lst (ns'.map V.int)) /\ ns'.length + j = ns.length /\ ∀ n ∈ ns', 0 <= n /\ n < 7) /\ ∃ ps : List Int, ys = ps.map V.int /\ ps.length = j /\ ∀ m ∈ ps, 0 <= m /\ m <= 4)
    (fun acc H2 hn sm e => ⟨fun b' o' _ e' => sm _ _ e', (Zk en5 hn).symm, e, YB _, ⟨ns, sm _ _ en5, rfl, hn7⟩, [], rfl, rfl, (fun m hm => by cases hm)⟩) (fun acc j ys H2 hn hP => ?_) (fun acc j y ys H2 os hn hj hP ol => ?_) (fun acc ys H2 hn hP => ?_)
   ·obtain ⟨h1, h2, h3, h4, _, ps, rfl, h5, _⟩ := hP
    exact ⟨h3, by rw [Yi]; omega, .of (h1 _ _ hnpn e5)⟩
   ·obtain ⟨h1, h2, h3, h4, ⟨ns', h6, h7, h8⟩, ps, rfl, h5, h9⟩ := hP
    obtain ⟨o', rfl⟩ : ∃ o', os = [o'] := by match os, ol with | [o'], _ => exact ⟨o', rfl⟩
    have hju : j < us.length := by have := (List.getElem?_eq_some_iff.mp hj).1; simpa using this
    walk_at "rd"
    refine ⟨[some y], rfl, rfl, ?_⟩
    simp only [Zlf]
    walk_at "rd"
    have hn0 : 0 < ns'.length := by
     have : ss.length <= (rs.length - i) * ss.length := Nat.le_mul_of_pos_left _ (by omega)
     omega
    have hlast : (ns'.map V.int)[(ns'.map V.int).length - 1]? = some (.int ns'[ns'.length - 1]) := by
     rw [Yi, Yh, Yc (by omega)]
     rfl
    have hlb := h8 _ (YI (show ns'.length - 1 < ns'.length by omega))
    refine ⟨_, h6, _, hlast, _, rfl, by rw [Zf h2]; exact h3, fun b' o' hb' e' => ?_, h2, upd_same, hju, ⟨ns'.dropLast, by rw [Zf h2.symm, upd_same, List.map_dropLast], by rw [List.length_dropLast]; omega, fun n hn => h8 n (List.dropLast_subset _ hn)⟩, ps ++ [if 0 < ns'[ns'.length - 1] - 2 then ns'[ns'.length - 1] - 2 else 0], by simp, by simp [h5], fun m hm => ?_⟩
    ·have hba : b' ≠ acc := fun z => by rw [z, hn] at e'; cases e'
     rw [Zf hba, Zf hb']
     exact h1 b' o' hb' e'
    ·rcases Yx.mp hm with hm | hm
     ·exact h9 m hm
     ·rw [YH.mp hm]
      split <;> omega
   obtain ⟨h1, h2, h3, _, ⟨ns', h6, h7, h8⟩, ps, rfl, h5, h9⟩ := hP
   rw [Yi] at h5 h7
   have hpr := (hz _ (Yo hri))
   have hneed : Z3 rs (ss.map hf) (i + 1) ↔ us ≠ [] := by
    rw [Z7 fun z hz => (hway z hz).1]
    constructor
    ·rintro ⟨z, hz', hk⟩ hu
     have := hum z hz' hk
     rw [hu] at this
     cases this
    ·intro hu
     obtain ⟨z, hz'⟩ := List.exists_mem_of_ne_nil us hu
     exact ⟨z, hus z hz', hus2 z hz'⟩
   have hlv : ∀ ps : List Int, (∀ m ∈ ps, 0 <= m /\ m <= 4) -> 0 <= ps.sum /\ ps.sum <= 4 * ps.length := fun ps h => by
    induction ps with
    | nil => simp
    | cons m ps ih => rw [VS, YN]; have := h m (.head _); have := ih fun x hx => h x (.tail _ hx); omega
   have hbacc : acc ≠ b := fun z => by rw [z, eb5] at hn; cases hn
   have hnpacc : acc ≠ np := (Zk e5 hn).symm
   subst hR0
   try dsimp only
   refine ZB fun R1 hR1 => ?_
   suffices fin : ∀ (pp : Addr) (ps : List Int) (H8 : Hp), (∀ b' o', b' ≠ nb -> H5 b' = some o' -> H8 b' = some o') -> H8 nb = some (.lst (ns'.map V.int)) -> H8 pp = some (.lst (ps.map V.int)) -> pp ≠ b -> pp ≠ nb -> ps.length = us.length -> (∀ m ∈ ps, 0 <= m /\ m <= 4) -> (us ≠ [] -> 0 < ps.sum) ->
     R1 [some (V.ref p), some (V.ref d), some (V.int c), some (V.ref b), o4, some (V.ref nb), some (V.int (1 + (i : Int))), some (V.ref np), some (V.ref pp), o9, o10] H8 by
    refine Jv fun A0 hA0 C0 hC0 => ?_
    walk_at "rd"
    refine ⟨ps, h3, ?_⟩
    by_cases c0 : ps.sum = 0
    ·rw [if_pos c0]
     subst hA0
     walk_at "rd"
     simp only [JP, ZcV, cxK]
     walk_at "rd"
     refine ⟨⟨_, .of (h1 _ _ hnpn e5)⟩, ?_⟩
     refine Zex Zpr Ziy (xs := us.map V.str) (as := us.map fun _ => (1 : Int)) (h1 _ _ hnpn e5) (by simp) (by rw [List.length_map]; omega) (fun i' y t' hi' ht' H' kk os sm'' ol hkk => ?_) (fun pq H8 zs hpq s8 e8 hY => ?_)
     ·obtain ⟨o', rfl⟩ : ∃ o', os = [o'] := by match os, ol with | [o'], _ => exact ⟨o', rfl⟩
      rw [Yh] at ht'
      obtain ⟨_, _, rfl⟩ := YD.mp ht'
      walk_at "rd"
      refine ⟨[some y], rfl, rfl, ?_⟩
      walk_at "rd"
      exact hkk _ _ (fun _ _ w => w) rfl
     ·rw [ZjQ hY] at e8
      refine fin pq _ H8 (fun b' o' hb' e' => s8 _ _ (h1 b' o' hb' e')) (s8 _ _ h6) e8 (fun z => by rw [z, h1 _ _ hbn eb5] at hpq; cases hpq) (fun z => by rw [z, h6] at hpq; cases hpq) (by simp) (fun m hm => ?_) fun hu => ?_
      ·obtain ⟨_, _, rfl⟩ := Yl.mp hm
       omega
      ·rw [Zl4]
       have := List.length_pos_iff.mpr hu
       omega
    ·rw [if_neg c0]
     subst hC0
     walk_at "rd"
     exact fin acc ps H2 h1 h6 h3 hbacc h2 h5 h9 fun _ => by have := hlv ps h9; omega
   intro pp ps H8 k8 en8 ep8 hppb hppn hpl hp4 hT
   have eb8 := k8 _ _ hbn eb5
   have e8n := k8 _ _ hnpn e5
   have s08 : Same H H8 := fun b' o' e' => k8 b' o' (Zk e' hnb0) (s05 _ _ e')
   have hsum := hlv ps hp4
   obtain ⟨Tn, hTn0, hTn1, hTn2⟩ : ∃ Tn : Nat, 0 < Tn /\ Tn < 64 /\ (us ≠ [] -> (Tn : Int) = ps.sum) := by
    by_cases hu : us = []
    ·exact ⟨1, by decide, by decide, fun h => absurd hu h⟩
    ·have := hT hu
     exact ⟨ps.sum.toNat, by omega, by omega, fun _ => by omega⟩
   have hden := rs[i].2.den_pos
   have hpsz := hpr.1
   have hB'0 : 0 < B * (rs[i].2.den * Tn) := Nat.mul_pos hB0 (Nat.mul_pos hden hTn0)
   have hdv : B ∣ B * (rs[i].2.den * Tn) := Yap _ _
   have kp8 : ∀ b' ys, H5 b' = some (.tup ys) -> H8 b' = some (.tup ys) := fun b' ys e => k8 _ _ (ZZ e en5 (by intro z; cases z)) e
   subst hR1
   try dsimp only
   rw [ZfP]
   walk_at "rd"
   refine Zhl (xs := us.map V.str) (ys := ps.map V.int) (by simp [hpl]) (Psz H p d b nb np pp c (.int (1 + (i : Int))) ss us ps ns' i Tn rs[i].2 qf (B * (rs[i].2.den * Tn))) ⟨_, _, _, svs, qf, rfl, s08, eb8, en8, e8n, ep8, hS5.keep kp8, fun z hz' => ⟨Nat.dvd_trans (hq4 z hz').1 hdv, (hq4 z hz').2.1, (hq4 z hz').2.2.mono (by omega), fun _ => (hq4 z hz').2.2⟩, by rw [List.take_zero, List.sum_nil, Int.mul_zero, Rat.zero_divInt, Rat.add_zero], fun _ _ => rfl, fun G _ => by rw [List.take_zero, List.sum_nil, Int.mul_zero, Rat.zero_divInt, Rat.add_zero]; exact Rat.le_refl⟩
    (fun j σ H' _ ⟨_, _, _, _, _, _, _, _, _, g1, g2, _⟩ => ⟨.of g1, .of g2⟩) (fun j x y σ H9 pt H10 hx hy hP hpt s10 e10 => ?_) (fun σ H9 hP => ?_)
   ·obtain ⟨q4, q9, q10, sv9, qg, rfl, s9, eb9, en9, enp9, epp9, hS9, hq9, ht9, hi9, hg9⟩ := hP
    rw [Yh] at hx hy
    obtain ⟨z, hzj, rfl⟩ := YD.mp hx
    obtain ⟨m, hmj, rfl⟩ := YD.mp hy
    have hjl := (Yg.mp hzj).1
    have hune : us ≠ [] := fun e => by rw [e] at hjl; simp at hjl
    have hTs := hTn2 hune
    have hzs := hus z (Yo hzj)
    have hm4 := hp4 m (Yo hmj)
    have s010 := s9.trans s10
    obtain ⟨pr, yr, exr, hprt, hyr⟩ := (hR.same s010).2 i _ _ (Yc hix) hri
    obtain ⟨py, rfl, hpy⟩ := id hyr
    obtain ⟨v, ev, rv⟩ := (hS9.keep fun b ys e => s10 _ _ e).val hnd z hzs
    have hznt : z ∉ us.take j := fun hm => by
     have h1 : (us.take (j + 1)).Nodup := hun.sublist (Vn _ _)
     rw [Yp, hzj] at h1
     exact (List.nodup_append.mp h1).2.2 _ hm _ (by simp) rfl
    have szq := (hq9 z hzs).2.2.2 hznt
    have sT : ((Tn : Nat) : Int).natAbs < 2 ^ 6 := by rw [VI]; omega
    have sm3 : m.natAbs < 2 ^ 3 := by omega
    have hdp : (0 : Int) < (rs[i].2.den : Int) * (Tn : Int) := Int.mul_pos (by omega) (by omega)
    have szn := Zaq hpsz.1 sm3
    have szdn := Zaq (ZP hpsz) sT
    have szsh : SzQ 117 (Rat.divInt (rs[i].2.num * m) ((rs[i].2.den : Int) * (Tn : Int))) := SzQ.of (by omega) (ZL szn (by omega)) (ZL szdn (by omega))
    have h0sh : 0 <= Rat.divInt (rs[i].2.num * m) ((rs[i].2.den : Int) * (Tn : Int)) := (Rat.divInt_nonneg_iff_of_pos_right hdp).mpr (Int.mul_nonneg hpr.2 hm4.1)
    have hdsh : (Rat.divInt (rs[i].2.num * m) ((rs[i].2.den : Int) * (Tn : Int))).den ∣ B * (rs[i].2.den * Tn) := by
     have e : ((rs[i].2.den : Int) * (Tn : Int)) = ((rs[i].2.den * Tn : Nat) : Int) := by simp
     rw [e]
     exact VR (ZmS (Nat.mul_pos hden hTn0)) (Nat.dvd_mul_left _ _)
    walk_at "rd"
    refine ⟨_, e10, rfl, _, _, rfl, _, _, rfl, rfl, xs, s010 _ _ hp, .ref pr, ?_, pr, rfl, _, hprt, _, rfl, sv9, .inl (s10 _ _ eb9), .inr z, rfl, v, ev, py, rfl, _, hpy, _, rfl, _, rfl, ?_⟩
    ·rw [show (1 : Int) + (i : Int) - 1 = (i : Int) by omega, <- exr]
     exact ZE (Yc hix)
    have sTs : ps.sum.natAbs < 2 ^ 6 := by rw [<- hTs]; exact sT
    refine ⟨m, rfl, JJ hpsz.1 sm3 (by decide), py, rfl, _, hpy, _, rfl, ps, s10 _ _ epp9, _, rfl, JJ (ZP hpsz) sTs (by decide), _, _, rfl, ?_⟩
    rw [<- hTs]
    refine ⟨Big.of szdn (by decide), hdp, fun r11 H11 s11 v11 => ⟨v, r11, _, _, rfl, rv.same s11, v11, szq.mono (by omega), szsh.mono (by decide), fun r12 H12 s12 v12 => ?_⟩⟩
    have s912 := s10.trans (s11.trans s12)
    have eb12 := s912 _ _ eb9
    have kp : ∀ b' ys, H12 b' = some (.tup ys) -> upd H12 b (.dK (Je sv9 (Sum.inr z) r12)) b' = some (.tup ys) := fun b' ys e => by rw [Zf (ZZ e eb12 (by intro z; cases z))]; exact e
    refine ⟨sv9, eb12, .inr z, rfl, by rw [hS9.1]; omega, _, _, _, Je sv9 (Sum.inr z) r12, fun y => if y = z then qg y + Rat.divInt (rs[i].2.num * m) ((rs[i].2.den : Int) * (Tn : Int)) else qg y, rfl, Zr hb (s9.trans s912), upd_same, by rw [Zf hbn.symm]; exact s912 _ _ en9, by rw [Zf hnpb]; exact s912 _ _ enp9, by rw [Zf hppb]; exact s912 _ _ epp9, ?_, fun y hy => ?_, ?_, fun y hy => ?_, fun G hG => ?_⟩
    ·refine ShV.put ((hS9.keep fun b ys e => s912 _ _ e).keep kp) hzs ?_ fun y hy => if_neg hy
     rw [if_pos rfl]
     exact v12.keep kp
    ·obtain ⟨d1, d2, d3, d4⟩ := hq9 y hy
     have htk : us.take (j + 1) = us.take j ++ [z] := by rw [Yp, hzj]; rfl
     dsimp only
     by_cases cy : y = z
     ·subst cy
      rw [if_pos rfl]
      exact ⟨ZmV hB'0 d1 hdsh, Rat.add_nonneg d2 h0sh, szq.add szsh (by omega), fun hn => absurd (by rw [htk]; simp) hn⟩
     ·rw [if_neg cy]
      exact ⟨d1, d2, d3, fun hn => d4 fun hm => hn (by rw [htk]; exact VF _ hm)⟩
    ·rw [Zc7 hnd hzs, ht9, Vk, ZbV (by omega), <- Int.mul_add, ZfZ ps j m hmj]
    ·have htk : us.take (j + 1) = us.take j ++ [z] := by rw [Yp, hzj]; rfl
     rw [htk, Yx] at hy
     have hyz : y ≠ z := fun e => hy (.inr (by simp [e]))
     show (if y = z then _ else qg y) = qf y
     rw [if_neg hyz]
     exact hi9 y fun h => hy (.inl h)
    ·have e : Rat.divInt (rs[i].2.num * (ps.take (j + 1)).sum) ((rs[i].2.den : Int) * (Tn : Int)) = Rat.divInt (rs[i].2.num * (ps.take j).sum) ((rs[i].2.den : Int) * (Tn : Int)) + Rat.divInt (rs[i].2.num * m) ((rs[i].2.den : Int) * (Tn : Int)) := by rw [ZbV (by omega), <- Int.mul_add, ZfZ ps j m hmj]
     rw [e, <- Vk]
     have h1 := hg9 G hG
     by_cases cz : z ∈ G
     ·rw [Zc7 hG cz]
      exact Rat.add_le_add_right.mpr h1
     ·rw [show (G.map fun y => if y = z then qg y + Rat.divInt (rs[i].2.num * m) ((rs[i].2.den : Int) * (Tn : Int)) else qg y) = G.map qg from YL fun y hy => if_neg fun e : y = z => cz (by rw [<- e]; exact hy)]
      refine Rat.le_trans h1 ?_
      have h2 := Rat.add_le_add_left (c := ZO (G.map qf) + Rat.divInt (rs[i].2.num * (ps.take j).sum) ((rs[i].2.den : Int) * (Tn : Int))).mpr h0sh
      rw [V6] at h2
      exact h2
   ·obtain ⟨q4, q9, q10, sv9, qg, rfl, s9, eb9, en9, enp9, epp9, hS9, hq9, ht9, hi9, hg9⟩ := hP
    rw [Yi, YC] at hi9
    rw [Yi, <- hpl, YC] at ht9 hg9
    have hBle : B * (rs[i].2.den * Tn) <= 2 ^ (117 * (i + 1)) := by
     have h1 : rs[i].2.den <= 2 ^ 110 := Yr hpsz.2
     have h2 : rs[i].2.den * Tn <= 2 ^ 110 * 2 ^ 6 := V3 h1 (by omega)
     refine Yj (V3 hB1 h2) ?_
     rw [<- Vq, <- Vq]
     exact Va (by decide) (by omega)
    have hnl' : (rs.length - (i + 1)) * ss.length <= ns'.length := by
     have h1 : (rs.length - i) * ss.length = (rs.length - (i + 1)) * ss.length + ss.length := by
      rw [show rs.length - i = (rs.length - (i + 1)) + 1 by omega, Nat.add_mul, Nat.one_mul]
     omega
    refine ⟨_, _, _, _, _, _, sv9, qg, B * (rs[i].2.den * Tn), ns', rfl, s9, eb9, en9, hnl', h8, hS9, hB'0, hBle, fun z hz' => ⟨(hq9 z hz').1, (hq9 z hz').2.1, (hq9 z hz').2.2.1⟩, fun j r hj hr => ?_, fun ks hkn hkm => ?_, fun G hGn hGs ks hkn hkm => ?_⟩
    ·by_cases cj : j = i
     ·subst cj
      rw [hri] at hr
      cases hr
      exact VR (Yap _ _) (Nat.dvd_mul_left _ _)
     ·exact VR (hd4 j r (by omega) hr) hdv
    ·have hpa : Zm rs (i + 1) = rs[i].2 := by unfold Zm; rw [Nat.add_sub_cancel, hri]; rfl
     have h1 := ht4 (ks.filter fun k => !decide (k = i + 1)) (hkn.filter _) fun k => by
      rw [YA, hkm k]
      simp
      constructor
      ·rintro ⟨⟨h1, h2⟩, h3⟩; exact ⟨by omega, h2⟩
      ·rintro ⟨h1, h2⟩; exact ⟨⟨by omega, h2⟩, by omega⟩
     by_cases hu : us = []
     ·have hnk : ∀ k ∈ ks, k ≠ i + 1 := fun k hk e => (hneed.mp (e ▸ ((hkm k).mp hk).2)) hu
      rw [List.filter_eq_self.mpr fun k hk => by simp [hnk k hk]] at h1
      have hps : ps = [] := Yaf.mp (by rw [hpl, hu]; rfl)
      rw [ht9, h1, hps, List.sum_nil, Int.mul_zero, Yaw, V6]
     ·have hTs := hTn2 hu
      have hmem : i + 1 ∈ ks := (hkm _).mpr ⟨Yd _, hneed.mpr hu⟩
      have hpm : ks.Perm ((i + 1) :: ks.filter fun k => !decide (k = i + 1)) := by
       refine (List.perm_ext_iff_of_nodup hkn ?_).mpr fun k => ?_
       ·rw [Y4]
        exact ⟨fun h => by simpa using (List.mem_filter.mp h).2, hkn.filter _⟩
       ·rw [Yn, YA]
        simp
        by_cases ck : k = i + 1
        ·subst ck; simp [hmem]
        ·simp [ck]
      rw [Zct (hpm.map _), Yq, ZG, hpa, <- h1, ht9, <- hTs, Yak (by omega), Vg, Rat.add_comm]
    ·have hpa : Zm rs (i + 1) = rs[i].2 := by unfold Zm; rw [Nat.add_sub_cancel, hri]; rfl
     have hwG : ∀ z ∈ G, WayR rs (hf z) (wayL rs (hf z)) := fun z hz => (hway z (hGs z hz)).1
     have h1 := hg4 G hGn hGs (ks.filter fun k => !decide (k = i + 1)) (hkn.filter _) fun k => by
      rw [YA, hkm k]
      simp
      constructor
      ·rintro ⟨⟨h1, h2⟩, h3⟩; exact ⟨by omega, h2⟩
      ·rintro ⟨h1, h2⟩; exact ⟨⟨by omega, h2⟩, by omega⟩
     by_cases hm : ∃ z ∈ G, z ∈ us
     ·obtain ⟨z, hzG, hzu⟩ := hm
      have hTs := hTn2 fun e => by rw [e] at hzu; cases hzu
      have hmem : i + 1 ∈ ks := (hkm _).mpr ⟨Yd _, (Z7 hwG).mpr ⟨z, hzG, hus2 z hzu⟩⟩
      have hpm : ks.Perm ((i + 1) :: ks.filter fun k => !decide (k = i + 1)) := by
       refine (List.perm_ext_iff_of_nodup hkn ?_).mpr fun k => ?_
       ·rw [Y4]
        exact ⟨fun h => by simpa using (List.mem_filter.mp h).2, hkn.filter _⟩
       ·rw [Yn, YA]
        simp
        by_cases ck : k = i + 1
        ·subst ck; simp [hmem]
        ·simp [ck]
      rw [Zct (hpm.map _), Yq, ZG, hpa]
      have h2 := hg9 G hGn
      rw [<- hTs, Yak (by omega), Vg] at h2
      refine Rat.le_trans h2 ?_
      rw [Rat.add_comm]
      exact Rat.add_le_add_left.mpr h1
     ·have hnk : ∀ k ∈ ks, k ≠ i + 1 := fun k hk e => by
       obtain ⟨z, hzG, hkz⟩ := (Z7 hwG).mp (e ▸ ((hkm k).mp hk).2)
       exact hm ⟨z, hzG, hum z (hGs z hzG) hkz⟩
      rw [List.filter_eq_self.mpr fun k hk => by simp [hnk k hk]] at h1
      rw [show G.map qg = G.map qf from YL fun z hz => hi9 z fun h => hm ⟨z, hz, h⟩]
      exact h1
  ·obtain ⟨o4, o6, o7, o8, o9, o10, svs, qf, B, ns, rfl, s4, eb4, en4, hnl4, hn7, hS4, hB0, hB1, hq4, hd4, ht4, hg4⟩ := hP
   walk_at "rd"
   have e20 : (((xs.length : Int) + 1 - 1).toNat) = rs.length := by omega
   rw [e20] at hB1 hd4 ht4 hg4
   refine q b H4 svs qf B hb s4 eb4 hS4 hB0 (Yj hB1 (Va (by decide) (by omega))) (fun z hz => ⟨(hq4 z hz).1, (hq4 z hz).2.1⟩) (fun r hr => ?_) (fun ks hkn hkm => ht4 ks hkn fun k => (hkm k).trans ⟨fun h => ⟨(ZR h).2, h⟩, fun h => h.2⟩) fun G hGn hGs ks hkn hkm => hg4 G hGn hGs ks hkn fun k => (hkm k).trans ⟨fun h => ⟨(ZR h).2, h⟩, fun h => h.2⟩
   obtain ⟨j, hj, rfl⟩ := Vv hr
   exact hd4 j _ hj (Yc hj)
end
theorem Zju {B : Nat} (hB : 0 < B) {m : Int} (h : 0 < m) : 0 < (Zt B m).num := by
 have h := (@Jj B hB 0 m).mpr h
 rw [Zat, Rat.lt_iff] at h
 simpa using h
section
variable {P : Program} {w : World} {K : PySem.W.Frag} {mg : Str -> Option Value} {base : Heap} {f : Addr} {fd : FuncData}
theorem Zhr {H : Hp} {a : Addr} {xs : List V} (h : H a = some (.tup xs)) : Js H (.ref a) = some "tuple" := by simp [Js, h]
def ZbK : Sp := fun vs H Q _ => ∃ (x : V) (p : Rat), vs = [x] /\ RatV H x p /\ SzQ 3000 p /\ ∀ H', Same H H' -> Q (.bl true) H'
theorem ZeT (F : Fun K "_law_fraction" "_law_fraction" ZaE f fd) (n_isinstance : mg "isinstance" = none) (n_tuple : mg "tuple" = none) (n_len : mg "len" = none) (n_int : mg "int" = none) (n_bool : mg "bool" = none) (F_law_low : Fn P w K mg base Zw 1 "_law_low" ["_law_top", "_law_bottom"] Zbc) : FnOk P w K mg base Zw 2 f fd ["_law_told"] ZbK := by
 refine JL F sc_law_fraction (fun vs H Q E h => ?_) (fun cdv A outer s H vs Q E hr h => ?_)
 ·obtain ⟨x, p, rfl, _⟩ := h; rfl
 obtain ⟨x, p, rfl, ⟨a, rfl, ha⟩, hz, q⟩ := h
 refine ⟨_, (Zd (Z4 (t_w (JO (Jq (ZU (Jl rfl n_isinstance (Zh (Ze 0) (Zh (JY rfl n_tuple rfl) Za))))) (JT (ZkN (Jp rfl n_len (Zh (Ze 0) Za)) Zc)))) (Zg (Zs JV)) ZN)
   (Zd (ZY Ys (ZpG (Ze 0)) (Zp 1 sc_law_fraction.nd) (Zg (Z4 (t_w (JO (Jq (ZU (Jl rfl n_isinstance (Zh (Ze 1) (Zh (JY rfl n_int rfl) Za))))) (JT (ZU (Jl rfl n_isinstance (Zh (Ze 1) (Zh (JY rfl n_bool rfl) Za))))))) (Zg (Zs JV)) ZN)))
   (Zg (Zs (Zgo (ZqK (Zx (Ze 0) Zc) Zc) (Zg0 (ZoL hr (Zy F_law_low hr (by decide) rfl (Zh (Zx (Ze 0) Zc) (Zh (Zx (Ze 0) Zc) Za))) (Ze 0)))))))), ?_⟩
 rw [show Zu ["_law_told", "_law_number"] [.ref a] = [some (.ref a), none] from rfl]
 walk_at "rd"
 simp only [Zhr ha, ha, Zjo]
 walk_at "rd"
 rw [if_neg (by simp)]
 refine ZmO (xs := [V.int p.num, V.int (p.den : Int)]) (fun i σ H' => ∃ o, σ = [some (V.ref a), o] /\ H' = H) ⟨_, rfl, rfl⟩ (fun i σ H' _ ⟨_, _, e⟩ => by rw [e]; exact .of ha) (fun i v σ H' hi hP => ?_) (fun σ H' hP => ?_)
 ·obtain ⟨o, rfl, rfl⟩ := hP
  obtain ⟨n, rfl⟩ : ∃ n : Int, v = V.int n := by
   have hm := Yo hi
   simp only [List.mem_cons, List.not_mem_nil, or_false] at hm
   rcases hm with rfl | rfl
   ·exact ⟨_, rfl⟩
   ·exact ⟨_, rfl⟩
  walk_at "rd"
 ·obtain ⟨o, rfl, rfl⟩ := hP
  have hdp := p.den_pos
  walk_at "rd"
  refine ⟨_, ha, _, rfl, _, rfl, ?_⟩
  rw [if_pos (by omega)]
  refine ⟨_, ha, _, rfl, _, ha, _, rfl, p.num, p.den, rfl, Big.of (ZP hz) (by decide), by omega, fun r H2 s2 v2 => ?_⟩
  rw [Vg] at v2
  obtain ⟨pr, pc, rfl, e, h⟩ := ZbH v2 ⟨a, rfl, s2 _ _ ha⟩
  cases e
  exact ⟨true, 1, pr, a, rfl, rfl, h, by decide, q _ s2⟩
def Zd5 : Sp := fun vs H Q _ => ∃ (g d : Addr) (n : Nat) (o : Obj) (kvs : List (ZA × V)) (ss : List Str) (tvs : List V) (qs : List (Nat × Str × Int)) (B : Nat), vs = [.ref g, .ref d, .int (n : Int)] /\ H g = some (.lst tvs) /\ H d = some (.frz o (.dK kvs)) /\ (∀ z ∈ ss, ∃ v, Jx kvs (Sum.inr z) = some v) /\ Zli B H tvs qs /\ 0 < B /\ (∀ p ∈ qs, 1 <= p.1 /\ p.1 <= n /\ p.2.1 ∈ ss /\ 0 < p.2.2 /\ SzQ 3000 (Zt B p.2.2)) /\ qs.Pairwise (fun x y => ZS (x.1, x.2.1) (y.1, y.2.1) = true) /\ qs.length < 64 /\ ∀ H', Same H H' -> Q (.bl true) H'
def Pfm (H0 : Hp) (g d : Addr) (n : Nat) (qs : List (Nat × Str × Int)) (i : Nat) (σ : St) (H : Hp) : Prop := ∃ (o4 : Option V) (c : Addr) (m : Nat) (z : Str), σ = [some (.ref g), some (.ref d), some (.int (n : Int)), some (.ref c), o4] /\ Same H0 H /\ H c = some (.tup [.int (m : Int), .str z]) /\ ∀ p, qs[i]? = some p -> ZS (m, z) (p.1, p.2.1) = true
theorem ZhR (F : Fun K "_law_formed" "_law_formed" Za3 f fd) (n_isinstance : mg "isinstance" = none) (n_list : mg "list" = none) (n_tuple : mg "tuple" = none) (n_len : mg "len" = none) (n_int : mg "int" = none) (n_bool : mg "bool" = none) (n_str : mg "str" = none) (F_law_fraction : Fn P w K mg base Zw 2 "_law_fraction" ["_law_told"] ZbK) : FnOk P w K mg base Zw 3 f fd ["_law_table", "_law_homes", "_law_many"] Zd5 := by
 refine JL F sc_law_formed (fun vs H Q E h => ?_) (fun cdv A outer s H vs Q E hr h => ?_)
 ·obtain ⟨g, d, n, o, kvs, ss, tvs, qs, B, rfl, _⟩ := h; rfl
 obtain ⟨g, d, n, o, kvs, ss, tvs, qs, B, rfl, hg, hd, hks, hT, hB, hrow, hup, hfew, q⟩ := h
 refine ⟨_, (Zd (Zo 3 sc_law_formed.nd (Jo (Zh Zc (Zh ZdS Za))))
   (Zd (Z4 (Jq (ZU (Jl rfl n_isinstance (Zh (Ze 0) (Zh (JY rfl n_list rfl) Za))))) (Zg (Zs JV)) ZN)
   (Zd (ZY Ys (Z5 (Ze 0)) (Zp 4 sc_law_formed.nd) (Zd (Z4 (t_w (JO (Jq (ZU (Jl rfl n_isinstance (Zh (Ze 4) (Zh (JY rfl n_tuple rfl) Za))))) (JO (ZkN (Jp rfl n_len (Zh (Ze 4) Za)) Zc) (JO (Jq (ZU (Jl rfl n_isinstance (Zh (Zx (Ze 4) Zc) (Zh (JY rfl n_int rfl) Za))))) (JT (ZU (Jl rfl n_isinstance (Zh (Zx (Ze 4) Zc) (Zh (JY rfl n_bool rfl) Za))))))))) (Zg (Zs JV)) ZN)
   (Zd (Z4 (t_w (JO (Zne (Zx (Ze 4) Zc) Zc) (JO (ZpK (Zx (Ze 4) Zc) (Ze 2)) (JO (Jq (ZU (Jl rfl n_isinstance (Zh (Zx (Ze 4) Zc) (Zh (JY rfl n_str rfl) Za))))) (JT (ZoW (Jh hr) (Zx (Ze 4) Zc) (Ze 1))))))) (Zg (Zs JV)) ZN)
   (Zd (Z4 (t_w (JO (Jq (ZU (Zy F_law_fraction hr (by decide) rfl (Zh (Zx (Ze 4) Zc) Za)))) (JO (ZqC (Zx (Zx (Ze 4) Zc) Zc) Zc) (JT (Zp2 hr (Zlb (Ze 4) Zc) (Ze 3)))))) (Zg (Zs JV)) ZN)
   (Zg (Zo 3 sc_law_formed.nd (Zlb (Ze 4) Zc)))))))
   (Zg (Zs JV))))), ?_⟩
 rw [show Zu ["_law_table", "_law_homes", "_law_many", "_law_last", "_law_row"] [.ref g, .ref d, .int (n : Int)] = [some (.ref g), some (.ref d), some (.int (n : Int)), none, none] from rfl]
 walk_at "rd"
 intro c0 H1 hc0 s1 e1
 refine ⟨"list", by simp [Js, s1 _ _ hg], ?_⟩
 rw [if_neg (by decide), Zao]
 walk_at "rd"
 have htl : tvs.length = qs.length := hT.1
 refine Zax (xs := tvs) (Pfm H g d n qs) ⟨_, c0, 0, Str.ofString "", rfl, s1, e1, fun p hp => ?_⟩ (fun i σ H' _ ⟨_, _, _, _, _, sm', _⟩ => .of (sm' _ _ hg)) (fun i y σ H' hi hP => ?_) (fun σ H' hP => ?_)
 ·have := (hrow p (Yo hp)).1
  show ZS (((0 : Nat) : Int), _) ((p.1 : Int), p.2.1) = true
  rw [ZS, if_neg (by show ¬ ((0 : Nat) : Int) = (p.1 : Int); omega)]
  exact YQ (by show ((0 : Nat) : Int) < (p.1 : Int); omega)
 ·obtain ⟨o4, c, m, z, rfl, s2, ec, hlt⟩ := hP
  have hil : i < qs.length := by rw [<- htl]; exact (Yg.mp hi).1
  have hqi := Yc hil
  obtain ⟨t, r, rfl, ht, hrv⟩ := hT.2 i _ _ hi hqi
  have ht2 := s2 _ _ ht
  have hrv2 := hrv.same s2
  obtain ⟨h1, h2, h3, h4, h5⟩ := hrow _ (Yo hqi)
  have hlt' := hlt _ hqi
  obtain ⟨pr, rfl, hpr⟩ := id hrv2
  refine ZB fun R0 hR0 => ?_
  refine Jv fun A0 hA0 C0 hC0 => ?_
  walk_at "rd"
  refine ⟨"tuple", by simp [Js, ht2], ?_⟩
  rw [if_neg (by decide)]
  refine ⟨_, .inr ht2, ?_⟩
  rw [if_neg (by simp)]
  refine ⟨_, ht2, _, rfl, "int", rfl, ?_⟩
  rw [if_neg (by decide)]
  refine ⟨_, ht2, _, rfl, "int", rfl, ?_⟩
  rw [if_neg (by decide)]
  subst hC0
  walk_at "rd"
  subst hR0
  try dsimp only
  refine ZB fun R0 hR0 => ?_
  refine Jv fun A0 hA0 C0 hC0 => ?_
  walk_at "rd"
  refine ⟨_, ht2, _, rfl, _, rfl, ?_⟩
  rw [if_neg (by omega)]
  refine ⟨_, ht2, _, rfl, _, rfl, ?_⟩
  rw [if_neg (by omega)]
  refine ⟨_, ht2, _, rfl, "str", rfl, ?_⟩
  rw [if_neg (by decide)]
  refine ⟨_, ht2, _, rfl, kvs, .inr ⟨o, s2 _ _ hd⟩, .inr _, rfl, ?_⟩
  obtain ⟨vz, hvz⟩ := hks _ h3
  rw [if_neg (by rw [hvz]; simp)]
  subst hC0
  walk_at "rd"
  subst hR0
  try dsimp only
  refine ZB fun R0 hR0 => ?_
  refine Jv fun A0 hA0 C0 hC0 => ?_
  walk_at "rd"
  refine ⟨_, ht2, _, rfl, _, _, rfl, hrv2, h5, fun H3 s3 => ⟨_, rfl, ?_⟩⟩
  rw [if_neg (by decide)]
  refine ⟨_, s3 _ _ ht2, _, rfl, pr, rfl, _, s3 _ _ hpr, _, rfl, _, rfl, ?_⟩
  rw [if_neg (by have := Zju hB h4; omega)]
  simp only [Zpd]
  walk_at "rd"
  refine ⟨_, .of (s3 _ _ ht2), (by rintro ⟨_, h⟩; exact absurd h (by show ¬ HT.sIx 3 3 (some 2) = 3; decide)), fun p hp => ?_⟩
  have ec3 := s3 _ _ ec
  refine ⟨p, c, _, _, _, _, rfl, rfl, upd_same, by rw [Zf (Zk ec3 hp)]; exact ec3, _, rfl, ?_⟩
  rw [show (!ZS ((m : Int), z) ((qs[i].1 : Int), qs[i].2.1)) = false by rw [hlt']; rfl, if_neg (by decide)]
  have s4 : Same H3 (upd H3 p (.tup (Zoz [.int (qs[i].1 : Int), .str qs[i].2.1, .ref pr] none (some 2)))) := ZC hp _
  subst hC0
  walk_at "rd"
  subst hR0
  try dsimp only
  walk_at "rd"
  simp only [Zpd]
  walk_at "rd"
  have s34 := s3.trans s4
  refine ⟨_, .of (s34 _ _ ht2), (by rintro ⟨_, h⟩; exact absurd h (by show ¬ HT.sIx 3 3 (some 2) = 3; decide)), fun p2 hp2 => ?_⟩
  exact ⟨_, p2, qs[i].1, qs[i].2.1, rfl, (s2.trans s34).trans (ZC hp2 _), upd_same, fun q' hq' => by
   obtain ⟨hl', e'⟩ := Yg.mp hq'
   rw [<- e']
   exact List.pairwise_iff_getElem.mp hup i (i + 1) hil hl' (VN i)⟩
 ·obtain ⟨o4, c, m, z, rfl, s2, _⟩ := hP
  walk_at "rd"
  exact q _ s2
end
theorem Zil {α : Type} {l : List α} {f : α -> Int} (h : ∀ x ∈ l, 0 <= f x) (j : Nat) : 0 <= sm (l.take j) f /\ sm (l.take j) f <= sm l f := by
 have e : sm l f = sm (l.take j) f + sm (l.drop j) f := by rw [<- ZaK, Yaj]
 have h1 : 0 <= sm (l.take j) f := ZaU fun p hp => h p (List.mem_of_mem_take hp)
 have h2 : 0 <= sm (l.drop j) f := ZaU fun p hp => h p (List.mem_of_mem_drop hp)
 omega
theorem Zfi {α : Type} {l : List α} {f : α -> Int} {j : Nat} {x : α} (h : l[j]? = some x) : sm (l.take (j + 1)) f = sm (l.take j) f + f x := by
 rw [Yp, h, ZaK]
 simp [sm]
theorem ZeH {H : Hp} {a b : Addr} {sv1 sv2 : List (ZA × V)} {ss : List Str} {qf qg : Str -> Rat} (ha : Rd H a (.dK sv1)) (hb : Rd H b (.dK sv2)) (hN : ss.Nodup) (hv1 : ShV H sv1 ss qf) (hv2 : ShV H sv2 ss qg) (he : ∀ z ∈ ss, qf z = qg z) : EqP H (.ref a) (.ref b) 3 :=
 .dct (n := 1) ha hb (by rw [hv1.1, hv2.1]) (fun j x y h1 h2 => by
  have hj : j < ss.length := by rw [<- hv1.1]; exact (Yg.mp h1).1
  obtain ⟨v1, e1, r1⟩ := hv1.2 j _ (Yc hj)
  obtain ⟨v2, e2, r2⟩ := hv2.2 j _ (Yc hj)
  rw [h1] at e1
  rw [h2] at e2
  cases e1
  cases e2
  rw [he _ (YI hj)] at r1
  obtain ⟨_, _, _, _, h⟩ := ZbH r1 r2
  exact ⟨rfl, h⟩) (by rw [hv1.keys]; exact ZcQ hN)
theorem ZfF {qs : List (Nat × Str × Int)} {j k : Nat} {x : Nat × Str × Int} (h : qs[j]? = some x) : Jg (qs.take (j + 1)) k = Jg (qs.take j) k + if x.1 = k then x.2.2 else 0 := Zfi h
theorem Zfm {qs : List (Nat × Str × Int)} {j : Nat} {z : Str} {x : Nat × Str × Int} (h : qs[j]? = some x) : Jr (qs.take (j + 1)) z = Jr (qs.take j) z + if z = x.2.1 then x.2.2 else 0 := Zfi h
def Zk5 (CT : Addr) : Sp := fun vs H Q _ => ∃ (p d sd g : Addr) (xs : List V) (x : V) (rs : List (Nat × Rat)) (o : Obj) (kvs svs : List (ZA × V)) (ss : List Str) (hf : Str -> Nat) (B : Nat) (a : Str -> Int) (cs : Nat -> Int) (tvs : List V) (qs : List (Nat × Str × Int)), vs = [.ref p, .ref d, .ref sd, .ref g] /\ H p = some (.lst xs) /\ RoadsV H xs rs /\ Jd H CT x d sd rs o kvs svs ss hf B a cs /\ H g = some (.lst tvs) /\ Zli B H tvs qs /\ TabOk rs hf ss cs a qs /\ ∀ H', Same H H' -> Q (.bl true) H'
def JF (B n : Nat) (qs : List (Nat × Str × Int)) : List Rat := (List.range n).map fun i => Zt B (Jg qs (i + 1))
def Pth (H0 : Hp) (p d sd g pd b : Addr) (rs : List (Nat × Rat)) (ss : List Str) (B : Nat) (qs : List (Nat × Str × Int)) (j : Nat) (σ : St) (H : Hp) : Prop := ∃ (o6 o7 o8 : Option V) (pvs : List V) (shv : List (ZA × V)), σ = [some (.ref p), some (.ref d), some (.ref sd), some (.ref g), some (.ref pd), some (.ref b), o6, o7, o8] /\ Same H0 H /\ H pd = some (.lst pvs) /\ ListV RatV H pvs (JF B rs.length (qs.take j)) /\ H b = some (.dK shv) /\ ShV H shv ss (fun z => Zt B (Jr (qs.take j) z))
section
variable {P : Program} {w : World} {K : PySem.W.Frag} {mg : Str -> Option Value} {base : Heap} {f : Addr} {fd : FuncData} {CT CNP : Addr}
theorem Zoj (F : Fun K "_law_table_holds" "_law_table_holds" Zar f fd) (n_len : mg "len" = none) (F_law_formed : Fn P w K mg base Zw 3 "_law_formed" ["_law_table", "_law_homes", "_law_many"] Zd5) (F_law_way : Fn P w K mg base Zw 1 "_law_way" ["_law_roads", "_law_k"] ZiE) (F_law_add : Fn P w K mg base Zw 2 "_law_add" ["_law_one", "_law_other"] ZeV) : FnOk P w K mg base Zw 4 f fd ["_law_roads", "_law_homes", "_law_sharing", "_law_table"] (Zk5 CT) := by
 refine JL F sc_law_table_holds (fun vs H Q E h => ?_) (fun cdv A outer s H vs Q E hr h => ?_)
 ·obtain ⟨p, d, sd, g, xs, x, rs, o, kvs, svs, ss, hf, B, a, cs, tvs, qs, rfl, _⟩ := h; rfl
 obtain ⟨p, d, sd, g, xs, x, rs, o, kvs, svs, ss, hf, B, a, cs, tvs, qs, rfl, hp, hR, J, hg, hT, hk, q⟩ := h
 have hxl := hR.1
 have hfew := J.few
 have hrl := J.rl
 have hks := J.keys
 have hkl : kvs.length = ss.length := by have := congrArg List.length hks; simpa using this
 have hval : ∀ z ∈ ss, Jx kvs (Sum.inr z) = some (.int (hf z : Int)) /\ hf z <= rs.length := fun z hz => (J.hat [z] (fun y hy => by rw [YH.mp hy]; exact hz)).2 0 z (hf z) rfl rfl
 have hnm0 : ∀ z, ∀ y ∈ qs, 0 <= if z = y.2.1 then y.2.2 else 0 := fun z y hy => by
  have := (hk.row y hy).2.2.2.2
  split <;> omega
 have hrd0 : ∀ k, ∀ y ∈ qs, 0 <= if y.1 = k then y.2.2 else 0 := fun k y hy => by
  have := (hk.row y hy).2.2.2.2
  split <;> omega
 have hneed : ∀ y ∈ qs, Z3 rs (ss.map hf) y.1 := fun y hy => (Z7 J.way).mpr ⟨y.2.1, (hk.row y hy).2.2.1, (hk.row y hy).2.2.2.1⟩
 have hnmz : ∀ z ∈ ss, ∀ j, (Jr (qs.take j) z).natAbs < 2 ^ 2600 := fun z hz j => by
  have h1 := Zil (hnm0 z) j
  have h2 := hk.name z hz
  have h3 := J.az z hz
  unfold Jr at h2 ⊢
  omega
 have hrdz : ∀ k, Z3 rs (ss.map hf) k -> ∀ j, (Jg (qs.take j) k).natAbs < 2 ^ 2600 := fun k hk' j => by
  have h1 := Zil (hrd0 k) j
  have h2 := hk.road k hk'
  have h3 := J.cz k
  unfold Jg at h2 ⊢
  omega
 have hamz : ∀ y ∈ qs, (y.2.2).natAbs < 2 ^ 2600 := fun y hy => by
  have h1 := ZcG (hnm0 y.2.1) hy
  have h2 := hk.name y.2.1 (hk.row y hy).2.2.1
  have h3 := J.az y.2.1 (hk.row y hy).2.2.1
  have h4 := (hk.row y hy).2.2.2.2
  rw [if_pos rfl] at h1
  unfold Jr at h2
  omega
 have szf : ∀ m : Int, m.natAbs < 2 ^ 2600 -> SzQ 3000 (Zt B m) := fun m h => (ZaP J.b0 J.b1 h).mono (by decide)
 refine ⟨_, (Zd (Z4 (Jq (ZU (Zy F_law_formed hr (by decide) rfl (Zh (Ze 3) (Zh (Ze 1) (Zh (Jp rfl n_len (Zh (Ze 0) Za)) Za)))))) (Zg (Zs JV)) ZN)
   (Zd (Zbi 4 (ZpD ["_law_road"]) (Z5 (Ze 0)) (by exact fun s H fp => (Zp 0 (show List.Nodup (["_law_road"] : List Str) from by decide +kernel))) (by exact fun s H fp => (Jo (Zh Zc (Zh Zc Za)))) (Zp 4 sc_law_table_holds.nd))
   (Zd (Zo 5 sc_law_table_holds.nd Zi0)
   (Zd (ZY Ys (Zc2 (Ze 1)) (Zp 6 sc_law_table_holds.nd) (Zg (Zc9 (Jh hr) (Ze 5) (Ze 6) (Jo (Zh Zc (Zh Zc Za))))))
   (Zd (ZY Ys (Z5 (Ze 3)) (Zff (n := 3) (ZV (Zp 7 sc_law_table_holds.nd) (ZV (Zp 6 sc_law_table_holds.nd) (ZV (Zp 8 sc_law_table_holds.nd) Zcb)))) (Zd (Z4 (ZoK (Ze 7) (Zy F_law_way hr (by decide) rfl (Zh (Ze 0) (Zh (Jw (Jh hr) (Ze 1) (Ze 6)) Za)))) (Zg (Zs JV)) ZN)
   (Zd (ZkY (Zy F_law_add hr (by decide) rfl (Zh (Ju (Ze 4) (JK (Ze 7) Zc)) (Zh (Ze 8) Za))) (Zh2 (Ze 4) (JK (Ze 7) Zc)))
   (Zg (Zc9 (Jh hr) (Ze 5) (Ze 6) (Zy F_law_add hr (by decide) rfl (Zh (Jw (Jh hr) (Ze 5) (Ze 6)) (Zh (Ze 8) Za))))))))
   (Zd (ZY Ys (Zc2 (Ze 1)) (Zp 6 sc_law_table_holds.nd) (Zg (ZY Ys (Z5 (Zy F_law_way hr (by decide) rfl (Zh (Ze 0) (Zh (Jw (Jh hr) (Ze 1) (Ze 6)) Za)))) (Zp 7 sc_law_table_holds.nd) (Zg (Z4 (Zo1 hr (Ju (Ze 4) (JK (Ze 7) Zc)) (Zx (Ju (Ze 0) (JK (Ze 7) Zc)) Zc)) (Zg (Zs JV)) ZN)))))
   (Zg (Zs (ZpI hr (Ze 5) (Ze 2)))))))))), ?_⟩
 rw [show Zu ["_law_roads", "_law_homes", "_law_sharing", "_law_table", "_law_paid", "_law_shares", "_law_name", "_law_k", "_law_amount"] [.ref p, .ref d, .ref sd, .ref g] = [some (.ref p), some (.ref d), some (.ref sd), some (.ref g), none, none, none, none, none] from rfl]
 refine ZB fun R0 hR0 => ?_
 refine Jv fun A0 hA0 C0 hC0 => ?_
 walk_at "rd"
 refine ⟨xs, .inl hp, g, d, xs.length, o, kvs, ss, tvs, qs, B, rfl, hg, J.home, fun z hz => ⟨_, (hval z hz).1⟩, hT, J.b0, fun y hy => ?_, hk.up, hk.few, fun H1 s1 => ⟨_, rfl, ?_⟩⟩
 ·obtain ⟨h1, h2, h3, _, h5⟩ := hk.row y hy
  exact ⟨h1, by omega, h3, h5, szf _ (hamz y hy)⟩
 rw [if_neg (by decide)]
 subst hC0
 walk_at "rd"
 subst hR0
 try dsimp only
 refine ZB fun R0 hR0 => ?_
 walk_at "rd"
 simp only [JP, ZcV, cxK]
 walk_at "rd"
 refine ⟨⟨_, .of (s1 _ _ hp)⟩, ?_⟩
 refine Zex RatV ZaV (xs := xs) (as := JF B rs.length []) (s1 _ _ hp) (by simp [JF, hxl]) (by omega) (fun i' y t' hi' ht' H' kk os sm'' ol hkk => ?_) (fun pd H2 pvs hpd s2 e2 hPv => ?_)
 ·obtain ⟨o', rfl⟩ : ∃ o', os = [o'] := by match os, ol with | [o'], _ => exact ⟨o', rfl⟩
  have et : t' = 0 := by
   unfold JF at ht'
   rw [Yh] at ht'
   obtain ⟨i0, _, rfl⟩ := YD.mp ht'
   show Zt B (Jg [] (i0 + 1)) = 0
   rw [show Jg [] (i0 + 1) = 0 from rfl]
   exact Zat _
  subst et
  walk_at "rd"
  refine ⟨[some y], rfl, rfl, ?_⟩
  walk_at "rd"
  intro t H3 ht s3 e3
  exact hkk _ _ s3 ⟨t, rfl, e3⟩
 have s12 := s1.trans s2
 have hpd0 : H pd = none := s1.free hpd
 subst hR0
 try dsimp only
 walk_at "rd"
 intro b H3 hb s3 e3
 have s03 := s12.trans s3
 have hb0 : H b = none := s12.free hb
 have hpb : pd ≠ b := Zk e2 hb
 simp only [Zcv]
 walk_at "rd"
 refine ZdU (o := o) (kvs := kvs) (fun i σ H' => ∃ (o6 : Option V) (shv : List (ZA × V)), σ = [some (V.ref p), some (V.ref d), some (V.ref sd), some (V.ref g), some (V.ref pd), some (V.ref b), o6, none, none] /\ Same H H' /\ H' pd = some (.lst pvs) /\ ListV RatV H' pvs (JF B rs.length []) /\ H' b = some (.dK shv) /\ ShV H' shv (ss.take i) (fun _ => 0)) ⟨_, [], rfl, s03, s3 _ _ e2, hPv.keep ZaV (fun b ys e => s3 _ _ e), e3, by simp, fun i z h => by simp at h⟩ (fun i σ H' _ ⟨_, _, _, sm', _⟩ => sm' _ _ J.home) (fun i kv σ H' hi hP => ?_) (fun σ H' hP => ?_)
 ·obtain ⟨o6, shv, rfl, sm', epd, hPl, eb, hS⟩ := hP
  have hil : i < ss.length := by rw [<- hkl]; exact (Yg.mp hi).1
  have hz0 := Yc hil
  have hkk : kv.1 = Sum.inr ss[i] := by
   have := congrArg (·[i]?) hks
   simp only [List.getElem?_map, hi, hz0, Option.map_some, Option.some.injEq] at this
   exact this
  rw [hkk]
  walk_at "rd"
  intro t H4 ht s4 e4
  have eb4 := s4 _ _ eb
  have kp : ∀ b' ys, H4 b' = some (.tup ys) -> upd H4 b (.dK (Je shv (Sum.inr ss[i]) (.ref t))) b' = some (.tup ys) := fun b' ys e => by rw [Zf (ZZ e eb4 (by intro z; cases z))]; exact e
  refine ⟨shv, eb4, .inr ss[i], rfl, by rw [hS.1, YM]; omega, Zr hb0 (sm'.trans s4), by rw [Zf hpb]; exact s4 _ _ epd, (hPl.keep ZaV fun b ys e => s4 _ _ e).keep ZaV kp, _, upd_same, ?_⟩
  rw [Yp, hz0]
  refine ShV.snoc ((hS.keep fun b ys e => s4 _ _ e).keep kp) (fun hm => ?_) ⟨t, rfl, kp _ _ e4⟩
  have h1 : (ss.take (i + 1)).Nodup := J.nd.sublist (Vn _ _)
  rw [Yp, hz0] at h1
  exact (List.nodup_append.mp h1).2.2 _ hm _ (by simp) rfl
 obtain ⟨o6, shv, rfl, s4, epd, hPl, eb, hS⟩ := hP
 rw [hkl, YC] at hS
 try dsimp only
 refine ZB fun R0 hR0 => ?_
 rw [Zao]
 walk_at "rd"
 have hz00 : ∀ z, Zt B (Jr (qs.take 0) z) = 0 := fun z => by
  rw [List.take_zero, show Jr [] z = 0 from rfl]
  exact Zat _
 have htl : tvs.length = qs.length := hT.1
 refine Zax (xs := tvs) (Pth H p d sd g pd b rs ss B qs) ⟨_, _, _, pvs, shv, rfl, s4, epd, hPl, eb, by simp only [hz00]; exact hS⟩ (fun i σ H' _ ⟨_, _, _, _, _, _, sm', _⟩ => .of (sm' _ _ hg)) (fun j y σ H5 hj hP => ?_) (fun σ H5 hP => ?_)
 ·obtain ⟨o6, o7, o8, pv5, sv5, rfl, s5, epd5, hPl5, eb5, hS5⟩ := hP
  have hjl : j < qs.length := by rw [<- htl]; exact (Yg.mp hj).1
  have hqj := Yc hjl
  obtain ⟨t, r, rfl, ht, hrv⟩ := hT.2 j _ _ hj hqj
  have hqm := Yo hqj
  obtain ⟨h1, h2, h3, h4, h5⟩ := hk.row _ hqm
  obtain ⟨hv1, hv2⟩ := hval _ h3
  have hnd := hneed _ hqm
  obtain ⟨w, hw, hwl⟩ := ZaT J.ok hv2
  rw [Jk hw] at h4
  have hrd := ZfF (k := qs[j].1) hqj
  have hpi : (JF B rs.length (qs.take j))[qs[j].1 - 1]? = some (Zt B (Jg (qs.take j) qs[j].1)) := by
   unfold JF
   rw [Yh, Yam (by omega), Option.map_some, show qs[j].1 - 1 + 1 = qs[j].1 by omega]
  have hpl : pv5.length = rs.length := by rw [hPl5.1]; simp [JF]
  have hki : qs[j].1 - 1 < pv5.length := by omega
  have hpv := Yc hki
  have hpr := hPl5.2 _ _ _ hpv hpi
  have ei : (qs[j].1 : Int) - 1 = ((qs[j].1 - 1 : Nat) : Int) := by omega
  walk_at "rd"
  refine ⟨_, s5 _ _ ht, rfl, _, _, rfl, _, _, rfl, _, _, rfl, rfl, kvs, .inr ⟨o, s5 _ _ J.home⟩, .inr _, rfl, _, hv1, p, xs, rs, _, w, rfl, s5 _ _ hp, hR.same s5, hw, by omega, fun pw H6 hpw s6 e6 => ?_⟩
  simp only [rIn]
  walk_at "rd"
  refine ⟨_, .inl (.of e6), rfl, Zb0, ?_⟩
  rw [ZdF, YQ h4]
  have s56 := s5.trans s6
  have hpr6 := hpr.same s6
  rw [if_neg (by decide)]
  refine ⟨pv5, s6 _ _ epd5, _, by rw [ei]; exact ZE hpv, _, _, _, _, rfl, hpr6, hrv.same s56, szf _ (hrdz _ hnd j), szf _ (hamz _ hqm), fun r7 H7 s7 v7 => ?_⟩
  rw [Za4 J.b0] at v7
  have s67 := s6.trans s7
  have epd7 := s67 _ _ epd5
  have eb7 := s67 _ _ eb5
  have kp1 : ∀ b' ys, H7 b' = some (.tup ys) -> upd H7 pd (.lst (pv5.set (qs[j].1 - 1) r7)) b' = some (.tup ys) := fun b' ys e => by rw [Zf (ZZ e epd7 (by intro z; cases z))]; exact e
  have hS8 := (hS5.keep fun b ys e => s67 _ _ e).keep kp1
  obtain ⟨v, ev, rv⟩ := hS8.val J.nd _ h3
  refine ⟨pv5, epd7, _, by rw [ei]; exact ZdX hki, sv5, .inl (by rw [Zf hpb.symm]; exact eb7), .inr _, rfl, v, ev, _, _, _, _, rfl, rv, ((hrv.same s56).same s7).keep kp1, szf _ (hnmz _ h3 j), szf _ (hamz _ hqm), fun r9 H9 s9 v9 => ?_⟩
  rw [Za4 J.b0] at v9
  have eb9 : H9 b = some (.dK sv5) := s9 _ _ (by rw [Zf hpb.symm]; exact eb7)
  have kp2 : ∀ b' ys, H9 b' = some (.tup ys) -> upd H9 b (.dK (Je sv5 (Sum.inr qs[j].2.1) r9)) b' = some (.tup ys) := fun b' ys e => by rw [Zf (ZZ e eb9 (by intro z; cases z))]; exact e
  have kp12 : ∀ b' ys, H7 b' = some (.tup ys) -> upd H9 b (.dK (Je sv5 (Sum.inr qs[j].2.1) r9)) b' = some (.tup ys) := fun b' ys e => kp2 _ _ (s9 _ _ (kp1 _ _ e))
  refine ⟨sv5, eb9, .inr _, rfl, by rw [hS5.1]; omega, _, _, _, _, _, rfl, Zr hb0 ((Zr hpd0 (s5.trans s67)).trans s9), by rw [Zf hpb]; exact s9 _ _ upd_same, ⟨by rw [List.length_set, hpl]; simp [JF], fun i' x' a' hx' ha' => ?_⟩, upd_same, ?_⟩
  ·unfold JF at ha'
   rw [Yh] at ha'
   obtain ⟨i0, hi0, rfl⟩ := YD.mp ha'
   obtain ⟨hi1, rfl⟩ : i' < rs.length /\ i' = i0 := by
    obtain ⟨h, e⟩ := Yg.mp hi0
    rw [List.length_range] at h
    rw [List.getElem_range] at e
    exact ⟨h, e⟩
   rw [ZfF hqj]
   by_cases c : qs[j].1 - 1 = i'
   ·rw [<- c, Yai hki] at hx'
    cases hx'
    rw [if_pos (by omega), show i' + 1 = qs[j].1 by omega]
    exact v7.keep kp12
   ·rw [Yal c] at hx'
    rw [if_neg (by omega), V7]
    have hb' : (JF B rs.length (qs.take j))[i']? = some (Zt B (Jg (qs.take j) (i' + 1))) := by
     unfold JF
     rw [Yh, Yam hi1]
     rfl
    exact (hPl5.2 i' _ _ hx' hb').keep fun b ys e => kp12 _ _ (s67 _ _ e)
  ·refine ShV.put ((hS8.keep fun b ys e => s9 _ _ e).keep kp2) h3 ?_ fun y hy => ?_
   ·rw [Zfm hqj, if_pos rfl]
    exact v9.keep kp2
   ·rw [Zfm hqj, if_neg hy, V7]
 ·obtain ⟨o6, o7, o8, pv5, sv5, rfl, s5, epd5, hPl5, eb5, hS5⟩ := hP
  rw [htl, YC] at hPl5 hS5
  subst hR0
  try dsimp only
  refine ZB fun R0 hR0 => ?_
  simp only [Zcv]
  walk_at "rd"
  refine ZdU (o := o) (kvs := kvs) (fun i σ H' => ∃ (o6 o7 o8 : Option V), σ = [some (V.ref p), some (V.ref d), some (V.ref sd), some (V.ref g), some (V.ref pd), some (V.ref b), o6, o7, o8] /\ Same H5 H') ⟨_, _, _, rfl, fun _ _ z => z⟩ (fun i σ H' _ ⟨_, _, _, _, sm'⟩ => (s5.trans sm') _ _ J.home) (fun i kv σ H6 hi hP => ?_) (fun σ H6 hP => ?_)
  ·obtain ⟨o6, o7, o8, rfl, s6⟩ := hP
   have hil : i < ss.length := by rw [<- hkl]; exact (Yg.mp hi).1
   have hz0 := Yc hil
   have hzm := Yo hz0
   have hkk : kv.1 = Sum.inr ss[i] := by
    have := congrArg (·[i]?) hks
    simp only [List.getElem?_map, hi, hz0, Option.map_some, Option.some.injEq] at this
    exact this
   rw [hkk]
   obtain ⟨hv1, hv2⟩ := hval _ hzm
   obtain ⟨w, hw, hwl⟩ := ZaT J.ok hv2
   have s06 := s5.trans s6
   simp only [Zao]
   walk_at "rd"
   refine ⟨kvs, .inr ⟨o, s06 _ _ J.home⟩, .inr _, rfl, _, hv1, p, xs, rs, _, w, rfl, s06 _ _ hp, hR.same s06, hw, by omega, fun pw H7 hpw s7 e7 => ?_⟩
   have hww : wayL rs (hf ss[i]) = w := Jk hw
   refine Zax (xs := ZF w) (fun i σ H' => (∃ (o6 o7 o8 : Option V), σ = [some (V.ref p), some (V.ref d), some (V.ref sd), some (V.ref g), some (V.ref pd), some (V.ref b), o6, o7, o8]) /\ Same H5 H' /\ H' pw = some (.lst (ZF w))) ⟨⟨_, _, _, rfl⟩, s6.trans s7, e7⟩ (fun i σ H' _ ⟨_, _, e'⟩ => .of e') (fun n y σ H8 hn hP => ?_) (fun σ H8 hP => ⟨hP.1, hP.2.1⟩)
   obtain ⟨⟨o6, o7, o8, rfl⟩, s8, e8⟩ := hP
   obtain ⟨k, hkw, rfl⟩ : ∃ k, k ∈ w /\ y = V.int (k : Int) := by
    unfold ZF at hn
    rw [Yh] at hn
    obtain ⟨k, h1, h2⟩ := YD.mp hn
    exact ⟨k, Yo h1, h2.symm⟩
   have hN : Z3 rs (ss.map hf) k := (Z7 J.way).mpr ⟨ss[i], hzm, by rw [hww]; exact hkw⟩
   obtain ⟨hk1, hk2⟩ := ZR hN
   have hpl : pv5.length = rs.length := by rw [hPl5.1]; simp [JF]
   have hki : k - 1 < pv5.length := by omega
   have hkx : k - 1 < xs.length := by omega
   have hkr : k - 1 < rs.length := by omega
   have ei : (k : Int) - 1 = ((k - 1 : Nat) : Int) := by omega
   have s08 := s5.trans s8
   have hpi : (JF B rs.length qs)[k - 1]? = some (Zt B (Jg qs k)) := by
    unfold JF
    rw [Yh, Yam hkr, Option.map_some, show k - 1 + 1 = k by omega]
   have hv8 := (hPl5.2 _ _ _ (Yc hki) hpi).same s8
   rw [hk.road k hN, <- J.pr k hk1 hk2] at hv8
   obtain ⟨pr, yr, exr, hprt, hyr⟩ := (hR.same s08).2 (k - 1) _ _ (Yc hkx) (Yc hkr)
   have hpa : Zm rs k = rs[k - 1].2 := by unfold Zm; rw [List.getElem?_eq_getElem hkr]; rfl
   rw [hpa] at hv8
   obtain ⟨pa, pc, ea, ec, heq⟩ := ZbH hv8 hyr
   walk_at "rd"
   refine ⟨pv5, s8 _ _ epd5, _, by rw [ei]; exact ZE (Yc hki), xs, s08 _ _ hp, _, by rw [ei]; exact ZE (Yc hkx), pr, exr, _, hprt, _, rfl, true, 1, pa, pc, ea, ec, heq, by decide, _, rfl, ?_⟩
   rw [if_neg (by decide)]
   exact ⟨s8, e8⟩
  ·obtain ⟨o6, o7, o8, rfl, s6⟩ := hP
   subst hR0
   walk_at "rd"
   have s06 := s5.trans s6
   exact ⟨3, ZeH (.inl (s6 _ _ eb5)) (Zbt J.share s06) J.nd (hS5.keep fun b ys e => s6 _ _ e) (J.shv.keep fun b ys e => s06 _ _ e) (fun z hz => by rw [hk.name z hz]), by decide, q _ s06⟩
end
theorem ZeL {kvs : List (ZA × V)} {n : Nat} (h : HomesV kvs n) (hn : (kvs.map (·.1)).Nodup) : ∃ ss : List Str, kvs.map (·.1) = ss.map Sum.inr /\ ss.Nodup /\ ss.length = kvs.length /\ ∀ z ∈ ss, ∃ k : Nat, Jx kvs (Sum.inr z) = some (.int (k : Int)) /\ k <= n := by
 have e : kvs.map (·.1) = (kvs.map fun kv => (match kv.1 with | Sum.inr z => z | Sum.inl _ => Str.empty)).map (Sum.inr : Str -> ZA) := by
  rw [Yw]
  refine YL fun kv hkv => ?_
  obtain ⟨z, k, rfl, _⟩ := h kv hkv
  rfl
 refine ⟨_, e, ?_, by simp, fun z hz => ?_⟩
 ·rw [e] at hn
  exact (Vx.mp hn).imp fun h c => h (by rw [c])
 ·obtain ⟨kv, hkv, rfl⟩ := Yl.mp hz
  obtain ⟨i, hi, ei⟩ := Vv hkv
  obtain ⟨z, k, rfl, hk⟩ := h kv hkv
  exact ⟨k, Zey (i := i) (by rw [Yc hi, ei]) hn, hk⟩
theorem Zgs {H : Hp} {a b : Addr} {kvs : List (ZA × V)} {n : Nat} (ha : Rd H a (.dK kvs)) (hb : Rd H b (.dK kvs)) (hN : (kvs.map (·.1)).Nodup) (hv : HomesV kvs n) : EqP H (.ref a) (.ref b) 3 :=
 .dct (n := 1) ha hb rfl (fun j x y h1 h2 => by
  rw [h1] at h2
  cases h2
  obtain ⟨z, k, rfl, _⟩ := hv x (Yo h1)
  have z := EqD.flat (H := H) (x := .int (k : Int)) (y := .int (k : Int)) rfl rfl
  rw [Zbr rfl] at z
  exact ⟨rfl, .up z⟩) hN
theorem Zgm {H : Hp} {a b : Addr} {svs : List (ZA × V)} {ss : List Str} {qf : Str -> Rat} (ha : Rd H a (.dK svs)) (hb : Rd H b (.dK svs)) (hN : ss.Nodup) (hv : ShV H svs ss qf) : EqP H (.ref a) (.ref b) 3 :=
 .dct (n := 1) ha hb rfl (fun j x y h1 h2 => by
  rw [h1] at h2
  cases h2
  have hj : j < ss.length := by rw [<- hv.1]; exact (Yg.mp h1).1
  obtain ⟨v, e, r⟩ := hv.2 j _ (Yc hj)
  rw [h1] at e
  cases e
  obtain ⟨_, _, _, _, h⟩ := ZbH r r
  exact ⟨rfl, h⟩) (by rw [hv.keys]; exact ZcQ hN)
theorem Zbe {B : Nat} {q : Rat} (h : 0 <= q) : 0 <= JG B q := by
 unfold JG
 exact Int.mul_nonneg (Rat.num_nonneg.mpr h) (Int.ediv_nonneg (by omega) (by omega))
theorem ZaN {α : Type} {B : Nat} (hB : 0 < B) (l : List α) (m : α -> Int) : ZO (l.map fun x => Zt B (m x)) = Zt B (sm l m) := by
 induction l with
 | nil => exact (Zat B).symm
 | cons x l ih => rw [Yq, ZG, ih, Zz, Za4 hB]
theorem Zoh {B : Nat} {q : Rat} {n : Nat} (hB : B <= 2 ^ 2410) (hz : SzQ n q) (hn : n <= 120) : (JG B q).natAbs < 2 ^ 2530 := by
 unfold JG
 rw [Int.natAbs_mul]
 have h1 : ((B : Int) / (q.den : Int)).natAbs <= B := by
  have : (B : Int) / (q.den : Int) = ((B / q.den : Nat) : Int) := rfl
  rw [this, VI]
  exact Yax _ _
 refine Yt (Nat.mul_lt_mul_of_lt_of_le hz.1 (Yj h1 hB) (V0 _)) ?_
 rw [<- Vq]
 exact Va (by decide) (by omega)
theorem ZnP {acc : List Nat} {cs : Nat -> Int} {M : Int} (hl : acc.length <= 20) (h : ∀ k ∈ acc, 0 <= cs k /\ cs k <= M) (hM : 0 <= M) : 0 <= sm acc cs /\ sm acc cs <= 20 * M := by
 have : ∀ l : List Nat, (∀ k ∈ l, 0 <= cs k /\ cs k <= M) -> 0 <= sm l cs /\ sm l cs <= (l.length : Int) * M := by
  intro l
  induction l with
  | nil => intro _; simp [Zhb]
  | cons k l ih =>
   intro h
   have h1 := ih fun y hy => h y (.tail _ hy)
   have h2 := h k (.head _)
   rw [Zz, YN, Int.natCast_add, Int.add_mul]
   refine ⟨by omega, ?_⟩
   have : ((1 : Nat) : Int) * M = M := by simp
   omega
 obtain ⟨h1, h2⟩ := this acc h
 refine ⟨h1, Int.le_trans h2 (Int.mul_le_mul_of_nonneg_right (by omega) hM)⟩
theorem Ze9 {rs : List (Nat × Rat)} {ss : List Str} {hf : Str -> Nat} {qf : Str -> Rat} {B bn : Nat} (hB0 : 0 < B) (hB1 : B <= 2 ^ 2400) (hb0 : 0 < bn) (hb1 : bn <= 6) (hrl : rs.length <= 20) (hn : ∀ r ∈ rs, SzQ 110 r.2 /\ 0 <= r.2.num) (hqd : ∀ z ∈ ss, (qf z).den ∣ B /\ 0 <= qf z) (hpd : ∀ r ∈ rs, r.2.den ∣ B)
  (htot : ∀ ks : List Nat, ks.Nodup -> (∀ k, k ∈ ks ↔ Z3 rs (ss.map hf) k) -> ZO (ss.map qf) = ZO (ks.map (Zm rs))) :
  ∃ (a0 : Str -> Int) (cs : Nat -> Int), (∀ z ∈ ss, qf z = Zt (B * bn) (a0 z)) /\ (∀ z ∈ ss, 0 <= a0 z /\ a0 z <= 20 * 2 ^ 2530) /\ (∀ k, 0 <= cs k /\ cs k <= 2 ^ 2530) /\ (∀ k, Zm rs k = Zt (B * bn) (cs k)) /\ (∀ ks : List Nat, ks.Nodup -> (∀ k, k ∈ ks ↔ Z3 rs (ss.map hf) k) -> sm ks cs = sm ss a0) := by
 classical
 have hB' : 0 < B * bn := Nat.mul_pos hB0 hb0
 have hB2 : B * bn <= 2 ^ 2410 := by
  refine Yj (V3 hB1 hb1) ?_
  rw [show (2410 : Nat) = 2400 + 10 from rfl, Vq]
  exact Nat.mul_le_mul_left _ (by decide)
 have hdv : B ∣ B * bn := Yap _ _
 have hpk : ∀ k, (Zm rs k).den ∣ B * bn /\ 0 <= Zm rs k /\ SzQ 110 (Zm rs k) := fun k => by
  unfold Zm
  cases h : rs[k - 1]? with
  | none => exact ⟨Nat.one_dvd _, Rat.le_refl, ZdJ (by decide)⟩
  | some r =>
   have hr := Yo h
   exact ⟨VR (hpd r hr) hdv, Rat.num_nonneg.mp (hn r hr).2, (hn r hr).1⟩
 have hcs : ∀ k, 0 <= JG (B * bn) (Zm rs k) /\ JG (B * bn) (Zm rs k) <= 2 ^ 2530 := fun k => by
  have h1 := Zbe (B := B * bn) (hpk k).2.1
  have h2 := Zoh hB2 (hpk k).2.2 (by decide)
  refine ⟨h1, ?_⟩
  have h3 : ((2 ^ 2530 : Nat) : Int) = 2 ^ 2530 := by rw [Int.natCast_pow]; rfl
  omega
 have hq : ∀ z ∈ ss, qf z = Zt (B * bn) (JG (B * bn) (qf z)) := fun z hz => (Zcg hB' (VR (hqd z hz).1 hdv)).symm
 have hp : ∀ k, Zm rs k = Zt (B * bn) (JG (B * bn) (Zm rs k)) := fun k => (Zcg hB' (hpk k).1).symm
 have hsum : ∀ ks : List Nat, ks.Nodup -> (∀ k, k ∈ ks ↔ Z3 rs (ss.map hf) k) -> sm ks (fun k => JG (B * bn) (Zm rs k)) = sm ss (fun z => JG (B * bn) (qf z)) := fun ks h1 h2 => by
  have h := htot ks h1 h2
  rw [show ss.map qf = ss.map (fun z => Zt (B * bn) (JG (B * bn) (qf z))) from YL fun z hz => hq z hz, ZaN hB', show ks.map (Zm rs) = ks.map (fun k => Zt (B * bn) (JG (B * bn) (Zm rs k))) from YL fun k _ => hp k, ZaN hB'] at h
  exact (ZkW hB' h).symm
 refine ⟨fun z => JG (B * bn) (qf z), fun k => JG (B * bn) (Zm rs k), hq, fun z hz => ⟨Zbe (hqd z hz).2, ?_⟩, hcs, hp, hsum⟩
 have hnr : (List.range' 1 rs.length).Nodup := (List.pairwise_lt_range' (s := 1) (n := rs.length)).imp fun h e => by rw [e] at h; exact YR _ h
 have hks := hsum ((List.range' 1 rs.length).filter fun k => decide (Z3 rs (ss.map hf) k)) (hnr.filter _) fun k => by
  rw [YA, VL, Ve]
  exact ⟨fun h => h.2, fun h => ⟨⟨(ZR h).1, by have := (ZR h).2; omega⟩, h⟩⟩
 have h1 := ZcG (f := fun z => JG (B * bn) (qf z)) (fun z hz => Zbe (hqd z hz).2) hz
 have h2 := (ZnP (acc := (List.range' 1 rs.length).filter fun k => decide (Z3 rs (ss.map hf) k)) (cs := fun k => JG (B * bn) (Zm rs k)) (Nat.le_trans (List.length_filter_le _ _) (by simpa using hrl)) (fun k _ => hcs k) (Int.pow_nonneg (by decide))).2
 rw [hks] at h2
 exact Int.le_trans h1 h2
theorem Zkr {H : Hp} {x y : V} {r : Nat × Rat} (hx : RoadV H x r) (hy : RoadV H y r) : EqD H x y true 2 := by
 obtain ⟨p, u, rfl, hp, hu⟩ := hx
 obtain ⟨c, v, rfl, hc, hv⟩ := hy
 obtain ⟨_, _, _, _, d⟩ := ZbH hu hv
 have h := EqD.tup (e := fun _ => true) (n := 1) hp hc fun j x y h1 h2 => by
  match j, h1, h2 with
  | 0, h1, h2 =>
   cases h1; cases h2
   have z := EqD.flat (H := H) (x := .int (r.1 : Int)) (y := .int (r.1 : Int)) rfl rfl
   rw [Zbr rfl] at z
   exact z.up
  | 1, h1, h2 => cases h1; cases h2; exact d
 exact h
theorem Zi8 {H : Hp} {a b : Addr} {xs ys : List V} {rs : List (Nat × Rat)} (ha : H a = some (.lst xs)) (hb : H b = some (.lst ys)) (hx : RoadsV H xs rs) (hy : RoadsV H ys rs) : EqD H (.ref a) (.ref b) true 3 := by
 have h := EqD.lst (e := fun _ => true) (n := 2) ha hb (by rw [hx.1, hy.1]) fun j x y h1 h2 => by
  have hj : j < rs.length := by rw [<- hx.1]; exact (Yg.mp h1).1
  exact Zkr (hx.2 j x _ h1 (Yc hj)) (hy.2 j y _ h2 (Yc hj))
 rw [ZcD fun _ _ => rfl] at h
 exact h
def Zg6 (pt : Addr) (K : PySem.W.Frag) : Sp := fun vs H Q _ => ∃ (a : Addr) (ns : List Int), vs = [.ref a] /\ SqL K H a (ns.map V.int) /\ ZeR H pt "far_roads_first.<locals>.<lambda>" /\ ∀ H', Q (.bl true) H'
section
variable {P : Program} {w : World} {K : PySem.W.Frag} {mg : Str -> Option Value} {base : Heap} {f pt : Addr} {fd : FuncData} {CT CNP : Addr}
theorem ZnB (F : Fun K "law" "law" ZdV f fd) (n_len : mg "len" = none) (n_list : mg "list" = none) (n_dict : mg "dict" = none) (n_range : mg "range" = none) (n_isinstance : mg "isinstance" = none) (n_tuple : mg "tuple" = none) (F_law_cell_at : Fn P w K mg base Zw 1 "_law_cell_at" ["_law_script", "_law_k"] (ZaQ K))
  (F_law_roads_by : Fn P w K mg base Zw 3 "_law_roads_by" ["_law_script", "_law_most"] (ZdK K)) (F_law_homes_by : Fn P w K mg base Zw 3 "_law_homes_by" ["_law_script", "_law_many", "_law_most"] (Zep K)) (F_law_shared_by : Fn P w K mg base Zw 3 "_law_shared_by" ["_law_roads", "_law_homes", "_law_cell"] Zd4) (F_judged : Fn P w K mg base Zw 9 "judged" ["tree", "homes", "sharing"] (Zd9 pt CT)) (F_law_table_holds : Fn P w K mg base Zw 4 "_law_table_holds" ["_law_roads", "_law_homes", "_law_sharing", "_law_table"] (Zk5 CT)) (M_roads : Mth P w K mg base Zw 1 CT "roads" ["self"] (Zeq CT))
  (K_Tree : Mkr P w K mg base Zw 6 CT "Tree" ["self", "roads"] (ZiC CT)) : FnOk P w K mg base Zw 10 f fd ["_law_script"] (Zg6 pt K) := by
 refine JL F sc_law (fun vs H Q E h => ?_) (fun cdv A outer s H vs Q E hr h => ?_)
 ·obtain ⟨a, ns, rfl, _⟩ := h; rfl
 obtain ⟨a, ns, rfl, hS, hTb, q⟩ := h
 refine ⟨_, (Zd (Zo 1 sc_law.nd (Zy F_law_roads_by hr (by decide) rfl (Zh (Ze 0) (Zh Zc Za))))
   (Zd (Zo 2 sc_law.nd (Zy F_law_homes_by hr (by decide) rfl (Zh (Ze 0) (Zh (Jf (Jp rfl n_len (Zh (Ze 1) Za)) Zc) (Zh Zc Za)))))
   (Zd (Zo 3 sc_law.nd (Znx K_Tree hr (by decide) rfl (Zh (Zc5 rfl n_list (Zh (Ze 1) Za)) Za)))
   (Zd (Zo 4 sc_law.nd (Zy F_law_shared_by hr (by decide) rfl (Zh (Ze 1) (Zh (Ze 2) (Zh (Zy F_law_cell_at hr (by decide) rfl (Zh (Ze 0) (Zh Zc Za))) Za)))))
   (Zd (Zo 5 sc_law.nd (Jo (Zh (Zmb rfl n_dict (Zh (Ze 2) Za)) (Zh (Zha rfl n_dict (Zh (Ze 4) Za)) Za))))
   (Zd (ZY Ys (Zch rfl n_range (Zh Zc Za)) (Zp 6 sc_law.nd) (Zd (Zo 7 sc_law.nd (Zy F_judged hr (by decide) rfl (Zh (Ze 3) (Zh (Zx (Ze 5) Zc) (Zh (Zx (Ze 5) Zc) Za)))))
   (Zd (Z4 (t_w (JO (Jq (ZU (Jl rfl n_isinstance (Zh (Ze 7) (Zh (JY rfl n_tuple rfl) Za))))) (JO (ZkN (Jp rfl n_len (Zh (Ze 7) Za)) Zc) (JO (ZkN (Zx (Ze 7) Zc) ZdS) (JT (Zp0 hr (Ze 5) (Jo (Zh (Ze 2) (Zh (Ze 4) Za))))))))) (Zg (Zs JV)) ZN)
   (Zd (Z4 (Jq (ZU (Zy F_law_table_holds hr (by decide) rfl (Zh (Ze 1) (Zh (Ze 2) (Zh (Ze 4) (Zh (Zx (Ze 7) Zc) Za))))))) (Zg (Zs JV)) ZN)
   (Zg (Z6 (Zdq (Zx (Ze 7) Zc) (Zh (Jo (Zh Zc (Zh ZdS (Zh (Jo (Zh Zc (Zh Zc Za))) Za)))) Za))))))))
   (Zg (Zs (ZoL hr (Zfh M_roads hr (by decide) (Ze 3)) (Ze 1)))))))))), ?_⟩
 rw [show Zu ["_law_script", "_law_roads", "_law_homes", "_law_tree", "_law_sharing", "_law_handed", "_law_turn", "_law_told"] [.ref a] = [some (.ref a), none, none, none, none, none, none, none] from rfl]
 walk_at "rd"
 simp only [ZdK]
 walk_at "rd"
 refine ⟨⟨ns, hS⟩, fun p H1 xs rs hp s1 e1 hR hT hl hn => ?_⟩
 have hxl := hR.1
 refine ⟨xs, .inl e1, a, ns, xs.length, 12, rfl, s1.seq hS, by decide, by decide, fun d H2 kvs o hd s2 e2 hHV hND hkl => ?_⟩
 rw [hxl] at hHV
 refine ⟨p, xs, rfl, .inl (.of (s2 _ _ e1)), fun l H3 hl3 s3 e3 x dx hx hdx hne => ?_⟩
 have old : ∀ b o, H3 b = some o -> upd (upd H3 dx (.own x)) x (.ins CT dx []) b = some o := fun b o e => by rw [Zf (Zk e hx), Zf (Zk e hdx)]; exact e
 refine ⟨x, dx, l, xs, rs, rfl, upd_same, old _ _ e3, (hR.same (s2.trans s3)).keep fun b ys e => old b _ e, hT, by omega, fun r hr => (hn r hr).2, fun H4 k4 hT4 _ => ⟨rfl, ?_⟩⟩
 have s34 : Same H3 H4 := fun b o e => k4 b o (Zk e hx) (old b o e)
 clear old k4
 have s24 := s3.trans s34
 have s14 := s2.trans s24
 have s04 := s1.trans s14
 obtain ⟨ss, ess, hnd, hsl, hval⟩ := ZeL hHV hND
 obtain ⟨hf, hat⟩ := ZkI hval
 have hs12 : ss.length <= 12 := by omega
 have hkv : (kvs.map fun kv => kV kv.1) = ss.map V.str := by
  have := congrArg (List.map kV) ess
  rw [Yw, Yw] at this
  exact this
 have hway : ∀ z ∈ ss, WayR rs (hf z) (wayL rs (hf z)) := fun z hz => by
  have h := (hat [z] (fun y hy => by rw [YH.mp hy]; exact hz)).2 0 z (hf z) rfl rfl
  obtain ⟨w, hw, _⟩ := ZaT hT h.2
  rw [Jk hw]
  exact hw
 refine ⟨a, ns, 6, rfl, s04.seq hS, p, d, _, xs, rs, o, kvs, ss, hf, rfl, s14 _ _ e1, hR.same s14, s24 _ _ e2, ess, hnd, hs12, hat, by omega, hT, hn, fun b H5 svs qf B hb s5 e5 hSh hB0 hB1 hqd hpd htot hfair => ?_⟩
 have s15 := s14.trans s5
 have s25 := s24.trans s5
 have s05 := s04.trans s5
 obtain ⟨a0, cs, hqa, ha0, hcs, hpc, hts⟩ := Ze9 (hf := hf) hB0 hB1 (bn := 1) (by decide) (by decide) (by omega) hn hqd hpd htot
 rw [Nat.mul_one] at hqa hpc
 have hB2 : B < 2 ^ 2600 := Yy hB1 (Nat.pow_lt_pow_right (by decide) (by decide))
 have hlim : ∀ m : Int, 0 <= m -> m <= 20 * 2 ^ 2530 -> m.natAbs < 2 ^ 2600 := fun m h1 h2 => by
  have e : ((20 * 2 ^ 2530 : Nat) : Int) = 20 * 2 ^ 2530 := by rw [Int.natCast_mul, Int.natCast_pow]; rfl
  have h3 : m.natAbs <= 20 * 2 ^ 2530 := by omega
  refine Yy h3 ?_
  rw [show (2600 : Nat) = 70 + 2530 from rfl, Vq]
  exact Nat.mul_lt_mul_of_pos_right (by decide) (V0 _)
 have hSh5 : ShV H5 svs ss (fun z => Zt B (a0 z)) := ⟨hSh.1, fun i z h => by
  obtain ⟨v, e, r⟩ := hSh.2 i z h
  rw [hqa z (Yo h)] at r
  exact ⟨v, e, r⟩⟩
 have hJ : ∀ (H' : Hp) (dd sd : Addr) (oo : Obj), Same H5 H' -> H' dd = some (.frz oo (.dK kvs)) -> Rd H' sd (.dK svs) -> Jd H' CT (.ref x) dd sd rs oo kvs svs ss hf B a0 cs := fun H' dd sd oo sH h1 h2 =>
  ⟨hT4.same (s5.trans sH), h1, ess, h2, hSh5.keep fun b ys e => sH _ _ e, hnd, hs12, hat, by omega, hT, fun r hr => (hn r hr).1, hB0, hB2, fun z hz => hlim _ (ha0 z hz).1 (ha0 z hz).2, fun k => (hcs k).1, fun k => hlim _ (hcs k).1 (Int.le_trans (hcs k).2 (by
   have : (0 : Int) <= 2 ^ 2530 := Int.pow_nonneg (by decide)
   generalize (2 : Int) ^ 2530 = M at this
   omega)), fun k _ _ => hpc k, hts⟩
 have hnov : ∀ G : List Str, G.Nodup -> (∀ z ∈ G, z ∈ ss) -> ¬ ZiK rs hf cs a0 G := fun G hGn hGs hov => by
  classical
  have hnr : (List.range' 1 rs.length).Nodup := (List.pairwise_lt_range' (s := 1) (n := rs.length)).imp fun h e => by rw [e] at h; exact YR _ h
  have hm : ∀ k, k ∈ (List.range' 1 rs.length).filter (fun k => decide (Z3 rs (G.map hf) k)) ↔ Z3 rs (G.map hf) k := fun k => by
   rw [YA, VL, Ve]
   exact ⟨fun h => h.2, fun h => ⟨⟨(ZR h).1, by have := (ZR h).2; omega⟩, h⟩⟩
  have h1 := hov _ (hnr.filter _) hm
  have h2 := hfair G hGn hGs _ (hnr.filter _) hm
  rw [show G.map qf = G.map (fun z => Zt B (a0 z)) from YL fun z hz => hqa z (hGs z hz), ZaN hB0, show ∀ l : List Nat, l.map (Zm rs) = l.map (fun k => Zt B (cs k)) from fun l => YL fun k _ => hpc k, ZaN hB0] at h2
  have h3 := (Jj hB0).mpr h1
  exact absurd h2 (Rat.not_le.mpr h3)
 have hd5 := s25 _ _ e2
 refine ⟨d, kvs, rfl, .inr ⟨o, hd5⟩, fun d1 od1 H13 hd1 s13 e13 => ?_⟩
 refine ⟨b, svs, rfl, .inl (s13 _ _ e5), fun b1 H14 hb1 s14' e14 => ?_⟩
 intro ht H15 hht s15' e15
 have s515 := s13.trans (s14'.trans s15')
 simp only [Zbp]
 walk_at "rd"
 refine ZcH (fun i σ H' => ∃ o6 o7 : Option V, σ = [some (V.ref a), some (V.ref p), some (V.ref d), some (V.ref x), some (V.ref b), some (V.ref ht), o6, o7] /\ Same H15 H') ⟨_, _, rfl, fun _ _ z => z⟩ (fun i σ Ha hi hP => ?_) (fun σ Ha hP => ?_)
 ·obtain ⟨o6, o7, rfl, sa⟩ := hP
  have s5a := s515.trans sa
  refine ZB fun R0 hR0 => ?_
  walk_at "rd"
  refine ⟨_, sa _ _ e15, _, rfl, _, sa _ _ e15, _, rfl, .ref x, d1, b1, rs, od1, kvs, svs, ss, hf, B, a0, cs, rfl, hJ Ha d1 b1 od1 s5a (sa _ _ ((s14'.trans s15') _ _ e13)) (.inl (sa _ _ (s15' _ _ e14))), let ⟨t, ht⟩ := hTb; ⟨t, (s05.trans s5a) _ _ ht⟩, fun r Hb g G _ _ _ _ _ hGn hGs hov => absurd hov (hnov G hGn hGs), fun r Hb g tvs qs fr pay hg sb er eg hTp hTo _ _ _ _ => ?_⟩
  have s15b := sa.trans sb
  have s5b := s5a.trans sb
  subst hR0
  try dsimp only
  refine ZB fun R0 hR0 => ?_
  refine Jv fun A0 hA0 C0 hC0 => ?_
  walk_at "rd"
  refine ⟨"tuple", by simp [Js, er], ?_⟩
  rw [if_neg (by decide)]
  refine ⟨_, .inr er, ?_⟩
  rw [if_neg (by simp)]
  refine ⟨_, er, _, rfl, rfl, ?_⟩
  rw [if_neg (by simp)]
  intro pv He hpv se ee
  have s15e := s15b.trans se
  have s5e := s5b.trans se
  have ebe := s5e _ _ e5
  have hShe := hSh5.keep fun b ys e => s5e _ _ e
  refine ⟨5, .tup (n := 3) (s15e _ _ e15) ee rfl (fun j x y h1 h2 => ?_), by decide, ?_⟩
  ·match j, h1, h2 with
   | 0, h1, h2 => cases h1; cases h2; exact Zgs (.inr ⟨od1, (s14'.trans (s15'.trans s15e)) _ _ e13⟩) (.inr ⟨o, s5e _ _ hd5⟩) hND hHV
   | 1, h1, h2 => cases h1; cases h2; exact Zgm (.inl ((s15'.trans s15e) _ _ e14)) (.inl ebe) hnd hShe
  subst hC0
  walk_at "rd"
  subst hR0
  try dsimp only
  refine ZB fun R0 hR0 => ?_
  refine Jv fun A0 hA0 C0 hC0 => ?_
  walk_at "rd"
  have s1e := s15.trans s5e
  refine ⟨_, se _ _ er, _, rfl, p, d, b, g, xs, .ref x, rs, o, kvs, svs, ss, hf, B, a0, cs, tvs, qs, rfl, s1e _ _ e1, hR.same s1e, hJ He d b o s5e (s5e _ _ hd5) (.inl ebe), se _ _ eg, hTp.keep ZbL (fun b ys e => se _ _ e), hTo, fun Hf sf => ⟨_, rfl, ?_⟩⟩
  rw [if_neg (by decide)]
  subst hC0
  walk_at "rd"
  subst hR0
  walk_at "rd"
  have sef := se.trans sf
  exact ⟨_, sef _ _ er, _, rfl, g, rfl, ⟨_, sef _ _ eg⟩, fun p2 Hg _ sg _ p3 Hh _ sh _ => ⟨tvs, (sef.trans (sg.trans sh)) _ _ eg, by rw [hTp.1]; have := hTo.few; omega, Zr (sa.free hg) (s15b.trans (sef.trans (sg.trans sh)))⟩⟩
 ·obtain ⟨o6, o7, rfl, sa⟩ := hP
  walk_at "rd"
  have s5a := s515.trans sa
  have hTa := hT4.same (s5.trans s5a)
  obtain ⟨xa, dx2, la, wa, ls, ws, ex, t1, _⟩ := id hTa
  cases ex
  have s1a := s15.trans s5a
  exact ⟨dx2, _, t1, rfl, .ref x, rs, rfl, hTa, fun l Hz ls' hl' sl el hRl => ⟨true, 3, l, p, rfl, rfl, Zi8 el ((s1a.trans sl) _ _ e1) hRl (hR.same (s1a.trans sl)), by decide, q _⟩⟩
end
theorem ZpA {Pr : List Value -> Prop} (us : List Value) (h : us.length = 1) (k : ∀ a, Pr [a]) : Pr us := by
 match us, h with
 | [a], _ => exact k a
theorem Zlo {Pr : List Value -> Prop} (us : List Value) (h : us.length = 2) (k : ∀ a b, Pr [a, b]) : Pr us := by
 match us, h with
 | [a, b], _ => exact k a b
theorem Zqq {Pr : List Value -> Prop} (us : List Value) (h : us.length = 3) (k : ∀ a b c, Pr [a, b, c]) : Pr us := by
 match us, h with
 | [a, b, c], _ => exact k a b c
theorem Zqv {Pr : List Value -> Prop} (us : List Value) (h : us.length = 4) (k : ∀ a b c d, Pr [a, b, c, d]) : Pr us := by
 match us, h with
 | [a, b, c, d], _ => exact k a b c d
theorem ZnS {P : Program} {w : World} {K : PySem.W.Frag} {mg : Str -> Option Value} {base h : Heap} {k : Nat} {x : Str} {ps : List Str} {sp : Sp} {f : Addr} {fd : FuncData} (X : K.In h) (G : h.Ns mainGlobals mg) (a : nsIn K mainGlobals x = some (some (.ref f)))
  (kp : keepIn K (.ref f) = true) (b : Binds K fd ps []) (o : FnOk P w K mg base Zw k f fd ps sp) : Fn P w K mg base Zw k x ps sp := ⟨f, fd, o, b, kp, mg_of X G a⟩
structure DefIn (K : PySem.W.Frag) (x : Str) (st : Stmt) (f : Addr) (fd : FuncData) : Prop where
 a : nsIn K mainGlobals x = some (some (.ref f))
 k : keepIn K (.ref f) = true
 u : Fun K x x st f fd
theorem ZoF {K : PySem.W.Frag} {x : Str} {st : Stmt} {f : Addr} {oc : Value} {od an : Option Addr} {osl : Array (Option Value)} {kV doc pm cdv ct : Value} (a : nsIn K mainGlobals x = some (some (.ref f))) (l : K.lookup f = some ⟨oc, od, .func (fnOf x x (Zv st) (Zq st) (Zb st) .none kV doc pm an cdv ct), osl⟩) (c : codeIn K cdv x = true) (k : keepIn K (.ref f) = true) : DefIn K x st f (fnOf x x (Zv st) (Zq st) (Zb st) .none kV doc pm an cdv ct) := ⟨a, k, JD l c k⟩
theorem Zof {P : Program} {w : World} {K : PySem.W.Frag} {mg : Str -> Option Value} {base h : Heap} {k : Nat} {x : Str} {ps : List Str} {sp : Sp} {f : Addr} {fd : FuncData} {st : Stmt} (X : K.In h) (G : h.Ns mainGlobals mg) (z : DefIn K x st f fd) (b : Binds K fd ps []) (o : FnOk P w K mg base Zw k f fd ps sp) : Fn P w K mg base Zw k x ps sp := ZnS X G z.a z.k b o
theorem bn1 {fd : FuncData} {ps : List Str} (h : ∀ a : Value, bindArgs fd ⟨[a], []⟩ = pure (List.zip ps [a])) : ∀ us : List Value, us.length = 1 -> bindArgs fd ⟨us, []⟩ = pure (List.zip ps us) := fun us hl => ZpA (Pr := fun us => bindArgs fd ⟨us, []⟩ = pure (List.zip ps us)) us hl h
theorem bn2 {fd : FuncData} {ps : List Str} (h : ∀ a b : Value, bindArgs fd ⟨[a, b], []⟩ = pure (List.zip ps [a, b])) : ∀ us : List Value, us.length = 2 -> bindArgs fd ⟨us, []⟩ = pure (List.zip ps us) := fun us hl => Zlo (Pr := fun us => bindArgs fd ⟨us, []⟩ = pure (List.zip ps us)) us hl h
theorem bn3 {fd : FuncData} {ps : List Str} (h : ∀ a b c : Value, bindArgs fd ⟨[a, b, c], []⟩ = pure (List.zip ps [a, b, c])) : ∀ us : List Value, us.length = 3 -> bindArgs fd ⟨us, []⟩ = pure (List.zip ps us) := fun us hl => Zqq (Pr := fun us => bindArgs fd ⟨us, []⟩ = pure (List.zip ps us)) us hl h
theorem bn4 {fd : FuncData} {ps : List Str} (h : ∀ a b c d : Value, bindArgs fd ⟨[a, b, c, d], []⟩ = pure (List.zip ps [a, b, c, d])) : ∀ us : List Value, us.length = 4 -> bindArgs fd ⟨us, []⟩ = pure (List.zip ps us) := fun us hl => Zqv (Pr := fun us => bindArgs fd ⟨us, []⟩ = pure (List.zip ps us)) us hl h
theorem Znk {l : PySem.W.OpenLaw} {w : World} {K : PySem.W.Frag} {h : Heap} {mg : Str -> Option Value} {fa : Addr} {f0 f1 f2 f6 f7 f8 f9 f10 f11 f13 f14 f24 f25 f26 f27 f28 f29 f30 f31 f32 f33 f34 f36 f37 f38 f39 f40 f41 f42 f43 f44 f45 f46 f47 f48 : Addr} {e0 e1 e2 e6 e7 e8 e9 e10 e11 e13 e14 e24 e25 e26 e27 e28 e29 e30 e31 e32 e33 e34 e36 e37 e38 e39 e40 e41 e42 e43 e44 e45 e46 e47 e48 : FuncData} {f3 : Addr} {od3 an3 : Option Addr} {sl3 : Array (Option Value)} {oc3 kV3 dc3 pm3 cd3 ct3 : Value} {T3 tn3 : Nat} {tc3 : Value} {td3 : Option Addr} {ts3 : Array (Option Value)} {tk3_0 : Tok} {tk_MOST_ROADS : Tok} {cTree : Addr} {f16 : Addr} {od16 an16 : Option Addr} {sl16 : Array (Option Value)} {oc16 kV16 dc16 pm16 cd16 ct16 : Value} {f17 : Addr} {od17 an17 : Option Addr} {sl17 : Array (Option Value)} {oc17 kV17 dc17 pm17 cd17 ct17 : Value} {f18 : Addr} {od18 an18 : Option Addr} {sl18 : Array (Option Value)} {oc18 kV18 dc18 pm18 cd18 ct18 : Value} {f19 : Addr} {od19 an19 : Option Addr} {sl19 : Array (Option Value)} {oc19 kV19 dc19 pm19 cd19 ct19 : Value} {f20 : Addr} {od20 an20 : Option Addr} {sl20 : Array (Option Value)} {oc20 kV20 dc20 pm20 cd20 ct20 : Value} {f21 : Addr} {od21 an21 : Option Addr} {sl21 : Array (Option Value)} {oc21 kV21 dc21 pm21 cd21 ct21 : Value} {f22 : Addr} {od22 an22 : Option Addr} {sl22 : Array (Option Value)} {oc22 kV22 dc22 pm22 cd22 ct22 : Value} {f23 : Addr} {od23 an23 : Option Addr} {sl23 : Array (Option Value)} {oc23 kV23 dc23 pm23 cd23 ct23 : Value} {f35 : Addr} {od35 an35 : Option Addr} {sl35 : Array (Option Value)} {oc35 kV35 dc35 pm35 cd35 ct35 : Value} {cc35 : Addr} {f49 : Addr} {od49 an49 : Option Addr} {sl49 : Array (Option Value)} {oc49 kV49 dc49 pm49 cd49 ct49 : Value}
  (X : K.In h) (G : h.Ns mainGlobals mg) (hfa : mg "law" = some (.ref fa))
  (z0 : DefIn K "is_whole" ZbC f0 e0)
  (z1 : DefIn K "greatest_divisor" Zap f1 e1)
  (z2 : DefIn K "is_ratio" ZbG f2 e2)
  (a3 : nsIn K mainGlobals "ratio" = some (some (.ref f3)))
  (l3 : K.lookup f3 = some ⟨oc3, od3, .func (fnOf "ratio" "ratio" (Zv Z8) (Zq Z8) (Zb Z8) (.ref T3) kV3 dc3 pm3 an3 cd3 ct3), sl3⟩)
  (c3 : codeIn K cd3 "ratio" = true)
  (k3 : keepIn K (.ref f3) = true)
  (t3 : K.lookup T3 = some ⟨tc3, td3, .seq #[.int 1 tk3_0] tn3, ts3⟩)
  (z6 : DefIn K "least_multiple" Zau f6 e6)
  (z7 : DefIn K "common_bottom" ZaB f7 e7)
  (z8 : DefIn K "top_over" Zbx f8 e8)
  (z9 : DefIn K "total_of" ZbF f9 e9)
  (z10 : DefIn K "is_price" ZbD f10 e10)
  (z11 : DefIn K "is_road" ZcO f11 e11)
  (a_MOST_ROADS : nsIn K mainGlobals "MOST_ROADS" = some (some (.int 40 tk_MOST_ROADS)))
  (z13 : DefIn K "look_roads" ZaZ f13 e13)
  (z14 : DefIn K "way_from" Zbu f14 e14)
  (a_Tree : nsIn K mainGlobals "Tree" = some (some (.ref cTree)))
  (pg_Tree : plainGet K cTree Str.empty = true)
  (hd_Tree : hasDictIn K cTree = true)
  (po_Tree : plainOver K cTree = true)
  (sa_Tree : PySem.W.findIn K (.ref cTree) "__setattr__" = some (some (.builtin "object.__setattr__")))
  (nf_lanes : PySem.W.findIn K (.ref cTree) "lanes" = some none)
  (nf_ways : PySem.W.findIn K (.ref cTree) "ways" = some none)
  (a16 : PySem.W.findIn K (.ref cTree) "__init__" = some (some (.ref f16)))
  (l16 : K.lookup f16 = some ⟨oc16, od16, .func (fnOf "__init__" "Tree.__init__" (Zv Zac) (Zq Zac) (Zb Zac) .none kV16 dc16 pm16 an16 cd16 ct16), sl16⟩)
  (c16 : codeIn K cd16 "Tree.__init__" = true)
  (k16 : keepIn K (.ref f16) = true)
  (i16 : isFn K (.ref f16) = true)
  (mk16 : makesIn K cTree = true)
  (kc16 : keepIn K (.ref cTree) = true)
  (a17 : PySem.W.findIn K (.ref cTree) "many" = some (some (.ref f17)))
  (l17 : K.lookup f17 = some ⟨oc17, od17, .func (fnOf "many" "Tree.many" (Zv Zai) (Zq Zai) (Zb Zai) .none kV17 dc17 pm17 an17 cd17 ct17), sl17⟩)
  (c17 : codeIn K cd17 "Tree.many" = true)
  (k17 : keepIn K (.ref f17) = true)
  (i17 : isFn K (.ref f17) = true)
  (a18 : PySem.W.findIn K (.ref cTree) "look_crossing" = some (some (.ref f18)))
  (l18 : K.lookup f18 = some ⟨oc18, od18, .func (fnOf "look_crossing" "Tree.look_crossing" (Zv Zaa) (Zq Zaa) (Zb Zaa) .none kV18 dc18 pm18 an18 cd18 ct18), sl18⟩)
  (c18 : codeIn K cd18 "Tree.look_crossing" = true)
  (k18 : keepIn K (.ref f18) = true)
  (i18 : isFn K (.ref f18) = true)
  (a19 : PySem.W.findIn K (.ref cTree) "look_road" = some (some (.ref f19)))
  (l19 : K.lookup f19 = some ⟨oc19, od19, .func (fnOf "look_road" "Tree.look_road" (Zv Zab) (Zq Zab) (Zb Zab) .none kV19 dc19 pm19 an19 cd19 ct19), sl19⟩)
  (c19 : codeIn K cd19 "Tree.look_road" = true)
  (k19 : keepIn K (.ref f19) = true)
  (i19 : isFn K (.ref f19) = true)
  (a20 : PySem.W.findIn K (.ref cTree) "way" = some (some (.ref f20)))
  (l20 : K.lookup f20 = some ⟨oc20, od20, .func (fnOf "way" "Tree.way" (Zv Zaj) (Zq Zaj) (Zb Zaj) .none kV20 dc20 pm20 an20 cd20 ct20), sl20⟩)
  (c20 : codeIn K cd20 "Tree.way" = true)
  (k20 : keepIn K (.ref f20) = true)
  (i20 : isFn K (.ref f20) = true)
  (a21 : PySem.W.findIn K (.ref cTree) "beneath" = some (some (.ref f21)))
  (l21 : K.lookup f21 = some ⟨oc21, od21, .func (fnOf "beneath" "Tree.beneath" (Zv Zad) (Zq Zad) (Zb Zad) .none kV21 dc21 pm21 an21 cd21 ct21), sl21⟩)
  (c21 : codeIn K cd21 "Tree.beneath" = true)
  (k21 : keepIn K (.ref f21) = true)
  (i21 : isFn K (.ref f21) = true)
  (a22 : PySem.W.findIn K (.ref cTree) "roads" = some (some (.ref f22)))
  (l22 : K.lookup f22 = some ⟨oc22, od22, .func (fnOf "roads" "Tree.roads" (Zv Zaf) (Zq Zaf) (Zb Zaf) .none kV22 dc22 pm22 an22 cd22 ct22), sl22⟩)
  (c22 : codeIn K cd22 "Tree.roads" = true)
  (k22 : keepIn K (.ref f22) = true)
  (i22 : isFn K (.ref f22) = true)
  (a23 : PySem.W.findIn K (.ref cTree) "price" = some (some (.ref f23)))
  (l23 : K.lookup f23 = some ⟨oc23, od23, .func (fnOf "price" "Tree.price" (Zv Zag) (Zq Zag) (Zb Zag) .none kV23 dc23 pm23 an23 cd23 ct23), sl23⟩)
  (c23 : codeIn K cd23 "Tree.price" = true)
  (k23 : keepIn K (.ref f23) = true)
  (i23 : isFn K (.ref f23) = true)
  (z24 : DefIn K "rest_of" ZcJ f24 e24)
  (z25 : DefIn K "needed" ZdO f25 e25)
  (z26 : DefIn K "cost" Zig f26 e26)
  (z27 : DefIn K "_law_cell_at" ZaO f27 e27)
  (z28 : DefIn K "_law_mixed" Za9 f28 e28)
  (z29 : DefIn K "_law_numbers" ZaS f29 e29)
  (z30 : DefIn K "_law_low" Zcw f30 e30)
  (z31 : DefIn K "_law_price_by" ZaG f31 e31)
  (z32 : DefIn K "_law_roads_by" Zah f32 e32)
  (z33 : DefIn K "_law_names_by" ZaH f33 e33)
  (z34 : DefIn K "_law_homes_by" ZaD f34 e34)
  (a35 : nsIn K mainGlobals "far_roads_first" = some (some (.ref f35)))
  (l35 : K.lookup f35 = some ⟨oc35, od35, .func (fnOf "far_roads_first" "far_roads_first" (Zv Zae) (Zq Zae) (Zb Zae) .none kV35 dc35 pm35 an35 cd35 ct35), sl35⟩)
  (c35 : codeIn K cd35 "far_roads_first" = true)
  (k35 : keepIn K (.ref f35) = true)
  (hcd35 : cd35 = .ref cc35)
  (hC35 : codeHdIn K cc35 160 = true)
  (z36 : DefIn K "is_less" Zb4 f36 e36)
  (z37 : DefIn K "cost_of_all" ZaR f37 e37)
  (z38 : DefIn K "users" ZeE f38 e38)
  (z39 : DefIn K "others" ZdC f39 e39)
  (z40 : DefIn K "payments" Zbw f40 e40)
  (z41 : DefIn K "look_sharing" ZaF f41 e41)
  (z42 : DefIn K "judged" ZdR f42 e42)
  (z43 : DefIn K "_law_way" Zci f43 e43)
  (z44 : DefIn K "_law_add" ZcF f44 e44)
  (z45 : DefIn K "_law_shared_by" ZaA f45 e45)
  (z46 : DefIn K "_law_fraction" ZaE f46 e46)
  (z47 : DefIn K "_law_formed" Za3 f47 e47)
  (z48 : DefIn K "_law_table_holds" Zar f48 e48)
  (a49 : nsIn K mainGlobals "law" = some (some (.ref f49)))
  (l49 : K.lookup f49 = some ⟨oc49, od49, .func (fnOf "law" "law" (Zv ZdV) (Zq ZdV) (Zb ZdV) .none kV49 dc49 pm49 an49 cd49 ct49), sl49⟩)
  (c49 : codeIn K cd49 "law" = true)
  (k49 : keepIn K (.ref f49) = true)
  (z_isinstance : nsIn K mainGlobals "isinstance" = some none)
  (z_int : nsIn K mainGlobals "int" = some none)
  (z_bool : nsIn K mainGlobals "bool" = some none)
  (z_abs : nsIn K mainGlobals "abs" = some none)
  (z_tuple : nsIn K mainGlobals "tuple" = some none)
  (z_len : nsIn K mainGlobals "len" = some none)
  (z_sum : nsIn K mainGlobals "sum" = some none)
  (z_list : nsIn K mainGlobals "list" = some none)
  (z_range : nsIn K mainGlobals "range" = some none)
  (z_sorted : nsIn K mainGlobals "sorted" = some none)
  (z_set : nsIn K mainGlobals "set" = some none)
  (z_enumerate : nsIn K mainGlobals "enumerate" = some none)
  (z_min : nsIn K mainGlobals "min" = some none)
  (z_zip : nsIn K mainGlobals "zip" = some none)
  (z_dict : nsIn K mainGlobals "dict" = some none)
  (z_max : nsIn K mainGlobals "max" = some none)
  (z_str : nsIn K mainGlobals "str" = some none)
  : ∃ fd : FuncData, (∀ (s : Shared) (v : Value), BindsTo s fd ⟨[v], []⟩ [("_law_script", v)]) /\ ∀ base : Heap, K.In base -> base.Ns mainGlobals mg -> L2.ZcA mg base -> FnOk l.prog w K mg base Zw 10 fa fd ["_law_script"] (Zg6 160 K) := by
 have e := hfa.symm.trans (mg_of X G a49)
 cases e
 have n_str := mg_none_of X G z_str
 have n_max := mg_none_of X G z_max
 have n_dict := mg_none_of X G z_dict
 have n_zip := mg_none_of X G z_zip
 have n_min := mg_none_of X G z_min
 have n_enumerate := mg_none_of X G z_enumerate
 have n_set := mg_none_of X G z_set
 have n_sorted := mg_none_of X G z_sorted
 have n_range := mg_none_of X G z_range
 have n_list := mg_none_of X G z_list
 have n_sum := mg_none_of X G z_sum
 have n_len := mg_none_of X G z_len
 have n_tuple := mg_none_of X G z_tuple
 have n_abs := mg_none_of X G z_abs
 have n_bool := mg_none_of X G z_bool
 have n_int := mg_none_of X G z_int
 have n_isinstance := mg_none_of X G z_isinstance
 have U3 := Zms (st := Z8) l3 c3 k3
 have b3 : Binds K (fnOf "ratio" "ratio" (Zv Z8) (Zq Z8) (Zb Z8) (.ref T3) kV3 dc3 pm3 an3 cd3 ct3) ["top", "bottom"] [] := fun s us Y hl => match us, hl with | [_, _], _ => BindsTo.of_defaults (T := T3) rfl (Y _ _ t3) rfl rfl rfl
 have b3_1 : Binds K (fnOf "ratio" "ratio" (Zv Z8) (Zq Z8) (Zb Z8) (.ref T3) kV3 dc3 pm3 an3 cd3 ct3) ["top", "bottom"] [.int 1 tk3_0] := fun s us Y hl => by
  have hl2 : us.length = 1 := by simpa using hl
  exact match us, hl2 with | [_], _ => BindsTo.of_defaults (T := T3) rfl (Y _ _ t3) rfl rfl rfl
 have g_MOST_ROADS := mg_of X G a_MOST_ROADS
 have m_Tree := mg_of X G a_Tree
 have cls_Tree : Cls K cTree := ⟨pg_Tree, hd_Tree, po_Tree, sa_Tree⟩
 have U16 := JD (st := Zac) l16 c16 k16
 have b16 : Binds K (fnOf "__init__" "Tree.__init__" (Zv Zac) (Zq Zac) (Zb Zac) .none kV16 dc16 pm16 an16 cd16 ct16) ["self", "roads"] [] := Binds.all fun us hl => Zlo (Pr := fun us => bindArgs _ ⟨us, []⟩ = pure (List.zip _ us)) us hl fun _ _ => rfl
 have U17 := JD (st := Zai) l17 c17 k17
 have b17 : Binds K (fnOf "many" "Tree.many" (Zv Zai) (Zq Zai) (Zb Zai) .none kV17 dc17 pm17 an17 cd17 ct17) ["self"] [] := Binds.all fun us hl => ZpA (Pr := fun us => bindArgs _ ⟨us, []⟩ = pure (List.zip _ us)) us hl fun _ => rfl
 have U18 := JD (st := Zaa) l18 c18 k18
 have b18 : Binds K (fnOf "look_crossing" "Tree.look_crossing" (Zv Zaa) (Zq Zaa) (Zb Zaa) .none kV18 dc18 pm18 an18 cd18 ct18) ["self", "k"] [] := Binds.all fun us hl => Zlo (Pr := fun us => bindArgs _ ⟨us, []⟩ = pure (List.zip _ us)) us hl fun _ _ => rfl
 have U19 := JD (st := Zab) l19 c19 k19
 have b19 : Binds K (fnOf "look_road" "Tree.look_road" (Zv Zab) (Zq Zab) (Zb Zab) .none kV19 dc19 pm19 an19 cd19 ct19) ["self", "k"] [] := Binds.all fun us hl => Zlo (Pr := fun us => bindArgs _ ⟨us, []⟩ = pure (List.zip _ us)) us hl fun _ _ => rfl
 have U20 := JD (st := Zaj) l20 c20 k20
 have b20 : Binds K (fnOf "way" "Tree.way" (Zv Zaj) (Zq Zaj) (Zb Zaj) .none kV20 dc20 pm20 an20 cd20 ct20) ["self", "k"] [] := Binds.all fun us hl => Zlo (Pr := fun us => bindArgs _ ⟨us, []⟩ = pure (List.zip _ us)) us hl fun _ _ => rfl
 have U21 := JD (st := Zad) l21 c21 k21
 have b21 : Binds K (fnOf "beneath" "Tree.beneath" (Zv Zad) (Zq Zad) (Zb Zad) .none kV21 dc21 pm21 an21 cd21 ct21) ["self", "k"] [] := Binds.all fun us hl => Zlo (Pr := fun us => bindArgs _ ⟨us, []⟩ = pure (List.zip _ us)) us hl fun _ _ => rfl
 have U22 := JD (st := Zaf) l22 c22 k22
 have b22 : Binds K (fnOf "roads" "Tree.roads" (Zv Zaf) (Zq Zaf) (Zb Zaf) .none kV22 dc22 pm22 an22 cd22 ct22) ["self"] [] := Binds.all fun us hl => ZpA (Pr := fun us => bindArgs _ ⟨us, []⟩ = pure (List.zip _ us)) us hl fun _ => rfl
 have U23 := JD (st := Zag) l23 c23 k23
 have b23 : Binds K (fnOf "price" "Tree.price" (Zv Zag) (Zq Zag) (Zb Zag) .none kV23 dc23 pm23 an23 cd23 ct23) ["self", "k"] [] := Binds.all fun us hl => Zlo (Pr := fun us => bindArgs _ ⟨us, []⟩ = pure (List.zip _ us)) us hl fun _ _ => rfl
 have U35 := JD (st := Zae) l35 c35 k35
 have b35 := U35.binds (ps := ["tree", "homes"]) fun _ _ _ _ _ _ us hl => Zlo (Pr := fun us => bindArgs _ ⟨us, []⟩ = pure (List.zip _ us)) us hl fun _ _ => rfl
 have U49 := JD (st := ZdV) l49 c49 k49
 refine ⟨fnOf "law" "law" (Zv ZdV) (Zq ZdV) (Zb ZdV) .none kV49 dc49 pm49 an49 cd49 ct49, fun s v => .of_eq rfl, fun base _ _ hB => ?_⟩
 have dF : ∀ {k : Nat} {x : Str} {ps : List Str} {sp : Sp} {f : Addr} {fd : FuncData} {st : Stmt}, DefIn K x st f fd -> Binds K fd ps [] -> FnOk l.prog w K mg base Zw k f fd ps sp -> Fn l.prog w K mg base Zw k x ps sp := fun z b o => Zof X G z b o
 have F_is_whole := dF z0 (z0.u.binds (ps := ["thing"]) fun _ _ _ _ _ _ => bn1 fun _ => rfl) (ZeA z0.u n_isinstance n_int n_bool)
 have F_greatest_divisor := dF z1 (z1.u.binds (ps := ["one", "other"]) fun _ _ _ _ _ _ => bn2 fun _ _ => rfl) (Zol z1.u n_abs)
 have F_is_ratio := dF z2 (z2.u.binds (ps := ["thing"]) fun _ _ _ _ _ _ => bn1 fun _ => rfl) (Zfa z2.u n_isinstance n_tuple n_len F_is_whole F_greatest_divisor)
 have O_ratio := My.ZjK (P := l.prog) (w := w) (base := base) U3 F_is_whole F_greatest_divisor
 have F_ratio : Fn l.prog w K mg base Zw _ "ratio" ["top", "bottom"] _ := ⟨f3, _, O_ratio, b3, k3, mg_of X G a3⟩
 have F_ratio0 := F_ratio
 have F_ratio_d : FnD l.prog w K mg base Zw _ "ratio" ["top", "bottom"] [.int 1] _ := ⟨_, _, _, O_ratio, b3_1, .cons ⟨_, rfl⟩ .nil, k3, mg_of X G a3⟩
 have F_least_multiple := dF z6 (z6.u.binds (ps := ["one", "other"]) fun _ _ _ _ _ _ => bn2 fun _ _ => rfl) (ZnR z6.u F_greatest_divisor)
 have F_common_bottom := dF z7 (z7.u.binds (ps := ["some"]) fun _ _ _ _ _ _ => bn1 fun _ => rfl) (ZiH z7.u F_least_multiple)
 have F_top_over := dF z8 (z8.u.binds (ps := ["one", "bottom"]) fun _ _ _ _ _ _ => bn2 fun _ _ => rfl) (ZoO z8.u )
 have F_total_of := dF z9 (z9.u.binds (ps := ["some"]) fun _ _ _ _ _ _ => bn1 fun _ => rfl) (Zjq z9.u n_sum F_common_bottom F_top_over F_ratio0)
 have F_is_price := dF z10 (z10.u.binds (ps := ["thing"]) fun _ _ _ _ _ _ => bn1 fun _ => rfl) (Ze7 z10.u F_is_ratio)
 have F_is_road := dF z11 (z11.u.binds (ps := ["thing", "many"]) fun _ _ _ _ _ _ => bn2 fun _ _ => rfl) (ZgL z11.u n_isinstance n_tuple n_len F_is_whole F_is_price)
 have F_look_roads := dF z13 (z13.u.binds (ps := ["thing"]) fun _ _ _ _ _ _ => bn1 fun _ => rfl) (ZmZ z13.u n_isinstance n_list n_len g_MOST_ROADS F_is_road)
 have F_way_from := dF z14 (z14.u.binds (ps := ["roads", "k"]) fun _ _ _ _ _ _ => bn2 fun _ _ => rfl) (Zmn z14.u n_len)
 have O_Tree___init__ := My.ZlP (P := l.prog) (w := w) (base := base) U16 n_list n_len n_range cls_Tree nf_lanes nf_ways F_look_roads F_way_from
 have K_Tree : Mkr l.prog w K mg base Zw _ cTree "Tree" ["self", "roads"] _ := ⟨f16, _, O_Tree___init__, b16, ⟨mk16, a16, i16, kc16⟩, m_Tree⟩
 have O_Tree_many := My.Zm1 (P := l.prog) (w := w) (base := base) U17 n_len cls_Tree nf_ways
 have M_many : Mth l.prog w K mg base Zw _ cTree "many" ["self"] _ := ⟨f17, _, O_Tree_many, b17, ⟨a17, i17, k17⟩, cls_Tree⟩
 have O_Tree_look_crossing := My.ZjY (P := l.prog) (w := w) (base := base) U18 (CNP := 0) F_is_whole M_many
 have M_look_crossing : Mth l.prog w K mg base Zw _ cTree "look_crossing" ["self", "k"] _ := ⟨f18, _, O_Tree_look_crossing, b18, ⟨a18, i18, k18⟩, cls_Tree⟩
 have O_Tree_look_road := My.ZjA (P := l.prog) (w := w) (base := base) U19 M_look_crossing
 have M_look_road : Mth l.prog w K mg base Zw _ cTree "look_road" ["self", "k"] _ := ⟨f19, _, O_Tree_look_road, b19, ⟨a19, i19, k19⟩, cls_Tree⟩
 have O_Tree_way := My.Zmo (P := l.prog) (w := w) (base := base) U20 n_list cls_Tree nf_ways M_look_crossing
 have M_way : Mth l.prog w K mg base Zw _ cTree "way" ["self", "k"] _ := ⟨f20, _, O_Tree_way, b20, ⟨a20, i20, k20⟩, cls_Tree⟩
 have O_Tree_beneath := My.ZlT (P := l.prog) (w := w) (base := base) U21 n_range cls_Tree nf_ways M_many M_look_road
 have M_beneath : Mth l.prog w K mg base Zw _ cTree "beneath" ["self", "k"] _ := ⟨f21, _, O_Tree_beneath, b21, ⟨a21, i21, k21⟩, cls_Tree⟩
 have O_Tree_roads := My.Ziu (P := l.prog) (w := w) (base := base) U22 n_list cls_Tree nf_lanes
 have M_roads : Mth l.prog w K mg base Zw _ cTree "roads" ["self"] _ := ⟨f22, _, O_Tree_roads, b22, ⟨a22, i22, k22⟩, cls_Tree⟩
 have O_Tree_price := My.Zhc (P := l.prog) (w := w) (base := base) U23 cls_Tree nf_lanes M_look_road
 have M_price : Mth l.prog w K mg base Zw _ cTree "price" ["self", "k"] _ := ⟨f23, _, O_Tree_price, b23, ⟨a23, i23, k23⟩, cls_Tree⟩
 have F_rest_of := dF z24 (z24.u.binds (ps := ["one", "other"]) fun _ _ _ _ _ _ => bn2 fun _ _ => rfl) (Zjd z24.u F_ratio0)
 have F_needed := dF z25 (z25.u.binds (ps := ["tree", "homes", "group"]) fun _ _ _ _ _ _ => bn3 fun _ _ _ => rfl) (ZiU z25.u n_sorted n_set M_way)
 have F_cost := dF z26 (z26.u.binds (ps := ["tree", "homes", "group"]) fun _ _ _ _ _ _ => bn3 fun _ _ _ => rfl) (Zmw z26.u F_total_of F_needed M_price)
 have F_law_cell_at := dF z27 (z27.u.binds (ps := ["_law_script", "_law_k"]) fun _ _ _ _ _ _ => bn2 fun _ _ => rfl) (ZlK z27.u n_len)
 have F_law_mixed := dF z28 (z28.u.binds (ps := ["_law_cell", "_law_k"]) fun _ _ _ _ _ _ => bn2 fun _ _ => rfl) (Zkp z28.u )
 have F_law_numbers := dF z29 (z29.u.binds (ps := ["_law_cell", "_law_many", "_law_most"]) fun _ _ _ _ _ _ => bn3 fun _ _ _ => rfl) (Zf8 z29.u n_range F_law_mixed)
 have F_law_low := dF z30 (z30.u.binds (ps := ["_law_top", "_law_bottom"]) fun _ _ _ _ _ _ => bn2 fun _ _ => rfl) (Znb z30.u n_abs)
 have F_law_price_by := dF z31 (z31.u.binds (ps := ["_law_number", "_law_wide"]) fun _ _ _ _ _ _ => bn2 fun _ _ => rfl) (Zj4 z31.u F_law_low)
 have F_law_roads_by := dF z32 (z32.u.binds (ps := ["_law_script", "_law_most"]) fun _ _ _ _ _ _ => bn2 fun _ _ => rfl) (Zka z32.u n_list n_range n_enumerate n_int n_min F_law_cell_at F_law_numbers F_law_price_by)
 have F_law_names_by := dF z33 (z33.u.binds (ps := ["_law_cell", "_law_many"]) fun _ _ _ _ _ _ => bn2 fun _ _ => rfl) (ZjW z33.u n_range n_len n_list)
 have F_law_homes_by := dF z34 (z34.u.binds (ps := ["_law_script", "_law_many", "_law_most"]) fun _ _ _ _ _ _ => bn3 fun _ _ _ => rfl) (ZhL z34.u n_zip n_len F_law_cell_at F_law_names_by F_law_numbers)
 have F_far_roads_first := ZnS X G a35 k35 b35 (My.ZnM (P := l.prog) (w := w) (base := base) U35 hcd35 hC35 hB n_len n_sorted n_list F_needed M_way)
 have F_is_less := dF z36 (z36.u.binds (ps := ["one", "other"]) fun _ _ _ _ _ _ => bn2 fun _ _ => rfl) (Zhm z36.u )
 have F_cost_of_all := dF z37 (z37.u.binds (ps := ["tree", "homes"]) fun _ _ _ _ _ _ => bn2 fun _ _ => rfl) (ZgE z37.u n_list F_cost)
 have F_users := dF z38 (z38.u.binds (ps := ["tree", "homes", "k"]) fun _ _ _ _ _ _ => bn3 fun _ _ _ => rfl) (ZkR z38.u n_sorted M_beneath)
 have F_others := dF z39 (z39.u.binds (ps := ["homes", "names"]) fun _ _ _ _ _ _ => bn2 fun _ _ => rfl) (ZhF z39.u n_sorted)
 have F_payments := dF z40 (z40.u.binds (ps := ["price", "payers", "left"]) fun _ _ _ _ _ _ => bn3 fun _ _ _ => rfl) (ZlW z40.u F_is_less F_ratio_d F_rest_of)
 have F_look_sharing := dF z41 (z41.u.binds (ps := ["tree", "homes", "sharing"]) fun _ _ _ _ _ _ => bn3 fun _ _ _ => rfl) (ZkF z41.u n_set n_list F_total_of F_cost_of_all)
 have F_judged := dF z42 (z42.u.binds (ps := ["tree", "homes", "sharing"]) fun _ _ _ _ _ _ => bn3 fun _ _ _ => rfl) (Zh3 z42.u n_sorted n_dict F_look_sharing F_others F_far_roads_first F_users F_is_less F_total_of M_price F_payments F_rest_of)
 have F_law_way := dF z43 (z43.u.binds (ps := ["_law_roads", "_law_k"]) fun _ _ _ _ _ _ => bn2 fun _ _ => rfl) (Zov z43.u )
 have F_law_add := dF z44 (z44.u.binds (ps := ["_law_one", "_law_other"]) fun _ _ _ _ _ _ => bn2 fun _ _ => rfl) (Zmx z44.u F_law_low)
 have F_law_shared_by := dF z45 (z45.u.binds (ps := ["_law_roads", "_law_homes", "_law_cell"]) fun _ _ _ _ _ _ => bn3 fun _ _ _ => rfl) (ZhH z45.u n_len n_range n_max n_sum n_zip F_law_numbers F_law_way F_law_add F_law_low)
 have F_law_fraction := dF z46 (z46.u.binds (ps := ["_law_told"]) fun _ _ _ _ _ _ => bn1 fun _ => rfl) (ZeT z46.u n_isinstance n_tuple n_len n_int n_bool F_law_low)
 have F_law_formed := dF z47 (z47.u.binds (ps := ["_law_table", "_law_homes", "_law_many"]) fun _ _ _ _ _ _ => bn3 fun _ _ _ => rfl) (ZhR z47.u n_isinstance n_list n_tuple n_len n_int n_bool n_str F_law_fraction)
 have F_law_table_holds := dF z48 (z48.u.binds (ps := ["_law_roads", "_law_homes", "_law_sharing", "_law_table"]) fun _ _ _ _ _ _ => bn4 fun _ _ _ _ => rfl) (Zoj z48.u (CT := cTree) n_len F_law_formed F_law_way F_law_add)
 exact My.ZnB (P := l.prog) (w := w) (base := base) U49 n_len n_list n_dict n_range n_isinstance n_tuple F_law_cell_at F_law_roads_by F_law_homes_by F_law_shared_by F_judged F_law_table_holds M_roads K_Tree
end My
namespace PySem.W.Fast
def tw18091024352147669813 := ()
def tw16475078147660094634 := ()
def tw12893740999620436435 := ()
def tw9734907265046559239 := ()
def tw11770939258580961071 := ()
def tw5388248036642061728 := ()
def tw3380539697444717413 := ()
def tw10745766869155843483 := ()
def tw4155003299322898799 := ()
def tw8890201970139413172 := ()
def tw12480880364608112380 := ()
def tw6040796666544032504 := ()
def tw1728093848295964274 := ()
def tw17413593951991016684 := ()
def tw14009687340550454433 := ()
def tw440180114613253121 := ()
def tw14338195500733482572 := ()
def tw7298791379854636973 := ()
def tw5757962450905961784 := ()
def tw16055696385483010111 := ()
def tw14313060869637665566 := ()
def tw10708016550724455315 := ()
def tw14027037767601746280 := ()
def tw15663666164849792973 := ()
def tw3698864722898074476 := ()
def tw15502158914024367361 := ()
def tw8427017646917048628 := ()
def tw3046561309965898274 := ()
def tw12115558549301735248 := ()
def tw11616149506904953675 := ()
def tw1510947687221660753 := ()
def tw8640861981818257271 := ()
def tw14021318700950895752 := ()
def tw16030716225640041683 := ()
def tw17008988842985886596 := ()
def tw5231538924282551119 := ()
def tw7638904047546323472 := ()
def tw8561912174899616439 := ()
def tw7904603538660968345 := ()
def tw11639318202119125313 := ()
def tw11476064482282578399 := ()
def tw8522163403288134509 := ()
def tw6204121009193370687 := ()
def tw17523759273282270751 := ()
def tw2813302296427988610 := ()
def tw8790715220257664816 := ()
def tw15139999506639196697 := ()
def tw12538518057104465891 := ()
def tw16968413176430583507 := ()
def tw3065298960945993405 := ()
def tw6703424776664316524 := ()
def tw14032609552332522735 := ()
def tw874514436460523712 := ()
def tw16101703504690954148 := ()
def tw11877580884202616993 := ()
def tw14353794523383773326 := ()
def tw14272302308238198267 := ()
def tw5069615683859516920 := ()
def tw2617988290630303917 := ()
def tw16129755713053410447 := ()
def tw2379631444135391680 := ()
def tw14499593197722314455 := ()
def tw2485572211242244814 := ()
def tw11287574654264163661 := ()
def tw17508814895615490771 := ()
def tw16546083128956712049 := ()
def tw1871677528774131549 := ()
def tw16237982249382545340 := ()
def tw731642644798352106 := ()
def tw6449637117480978735 := ()
def tw17115580275743050014 := ()
def tw7002771274899322394 := ()
def tw2230966205425992687 := ()
def tw5950199131844032918 := ()
def tw8686102063609737150 := ()
def tw11277585166011501628 := ()
def tw13693048190451994955 := ()
def tw11519180295622172098 := ()
def tw18320344520035468607 := ()
def tw16754050059410061395 := ()
def tw15461779696516845 := ()
def tw9040624063978627278 := ()
end PySem.W.Fast
open PySem PySem.W PyProof.Rows
local macro_rules | `(tactic| walk_at "zi") => `(tactic| (refine' My.ZoF ?a ?l ?c ?k; (case a => k_is); (case l => k_is); (case c => k_is); (case k => k_is)))
set_option maxRecDepth 100000 in
set_option maxHeartbeats 0 in
theorem PySem.Challenge.cw_roadshare_k32_good_ones_have_tables_holds : PySem.Challenge.rw_roadshare_k32_good_ones_have_tables.Holds := by
 w_on; o_law; k_head; (case hw => w_witness2)
 k_fill
 refine L2.Zh6 (l := PySem.Challenge.rw_roadshare_k32_good_ones_have_tables) (n := 63) (k := 10) (x := "_law_script") (CX := L2.Zw) (sp := My.Zg6 160) (fun b => if b = 160 then some (Str.ofString "far_roads_first.<locals>.<lambda>") else none) rfl (by decide) rfl ⟨rfl, by decide, by decide⟩ (fun w h Y => km_in_of Y) ?T ?KT ?F ?S ?C
 case T =>
  intro w h Y b q hb
  have e : b = 160 := by
   by_cases z : b = 160
   ·exact z
   ·rw [if_neg z] at hb; cases hb
  subst e
  exact ⟨⟨164, codeHd_of_K (km_in_of Y) (by kernel_rfl)⟩, PySem.W.km_tabs_of Y 160 (by simp)⟩
 case KT =>
  intro w b q hb
  have e : b = 160 := by
   by_cases z : b = 160
   ·exact z
   ·rw [if_neg z] at hb; cases hb
  subst e
  first | k_is | kernel_rfl
 case S => exact fun K H a ns hl hO hS => ⟨a, ns, rfl, hS, hO 160 _ (if_pos rfl), fun _ => rfl⟩
 case C => exact fun _ _ _ _ z => z
 case F =>
  intro w mg fa h KX G hmg
  refine' My.Znk KX G hmg ?z0 ?z1 ?z2 ?a3 ?l3 ?c3 ?k3 ?t3 ?z6 ?z7 ?z8 ?z9 ?z10 ?z11 ?a_MOST_ROADS ?z13 ?z14 ?a_Tree ?pg_Tree ?hd_Tree ?po_Tree ?sa_Tree ?nf_lanes ?nf_ways ?a16 ?l16 ?c16 ?k16 ?i16 ?mk16 ?kc16 ?a17 ?l17 ?c17 ?k17 ?i17 ?a18 ?l18 ?c18 ?k18 ?i18 ?a19 ?l19 ?c19 ?k19 ?i19 ?a20 ?l20 ?c20 ?k20 ?i20 ?a21 ?l21 ?c21 ?k21 ?i21 ?a22 ?l22 ?c22 ?k22 ?i22 ?a23 ?l23 ?c23 ?k23 ?i23 ?z24 ?z25 ?z26 ?z27 ?z28 ?z29 ?z30 ?z31 ?z32 ?z33 ?z34 ?a35 ?l35 ?c35 ?k35 ?hcd35 ?hC35 ?z36 ?z37 ?z38 ?z39 ?z40 ?z41 ?z42 ?z43 ?z44 ?z45 ?z46 ?z47 ?z48 ?a49 ?l49 ?c49 ?k49 ?z_isinstance ?z_int ?z_bool ?z_abs ?z_tuple ?z_len ?z_sum ?z_list ?z_range ?z_sorted ?z_set ?z_enumerate ?z_min ?z_zip ?z_dict ?z_max ?z_str
  (case z0 => walk_at "zi")
  (case z1 => walk_at "zi")
  (case z2 => walk_at "zi")
  (case a3 => k_is)
  (case l3 => k_is)
  (case c3 => k_is)
  (case k3 => k_is)
  (case t3 => k_is)
  (case z6 => walk_at "zi")
  (case z7 => walk_at "zi")
  (case z8 => walk_at "zi")
  (case z9 => walk_at "zi")
  (case z10 => walk_at "zi")
  (case z11 => walk_at "zi")
  (case a_MOST_ROADS => k_is)
  (case z13 => walk_at "zi")
  (case z14 => walk_at "zi")
  (case a_Tree => k_is)
  (case pg_Tree => k_is)
  (case hd_Tree => k_is)
  (case po_Tree => k_is)
  (case sa_Tree => k_is)
  (case nf_lanes => k_is)
  (case nf_ways => k_is)
  (case a16 => k_is)
  (case l16 => k_is)
  (case c16 => k_is)
  (case k16 => k_is)
  (case i16 => k_is)
  (case mk16 => k_is)
  (case kc16 => k_is)
  (case a17 => k_is)
  (case l17 => k_is)
  (case c17 => k_is)
  (case k17 => k_is)
  (case i17 => k_is)
  (case a18 => k_is)
  (case l18 => k_is)
  (case c18 => k_is)
  (case k18 => k_is)
  (case i18 => k_is)
  (case a19 => k_is)
  (case l19 => k_is)
  (case c19 => k_is)
  (case k19 => k_is)
  (case i19 => k_is)
  (case a20 => k_is)
  (case l20 => k_is)
  (case c20 => k_is)
  (case k20 => k_is)
  (case i20 => k_is)
  (case a21 => k_is)
  (case l21 => k_is)
  (case c21 => k_is)
  (case k21 => k_is)
  (case i21 => k_is)
  (case a22 => k_is)
  (case l22 => k_is)
  (case c22 => k_is)
  (case k22 => k_is)
  (case i22 => k_is)
  (case a23 => k_is)
  (case l23 => k_is)
  (case c23 => k_is)
  (case k23 => k_is)
  (case i23 => k_is)
  (case z24 => walk_at "zi")
  (case z25 => walk_at "zi")
  (case z26 => walk_at "zi")
  (case z27 => walk_at "zi")
  (case z28 => walk_at "zi")
  (case z29 => walk_at "zi")
  (case z30 => walk_at "zi")
  (case z31 => walk_at "zi")
  (case z32 => walk_at "zi")
  (case z33 => walk_at "zi")
  (case z34 => walk_at "zi")
  (case a35 => k_is)
  (case l35 => k_is)
  (case c35 => k_is)
  (case k35 => k_is)
  (case hcd35 => exact rfl)
  (case hC35 => kernel_rfl)
  (case z36 => walk_at "zi")
  (case z37 => walk_at "zi")
  (case z38 => walk_at "zi")
  (case z39 => walk_at "zi")
  (case z40 => walk_at "zi")
  (case z41 => walk_at "zi")
  (case z42 => walk_at "zi")
  (case z43 => walk_at "zi")
  (case z44 => walk_at "zi")
  (case z45 => walk_at "zi")
  (case z46 => walk_at "zi")
  (case z47 => walk_at "zi")
  (case z48 => walk_at "zi")
  (case a49 => k_is)
  (case l49 => k_is)
  (case c49 => k_is)
  (case k49 => k_is)
  (case z_isinstance => k_is)
  (case z_int => k_is)
  (case z_bool => k_is)
  (case z_abs => k_is)
  (case z_tuple => k_is)
  (case z_len => k_is)
  (case z_sum => k_is)
  (case z_list => k_is)
  (case z_range => k_is)
  (case z_sorted => k_is)
  (case z_set => k_is)
  (case z_enumerate => k_is)
  (case z_min => k_is)
  (case z_zip => k_is)
  (case z_dict => k_is)
  (case z_max => k_is)
  (case z_str => k_is)
#print axioms PySem.Challenge.cw_roadshare_k32_good_ones_have_tables_holds
