import PyProof.Rows.All
import Wide.All
import OpenK.AllK
import Wide.FinOn
import PyProof.EqAt
import PyProof.EqKinds
import PyProof.TupleCall
import KE.BitLaws
import PyProof.IsiPairs
import PyProof.IsiNone
import PyProof.IsiSeqPairs
import PyProof.SetRoads
import PyProof.SetNew
import PyProof.Rows.SetObj
import PyProof.ListRange
import PyProof.Draws
import PyProof.EnumMake
import PyProof.WalksMore
import PyProof.ListMulRoad
import PyProof.Rows.SeqMore
import PyProof.FactsAll.tuple
import KE.KTryMore
import KE.KIsAll
import KE.KSuper
import PyProof.ExcInit
import PyProof.ExcClass2
import PyProof.InstStoreFacts
import KE.KFromBytes
import PyProof.P3Eq
import PyProof.DictUpdate
import PyProof.Rows.SortShellAny
import KE.KLam
import PySem.Challenge.RW_halfseams_k12_patches_cut_and_joined
set_option Elab.async false
set_option linter.all false
set_option maxRecDepth 100000
namespace L2
open PySem PySem.Spec PyProof.Rows
abbrev Key := Sum Int (Option Str)
def keyIs : Key → Value → Bool
  | .inl k, v => Value.isInt k v
  | .inr (some x), v => Value.isStrOf x v
  | .inr none, .none => true
  | .inr none, _ => false
def keyH (w : World) : Key → Int
  | .inl k => hashInt k
  | .inr (some x) => hashStr w x
  | .inr none => 0xFCA86420
theorem keyIs_shape : ∀ {k : Key} {v : Value}, keyIs k v = true → (∃ i t, k = Sum.inl i ∧ v = Value.int i t) ∨ (∃ x t, k = Sum.inr (some x) ∧ v = Value.str x t) ∨ (k = Sum.inr none ∧ v = Value.none)
  | .inl i, v, h => by
    obtain ⟨t, e⟩ := Value.isInt_shape (k := i) (v := v) h
    exact .inl ⟨i, t, rfl, e⟩
  | .inr (some x), v, h => by
    obtain ⟨t, e⟩ := Value.isStrOf_shape (x := x) (v := v) h
    exact .inr (.inl ⟨x, t, rfl, e⟩)
  | .inr none, v, h => by
    cases v with
    | none => exact .inr (.inr ⟨rfl, rfl⟩)
    | _ => cases h
theorem keyIs_int (i : Int) (t : Tok) : keyIs (.inl i) (.int i t) = true := by simp [keyIs, Value.isInt]
theorem keyIs_str (x : Str) (t : Tok) : keyIs (.inr (some x)) (.str x t) = true := by simp [keyIs, Value.isStrOf]
theorem key_ll (a b : Int) : decide ((Sum.inl a : Key) = Sum.inl b) = (a == b) := by
  by_cases e : a = b
  · subst e; simp
  · have h : ¬ (Sum.inl a : Key) = Sum.inl b := fun q => e (Sum.inl.inj q)
    rw [decide_eq_false h]
    exact (beq_eq_false_iff_ne.mpr e).symm
theorem key_rr (a b : Str) : decide ((Sum.inr (some a) : Key) = Sum.inr (some b)) = decide (a = b) := by
  by_cases e : a = b
  · subst e; simp
  · have h : ¬ (Sum.inr (some a) : Key) = Sum.inr (some b) := fun q => e (Option.some.inj (Sum.inr.inj q))
    rw [decide_eq_false h, decide_eq_false e]
theorem key_lr (a : Int) (b : Option Str) : decide ((Sum.inl a : Key) = Sum.inr b) = false := decide_eq_false (fun q => nomatch q)
theorem key_rl (a : Option Str) (b : Int) : decide ((Sum.inr a : Key) = Sum.inl b) = false := decide_eq_false (fun q => nomatch q)
theorem key_ns (b : Str) : decide ((Sum.inr none : Key) = Sum.inr (some b)) = false := decide_eq_false (fun q => nomatch (Sum.inr.inj q))
theorem key_sn (b : Str) : decide ((Sum.inr (some b) : Key) = Sum.inr none) = false := decide_eq_false (fun q => nomatch (Sum.inr.inj q))
theorem key_nn : decide ((Sum.inr none : Key) = Sum.inr none) = true := decide_eq_true rfl
theorem wpAny_pyHash_none {prog : Program} {w : World} {A : Around} {E : Value → Shared → Prop} {s : Shared} {Q : Int → Shared → Prop} (h : Q 0xFCA86420 { s with toks := s.toks + 1 }) :
    wpAny (model prog w) A (pyHash .none) Q E s := by
  have hT : s.TypeIs .none "NoneType" := rfl
  unfold pyHash
  have hv : [Value.none].any Value.onHeap = false := rfl
  refine wpAny_bind ?_
  rw [cRoomFor, if_neg (by rw [hv]; exact Bool.false_ne_true)]; refine wpAny_pure ?_
  refine wpAny_bind (wpAny_specialOf hT F.slot_NoneType_hash.lookup ?_)
  show wpAny _ _ (if (some (Value.builtin "NoneType.__hash__") == some Value.none) = true then _ else _) Q E s
  rw [if_neg (by rw [beq_builtin_none]; exact Bool.false_ne_true)]
  refine wpAny_bind (wpAny_specialOf hT F.slot_NoneType_hash.lookup ?_)
  show wpAny _ _ (callSpecialIfBoundUnlessNone? .none "__hash__" _ >>= _) Q E s
  refine wpAny_bind (wpAny_callSpecialIfBoundUnlessNone?_slot hT F.slot_NoneType_hash
    (wpAny_call_entry F.slot_NoneType_hash hT F.entry_NoneType_hash
      (show wpAny _ _ (do ret (← mkInt 0xFCA86420)) _ _ s from wpAny_ret_mkInt ?_) (F.args_NoneType_hash_1 _)))
  show wpAny _ _ (if (decide (-(2 : Int) ^ 63 ≤ 0xFCA86420) && decide ((0xFCA86420 : Int) < 2 ^ 63)) = true then _ else _) Q E _
  rw [if_pos (by decide)]
  exact wpAny_pure h
def mixKind (prog : Program) (w : World) : PySem.KeyKind prog w Key where
  is := keyIs
  hash := keyH w
  inj := fun v a b ha hb => by
    rcases keyIs_shape ha with ⟨i, t, rfl, rfl⟩ | ⟨x, t, rfl, rfl⟩ | ⟨rfl, rfl⟩
    · rcases keyIs_shape hb with ⟨j, u, rfl, e⟩ | ⟨y, u, rfl, e⟩ | ⟨rfl, e⟩
      · injection e with e1 _; rw [e1]
      · exact nomatch e
      · exact nomatch e
    · rcases keyIs_shape hb with ⟨j, u, rfl, e⟩ | ⟨y, u, rfl, e⟩ | ⟨rfl, e⟩
      · exact nomatch e
      · injection e with e1 _; rw [e1]
      · exact nomatch e
    · rcases keyIs_shape hb with ⟨j, u, rfl, e⟩ | ⟨y, u, rfl, e⟩ | ⟨rfl, e⟩
      · exact nomatch e
      · exact nomatch e
      · rfl
  byValue := fun k v h => by
    rcases keyIs_shape h with ⟨i, t, rfl, rfl⟩ | ⟨x, t, rfl, rfl⟩ | ⟨rfl, rfl⟩ <;> rfl
  pyHash := fun hv h => by
    rcases keyIs_shape hv with ⟨i, t, rfl, rfl⟩ | ⟨x, t, rfl, rfl⟩ | ⟨rfl, rfl⟩
    · exact wpAny_pyHash_int h
    · exact wpAny_pyHash_str h
    · exact wpAny_pyHash_none h
  eqBool := fun hu hv h => by
    rcases keyIs_shape hu with ⟨i, t, rfl, rfl⟩ | ⟨x, t, rfl, rfl⟩ | ⟨rfl, rfl⟩
    · rcases keyIs_shape hv with ⟨j, u, rfl, rfl⟩ | ⟨y, u, rfl, rfl⟩ | ⟨rfl, rfl⟩
      · rw [key_ll] at h; exact wpAny_eqBool_int h
      · rw [key_lr] at h; exact SeqAt.EqAt.int_str i t y u _ _ _ _ h
      · rw [key_lr] at h; exact SeqAt.EqAt.int_none i t _ _ _ _ h
    · rcases keyIs_shape hv with ⟨j, u, rfl, rfl⟩ | ⟨y, u, rfl, rfl⟩ | ⟨rfl, rfl⟩
      · rw [key_rl] at h; exact SeqAt.EqAt.str_int x t j u _ _ _ _ h
      · rw [key_rr] at h; exact wpAny_eqBool_str h
      · rw [key_sn] at h; exact SeqAt.EqAt.str_none x t _ _ _ _ h
    · rcases keyIs_shape hv with ⟨j, u, rfl, rfl⟩ | ⟨y, u, rfl, rfl⟩ | ⟨rfl, rfl⟩
      · rw [key_rl] at h; exact SeqAt.EqAt.none_int j u _ _ _ _ h
      · rw [key_ns] at h; exact SeqAt.EqAt.none_str y u _ _ _ _ h
      · rw [key_nn] at h; exact SeqAt.EqAt.same .none _ _ _ _ h
  «strs» := fun k x t v h => by
    rcases keyIs_shape h with ⟨i, u, rfl, e⟩ | ⟨y, u, rfl, e⟩ | ⟨rfl, e⟩
    · exact nomatch e
    · injection e with e1 _
      subst e1
      cases v <;> rfl
    · exact nomatch e
theorem mixKind_int (prog : Program) (w : World) (i : Int) (t : Tok) : (mixKind prog w).is (.inl i) (.int i t) = true := keyIs_int i t
theorem mixKind_str (prog : Program) (w : World) (x : Str) (t : Tok) : (mixKind prog w).is (.inr (some x)) (.str x t) = true := keyIs_str x t
end L2
namespace L2
open PySem PySem.Spec PyProof.Rows
inductive V where
  | non | bl (b : Bool) | int (i : Int) | str (x : Str) | byt (b : Array UInt8) | flt (b : UInt64) | ref (a : Addr) | ty (n : String)
  deriving DecidableEq
def RelV : V → Value → Prop
  | .non, u => u = Value.none
  | .bl b, u => u = Value.bool b
  | .int i, u => ∃ t, u = Value.int i t
  | .str x, u => ∃ t, u = Value.str x t
  | .byt b, u => ∃ t, u = Value.bytes b t
  | .flt b, u => ∃ t, u = Value.float b t
  | .ref a, u => u = Value.ref a
  | .ty n, u => u = Value.type n
abbrev Vals : List V → List Value → Prop := Paired RelV
theorem Vals.length {xs : List V} {us : List Value} (r : Vals xs us) : xs.length = us.length := Paired.length r
theorem Vals.get : ∀ {xs : List V} {us : List Value} {i : Nat} {x : V}, Vals xs us → xs[i]? = some x → ∃ u, us[i]? = some u ∧ RelV x u
  | _, _, _, _, .nil, e => by simp at e
  | _, _, 0, _, .cons r _, e => by simp at e; subst e; exact ⟨_, rfl, r⟩
  | _, _, i + 1, x, .cons _ t, e => by
    obtain ⟨u, h1, h2⟩ := Vals.get (i := i) (x := x) t (by simpa using e)
    exact ⟨u, by simpa using h1, h2⟩
theorem Vals.set {x : V} {u : Value} (r : RelV x u) : ∀ {xs : List V} {us : List Value} (i : Nat), Vals xs us → Vals (xs.set i x) (us.set i u)
  | _, _, _, .nil => .nil
  | _, _, 0, .cons _ t => .cons r t
  | _, _, i + 1, .cons q t => .cons q (Vals.set r i t)
theorem Vals.append : ∀ {xs ys : List V} {us ws : List Value}, Vals xs us → Vals ys ws → Vals (xs ++ ys) (us ++ ws)
  | _, _, _, _, .nil, s => s
  | _, _, _, _, .cons r t, s => .cons r (Vals.append t s)
theorem Vals.take : ∀ {xs : List V} {us : List Value} (n : Nat), Vals xs us → Vals (xs.take n) (us.take n)
  | _, _, 0, _ => .nil
  | _, _, _ + 1, .nil => .nil
  | _, _, n + 1, .cons r t => .cons r (Vals.take n t)
theorem Vals.drop : ∀ {xs : List V} {us : List Value} (n : Nat), Vals xs us → Vals (xs.drop n) (us.drop n)
  | _, _, 0, r => r
  | _, _, _ + 1, .nil => .nil
  | _, _, n + 1, .cons _ t => Vals.drop n t
def RelO : Option V → Option Value → Prop
  | some v, some u => RelV v u
  | none, none => True
  | _, _ => False
def KV {κ : Type} : List (κ × V) → List (κ × Value) → Prop := Paired fun (p : κ × V) (q : κ × Value) => p.1 = q.1 ∧ RelV p.2 q.2
def kV : Key → V
  | .inl i => .int i
  | .inr (some x) => .str x
  | .inr none => .non
inductive HO where
  | lst (xs : List V)
  | tup (xs : List V)
  | dK (kvs : List (Key × V)) | dT (kvs : List (List Key × V))
  | set (S : Int → Bool) (n : Nat)
  | ins (C dx : Addr) (fs : List (Str × V))
  | own (x : Addr)
  | xd (fs : List (Str × V))
  | met (f x : Addr)
  | rng (lo hi : Int)
  | frz (o : Obj) (u : HO)
  | tbl (ps : Array Value)
  | ext (φ : Heap → Prop)
abbrev Hp := Addr → Option HO
def upd (H : Hp) (a : Addr) (o : HO) : Hp := fun b => if b = a then some o else H b
theorem upd_same {H : Hp} {a : Addr} {o : HO} : upd H a o a = some o := by unfold upd; rw [if_pos rfl]
theorem upd_ne {H : Hp} {a b : Addr} {o : HO} (h : b ≠ a) : upd H a o b = H b := by unfold upd; rw [if_neg h]
theorem ne_of {H : Hp} {a b : Addr} {o u : HO} (h : H a = some o) (h' : H b = some u) (d : o ≠ u) : a ≠ b := by
  intro e; subst e; rw [h] at h'; exact d (Option.some.inj h')
theorem ne_of_none {H : Hp} {a b : Addr} {o : HO} (h : H a = some o) (h' : H b = none) : a ≠ b := by
  intro e; subst e; rw [h] at h'; cases h'
def TupN (h : Heap) (a : Addr) (its : Array Value) : Prop := ∃ o, h.get? a = some o ∧ o.dict = none ∧ o.cls = .type "tuple" ∧ ∃ n, o.data = .seq its n
theorem TupN.is {h : Heap} {a : Addr} {its : Array Value} (p : TupN h a its) : IsTup h a its := by
  obtain ⟨o, e, _, c, n, d⟩ := p
  exact ⟨o, e, c, n, d⟩
theorem TupN.new (h : Heap) (its : Array Value) : TupN (h.push { cls := .type "tuple", data := .seq its }) h.objs.size its := ⟨_, Heap.get?_push_size _ rfl, rfl, rfl, _, rfl⟩
section
variable (P : Program) (w : World)
def ObjOk (H : Hp) (h : Heap) (a : Addr) : HO → Prop
  | .lst xs => xs.length ≤ sizeLine ∧ ∃ (its : List Value) (n : Nat), Vals xs its ∧ h.get? a = some { cls := .type "list", data := .seq its.toArray n }
  | .tup xs => xs.length ≤ sizeLine ∧ ∃ its : List Value, Vals xs its ∧ TupN h a its.toArray
  | .dK kvs => kvs.length ≤ sizeLine ∧ (a == sysModules) = false ∧ ∃ vs, KV kvs vs ∧ h.DictOf (mixKind P w) a vs
  | .dT kvs => kvs.length ≤ sizeLine ∧ (a == sysModules) = false ∧ ∃ xs : List (List Key × Addr × Value),
      Paired (fun (p : List Key × V) (q : List Key × Addr × Value) => p.1 = q.1 ∧ H q.2.1 = some (.tup (p.1.map kV)) ∧ RelV p.2 q.2.2) kvs xs ∧
      ∃ o es ep, h.get? a = some o ∧ o.ExactDict ∧ o.data = .dict es ep ∧ es.toList = xs.map (entryOfKey (tupleKind (mixKind P w))) ∧ (xs.map (·.1)).Nodup
  | .set S n => h.SetOf (intKind P w) a S n
  | .ins C dx fs => H dx = some (.own a) ∧ fs.length ≤ 1000 ∧ dx ≠ a ∧ h.get? a = some (PySem.W.instObj C dx) ∧
      ∃ mA, h.Ns1 dx mA ∧ (∀ f, RelO (fs.lookup f) (mA f)) ∧ PySem.Within mA (fs.map (·.1))
  | .own _ => ∃ o, h.get? a = some o
  | .xd fs => ∃ mA, h.Ns1 a mA ∧ ∀ f, RelO (fs.lookup f) (mA f)
  | .rng lo hi => ∃ t u v, h.get? a = some { cls := .type "range", data := .fields #[.int lo t, .int hi u, .int 1 v] }
  | .frz o u => h.get? a = some o ∧ ObjOk H h a u
  | .tbl ps => h.get? a = some { cls := .none, data := .fields ps }
  | .met f x => h.get? a = some (PySem.W.methodObj (.ref f) (.ref x))
  | .ext φ => φ h ∧ (∃ o, h.get? a = some o) ∧ ∀ h1 h2 : Heap, φ h1 → (∀ o, h1.get? a = some o → h2.get? a = some o) → φ h2
def HOk (H : Hp) (h : Heap) : Prop := ∀ a o, H a = some o → ObjOk P w H h a o
end
section
variable {P : Program} {w : World} {H H' : Hp} {h h' : Heap} {a : Addr} {o : HO}
theorem ObjOk.lt (x : ObjOk P w H h a o) : a < h.objs.size := by
  cases o with
  | lst xs => obtain ⟨_, _, _, _, e⟩ := x; exact Heap.lt_size e
  | tup xs => obtain ⟨_, _, _, p⟩ := x; exact p.is.lt
  | dK kvs => obtain ⟨_, _, _, _, o, _, _, e, _⟩ := x; exact Heap.lt_size e
  | dT kvs => obtain ⟨_, _, _, _, o, _, _, e, _⟩ := x; exact Heap.lt_size e
  | set S n => obtain ⟨o, _, _, _, e, _⟩ := x; exact Heap.lt_size e
  | ins C dx fs => obtain ⟨_, _, _, e, _⟩ := x; exact Heap.lt_size e
  | own y => obtain ⟨_, e⟩ := x; exact Heap.lt_size e
  | xd fs => obtain ⟨_, ⟨_, _, _, e, _⟩, _⟩ := x; exact Heap.lt_size e
  | rng lo hi => obtain ⟨_, _, _, e⟩ := x; exact Heap.lt_size e
  | frz ob u => obtain ⟨e, _⟩ := x; exact Heap.lt_size e
  | tbl ps => exact Heap.lt_size (show h.get? a = some _ from x)
  | met f y => exact Heap.lt_size (show h.get? a = some _ from x)
  | ext φ => obtain ⟨_, ⟨_, e⟩, _⟩ := x; exact Heap.lt_size e
theorem Paired.mapP {α β : Type} {F G : α → β → Prop} : ∀ {l₁ : List α} {l₂ : List β}, Paired F l₁ l₂ → (∀ a b, F a b → G a b) → Paired G l₁ l₂
  | _, _, .nil, _ => .nil
  | _, _, .cons r t, f => .cons (f _ _ r) (Paired.mapP t f)
theorem ObjOk.stay (x : ObjOk P w H h a o) (k : ∀ b u, (b = a ∨ H b = some (.own a)) → h.get? b = some u → h'.get? b = some u)
    (ho : ∀ b, H b = some (.own a) → H' b = some (.own a)) (ht : ∀ b xs, H b = some (.tup xs) → H' b = some (.tup xs)) : ObjOk P w H' h' a o := by
  induction o with
  | lst xs => obtain ⟨z, its, n, r, e⟩ := x; exact ⟨z, its, n, r, k _ _ (.inl rfl) e⟩
  | tup xs => obtain ⟨z, its, r, ob, e, c⟩ := x; exact ⟨z, its, r, ob, k _ _ (.inl rfl) e, c⟩
  | dK kvs => obtain ⟨z, y, vs, r, ob, es, ep, e, c⟩ := x; exact ⟨z, y, vs, r, ob, es, ep, k _ _ (.inl rfl) e, c⟩
  | dT kvs =>
    obtain ⟨z, y, xs, r, ob, es, ep, e, c⟩ := x
    exact ⟨z, y, xs, Paired.mapP r fun p q z => ⟨z.1, ht _ _ z.2.1, z.2.2⟩, ob, es, ep, k _ _ (.inl rfl) e, c⟩
  | set S n => obtain ⟨ob, es, ep, t, e, c⟩ := x; exact ⟨ob, es, ep, t, k _ _ (.inl rfl) e, c⟩
  | ins C dx fs =>
    obtain ⟨d, z, ne, e, mA, ⟨od, es, ep, e2, c⟩, r⟩ := x
    exact ⟨ho _ d, z, ne, k _ _ (.inl rfl) e, mA, ⟨od, es, ep, k _ _ (.inr d) e2, c⟩, r⟩
  | own y => obtain ⟨ob, e⟩ := x; exact ⟨ob, k _ _ (.inl rfl) e⟩
  | xd fs => obtain ⟨mA, ⟨od, es, ep, e, c⟩, r⟩ := x; exact ⟨mA, ⟨od, es, ep, k _ _ (.inl rfl) e, c⟩, r⟩
  | rng lo hi => obtain ⟨t, u, v, e⟩ := x; exact ⟨t, u, v, k _ _ (.inl rfl) e⟩
  | frz ob u ih => obtain ⟨e, q⟩ := x; exact ⟨k _ _ (.inl rfl) e, ih q⟩
  | tbl ps =>
    have e : h.get? a = some { cls := .none, data := .fields ps } := x
    show h'.get? a = some { cls := .none, data := .fields ps }
    exact k a _ (.inl rfl) e
  | met f y =>
    have e : h.get? a = some (PySem.W.methodObj (.ref f) (.ref y)) := x
    show h'.get? a = some (PySem.W.methodObj (.ref f) (.ref y))
    exact k a _ (.inl rfl) e
  | ext φ => obtain ⟨p, ⟨o, e⟩, st⟩ := x; exact ⟨st _ _ p fun o q => k _ _ (.inl rfl) q, ⟨o, k _ _ (.inl rfl) e⟩, st⟩
theorem HOk.lt (x : HOk P w H h) (e : H a = some o) : a < h.objs.size := (x a o e).lt
theorem HOk.fresh (x : HOk P w H h) (e : h.objs.size ≤ a) : H a = none := by
  cases q : H a with
  | none => rfl
  | some u => exact absurd (Nat.lt_of_lt_of_le (x.lt q) e) (Nat.lt_irrefl _)
theorem HOk.kept (x : HOk P w H h) (k : ∀ b u, h.get? b = some u → h'.get? b = some u) : HOk P w H h' := fun a o e =>
  (x a o e).stay (fun b u _ q => k b u q) (fun _ q => q) fun _ _ q => q
theorem HOk.laid (x : HOk P w H h) (k : ∀ b u, h.get? b = some u → h'.get? b = some u) (hp : h.objs.size ≤ a) (new : ObjOk P w (upd H a o) h' a o) : HOk P w (upd H a o) h' := fun b u e => by
  have hn := x.fresh hp
  by_cases hb : b = a
  · subst hb; rw [upd_same] at e; cases e; exact new
  · rw [upd_ne hb] at e
    exact (x b u e).stay (fun c v _ q => k c v q) (fun c q => by rw [upd_ne (ne_of_none q hn)]; exact q) fun c xs q => by rw [upd_ne (ne_of_none q hn)]; exact q
end
def Rd (H : Hp) (a : Addr) (u : HO) : Prop := H a = some u ∨ ∃ o, H a = some (.frz o u)
theorem Rd.of {H : Hp} {a : Addr} {u : HO} (h : H a = some u) : Rd H a u := .inl h
theorem Rd.ok {P : Program} {w : World} {H : Hp} {h : Heap} {a : Addr} {u : HO} (r : Rd H a u) (x : HOk P w H h) : ObjOk P w H h a u := by
  rcases r with r | ⟨o, r⟩
  · exact x a u r
  · obtain ⟨_, q⟩ := x a _ r
    exact q
def Mut : Option HO → Prop
  | some (.lst _) => True
  | some (.dK _) => True
  | some (.dT _) => True
  | some (.set _ _) => True
  | some (.ins _ _ _) => True
  | some (.ext _) => True
  | _ => False
section
variable {P : Program} {w : World} {H : Hp} {h h' : Heap} {x e : Addr} {o' : HO}
theorem HOk.write (ok : HOk P w H h) (mu : Mut (H x)) (he : e = x ∨ H e = some (.own x)) (k : ∀ b u, b ≠ e → h.get? b = some u → h'.get? b = some u) (heo : ∃ u, h'.get? e = some u)
    (new : ObjOk P w (upd H x o') h' x o') : HOk P w (upd H x o') h' := fun b u q => by
  have nown : ∀ c y, H c = some (.own y) → c ≠ x := fun c y r z => by subst z; rw [r] at mu; exact mu
  have ntup : ∀ c xs, H c = some (.tup xs) → c ≠ x := fun c xs r z => by subst z; rw [r] at mu; exact mu
  by_cases hb : b = x
  · subst hb; rw [upd_same] at q; cases q; exact new
  · rw [upd_ne hb] at q
    by_cases hbe : b = e
    · have q' : H b = some (.own x) := by
        rcases he with z | z
        · exact absurd (hbe.trans z) hb
        · rw [hbe]; exact z
      rw [q] at q'; cases q'
      obtain ⟨v, hv⟩ := heo
      exact ⟨v, by rw [hbe]; exact hv⟩
    · refine (ok b u q).stay (fun c v hc r => k c v ?_ r) (fun c r => by rw [upd_ne (nown c b r)]; exact r) fun c xs r => by rw [upd_ne (ntup c xs r)]; exact r
      rcases hc with rfl | hc
      · exact hbe
      · rintro rfl
        rcases he with z | z
        · exact nown c b hc z
        · rw [hc] at z; cases z; exact hb rfl
end
structure Un (fs ex : List Addr) (H H' : Hp) (h h' : Heap) : Prop where
  keep : ∀ b o, h.get? b = some o → H b = none → b ∉ fs → b ∉ ex → h'.get? b = some o
  slot : ∀ b o, h.get? b = some o → H b = none → b ∈ fs → b ∉ ex → ∃ sl, h'.get? b = some { o with slots := sl }
  free : ∀ b o, h.get? b = some o → H b = none → b ∉ ex → H' b = none
  there : ∀ b o, h.get? b = some o → b ∉ ex → ∃ o', h'.get? b = some o'
  tups : ∀ b xs, H b = some (.tup xs) → H' b = some (.tup xs)
  frzs : ∀ b o u, H b = some (.frz o u) → H' b = some (.frz o u)
  tbls : ∀ b ps, H b = some (.tbl ps) → ∃ more, H' b = some (.tbl (ps ++ more))
section
variable {fs fs' ex ex' : List Addr} {H H1 H2 : Hp} {h h1 h2 h' : Heap} {a x e : Addr} {o : HO}
theorem Un.any (u : Un fs ex H H1 h h1) {b : Addr} {ob : Obj} (q : h.get? b = some ob) (n : H b = none) (hx : b ∉ ex) : ∃ sl, h1.get? b = some { ob with slots := sl } := by
  by_cases hb : b ∈ fs
  · exact u.slot b ob q n hb hx
  · exact ⟨ob.slots, u.keep b ob q n hb hx⟩
theorem Un.trans (a : Un fs ex H H1 h h1) (b : Un fs ex H1 H2 h1 h2) : Un fs ex H H2 h h2 where
  keep := fun c ob q n hc hx => b.keep c ob (a.keep c ob q n hc hx) (a.free c ob q n hx) hc hx
  slot := fun c ob q n hc hx => by
    obtain ⟨sl, e1⟩ := a.slot c ob q n hc hx
    obtain ⟨sl', e2⟩ := b.slot c _ e1 (a.free c ob q n hx) hc hx
    exact ⟨sl', e2⟩
  free := fun c ob q n hx => by
    obtain ⟨o', e1⟩ := a.there c ob q hx
    exact b.free c o' e1 (a.free c ob q n hx) hx
  there := fun c ob q hx => by
    obtain ⟨o', e1⟩ := a.there c ob q hx
    exact b.there c o' e1 hx
  tups := fun c xs q => b.tups c xs (a.tups c xs q)
  frzs := fun c ob xs q => b.frzs c ob xs (a.frzs c ob xs q)
  tbls := fun c ps q => by
    obtain ⟨m1, e1⟩ := a.tbls c ps q
    obtain ⟨m2, e2⟩ := b.tbls c _ e1
    exact ⟨m1 ++ m2, by rw [e2, Array.append_assoc]⟩
theorem Un.kept (k : ∀ b u, h.get? b = some u → h'.get? b = some u) : Un fs ex H H h h' :=
  ⟨fun b ob q _ _ _ => k b ob q, fun b ob q _ _ _ => ⟨ob.slots, k b ob q⟩, fun _ _ _ n _ => n, fun b ob q _ => ⟨ob, k b ob q⟩, fun _ _ q => q, fun _ _ _ q => q, fun _ ps q => ⟨#[], by rw [q]; simp⟩⟩
theorem Un.refl : Un fs ex H H h h := Un.kept fun _ _ q => q
theorem Un.laid (k : ∀ b u, h.get? b = some u → h'.get? b = some u) (hp : h.objs.size ≤ a) (hn : H a = none) : Un fs ex H (upd H a o) h h' where
  keep := fun b u q _ _ _ => k b u q
  slot := fun b u q _ _ _ => ⟨u.slots, k b u q⟩
  free := fun b u q n _ => by rw [upd_ne (Nat.ne_of_lt (Nat.lt_of_lt_of_le (Heap.lt_size q) hp))]; exact n
  there := fun b u q _ => ⟨u, k b u q⟩
  tups := fun b xs q => by rw [upd_ne (ne_of_none q hn)]; exact q
  frzs := fun b u xs q => by rw [upd_ne (ne_of_none q hn)]; exact q
  tbls := fun b ps q => ⟨#[], by rw [upd_ne (ne_of_none q hn), q]; simp⟩
theorem Un.write (mu : Mut (H x)) (he : e = x ∨ H e = some (.own x)) (k : ∀ b u, b ≠ e → h.get? b = some u → h'.get? b = some u) (heo : ∃ u, h'.get? e = some u) : Un fs ex H (upd H x o) h h' := by
  have hx : ∀ b, H b = none → b ≠ x := fun b n z => by subst z; rw [n] at mu; exact mu
  have hb : ∀ b, H b = none → b ≠ e := fun b n z => by
    subst z
    rcases he with r | r
    · exact hx b n r
    · rw [n] at r; cases r
  have hm : ∀ b u, H b = some u → ¬ Mut (some u) → b ≠ x := fun b u q nm z => by subst z; rw [q] at mu; exact nm mu
  refine ⟨fun b u q n _ _ => k b u (hb b n) q, fun b u q n _ _ => ⟨u.slots, k b u (hb b n) q⟩, fun b u q n _ => by rw [upd_ne (hx b n)]; exact n, fun b u q _ => ?_,
    fun b xs q => by rw [upd_ne (hm b _ q fun z => z)]; exact q, fun b u xs q => by rw [upd_ne (hm b _ q fun z => z)]; exact q, fun b ps q => ⟨#[], by rw [upd_ne (hm b _ q fun z => z), q]; simp⟩⟩
  by_cases hbe : b = e
  · subst hbe; exact heo
  · exact ⟨u, k b u hbe q⟩
theorem Un.mono (u : Un fs ex H H1 h h1) (hs : ∀ b ∈ fs, b ∈ fs') (hx : ∀ b ∈ ex, b ∈ ex') : Un fs' ex' H H1 h h1 :=
  ⟨fun b ob q n hb he => u.keep b ob q n (fun z => hb (hs b z)) fun z => he (hx b z), fun _ _ q n _ he => u.any q n fun z => he (hx _ z), fun b ob q n he => u.free b ob q n fun z => he (hx b z), fun b ob q he => u.there b ob q fun z => he (hx b z), u.tups, u.frzs, u.tbls⟩
end
def trk (h : Heap) (H : Hp) : List Addr := (List.range h.objs.size).filter fun a => (H a).isSome
def hidT (h : Heap) (H : Hp) : Heap := PySem.W.hideAll h (trk h H)
theorem hidT_size (h : Heap) (H : Hp) : (hidT h H).objs.size = h.objs.size := PySem.W.hideAll_size _ _
theorem hidT_get {h : Heap} {H : Hp} {b : Addr} {o : Obj} (e : h.get? b = some o) (n : H b = none) : (hidT h H).get? b = some o :=
  PySem.W.hideAll_get _ e fun hm => by
    have q : (H b).isSome = true := (List.mem_filter.mp hm).2
    rw [n] at q; simp at q
theorem of_hidT {h : Heap} {H : Hp} {b : Addr} {o : Obj} (e : (hidT h H).get? b = some o) : h.get? b = some o ∧ H b = none := by
  have e' : h.get? b = some o := PySem.W.of_hideAll (trk h H) e
  refine ⟨e', ?_⟩
  cases q : H b with
  | none => rfl
  | some x =>
    have hm : b ∈ trk h H := List.mem_filter.mpr ⟨List.mem_range.mpr (Heap.lt_size e'), by simp [q]⟩
    have z : (hidT h H).get? b = none := PySem.W.hideAll_none (trk h H) hm
    rw [z] at e; cases e
def allNews (g h : Heap) (L : Addr) : List (Addr × Obj) := (List.range h.objs.size).filterMap fun a => if a = L ∨ (g.get? a).isSome = true then none else (h.get? a).map fun o => (a, o)
def rest (g h : Heap) (L d : Addr) : List (Addr × Obj) := (allNews g h L).filter fun p => decide (p.1 ≠ d)
end L2
namespace L2
open PySem PySem.Spec PyProof.Rows
structure Mod (K : PySem.W.Frag) (mg : Str → Option Value) (base : Heap) : Prop where
  kin : K.In base
  glob : base.Ns mainGlobals mg
  blt : ∃ mb, base.Ns builtinsNs mb ∧ ∀ x : Str, x ≠ "__name__" → mb x = bootBuiltins x
  nolimit : base.NoLimit
structure Cx where
  prog : Program
  w : World
  K : PySem.W.Frag
  mg : Str → Option Value
  base : Heap
  A : Around
  N : List Str
  s_0 : Shared
  H_0 : Hp
  env : Env
  outer : List Env
  stack : List Env
  ex : List Addr
  fn : Str → Bool
  calm : Bool
  pn : List (Addr × Obj)
  xe : Value → Shared → Prop
def frs (l : List Env) : List Addr := l.filterMap (·.frame)
abbrev Cx.fs (X : Cx) : List Addr := frs X.outer
def Vis (sc : Scope) (x : Str) : Prop := sc.names.lookup x = some .local ∨ sc.names.lookup x = some .cell ∨ sc.names.lookup x = some .free
def Loc (sc : Scope) (x : Str) : Prop := sc.names.lookup x = some .local ∨ sc.names.lookup x = some .cell
def Look (env : Env) (h : Heap) (m : Str → Option Value) (x : Str) (u : Value) : Prop :=
  (env.kindOf x = some .local ∧ m x = some u) ∨ ((env.kindOf x = some .cell ∨ env.kindOf x = some .free) ∧ ∃ c, env.cells.lookup x = some c ∧ h.IsCell c (some u))
structure Cx.Ok (X : Cx) : Prop where
  mod : Mod X.K X.mg X.base
  kind : X.env.scope.kind = .function
  glob : X.env.globals = mainGlobals
  blt : X.env.builtins = builtinsNs
  above : X.s_0.heap.objs.size ≤ X.env.locals
  inj : ∀ x y c, X.env.cells.lookup x = some c → X.env.cells.lookup y = some c → x = y
  has : ∀ x, (X.env.kindOf x = some .cell ∨ X.env.kindOf x = some .free) → ∃ c, X.env.cells.lookup x = some c
  cab : ∀ x c, X.fn x = true → X.env.cells.lookup x = some c → X.s_0.heap.objs.size ≤ c
  hd : X.calm = true → X.A.handled = none
  frames : X.A.frames = some X.stack
  stk : X.stack = X.outer ∨ (X.stack = X.env :: X.outer ∧ X.env.frame = some X.env.locals)
  exf : ∀ b ∈ X.ex, b ≠ X.env.locals ∧ ∀ x c, X.env.cells.lookup x = some c → c ≠ b
  bs : ∀ b o, X.base.get? b = some o → X.s_0.heap.get? b = some o ∧ X.H_0 b = none
  bsz : X.base.objs.size ≤ X.s_0.heap.objs.size
  noex : ∀ b o, X.base.get? b = some o → b ∉ X.ex
  exfs : ∀ b ∈ X.ex, b ∉ X.fs
  funs : X.s_0.heap.FunFrames X.base X.outer
  frf : ∀ b ∈ X.fs, X.H_0 b = none
structure Inv (X : Cx) (pins : List (Addr × Obj)) (σ : List (Option V)) (H : Hp) (s : Shared) : Prop where
  ok : X.Ok
  os : s.os = X.s_0.os
  bare : AllBare s.gens
  base : Un X.fs X.ex X.H_0 H X.s_0.heap s.heap
  loc : ∃ m, s.heap.Ns X.env.locals m ∧ ∀ (i : Nat) (x : Str) (v : V), X.N[i]? = some x → σ[i]? = some (some v) → Vis X.env.scope x → ∃ u, RelV v u ∧ Look X.env s.heap m x u
  cell : ∀ x c, X.env.cells.lookup x = some c → ∃ v, s.heap.IsCell c v
  free : H X.env.locals = none
  freeC : ∀ x c, X.env.cells.lookup x = some c → H c = none
  pin : ∀ p ∈ X.pn ++ pins, s.heap.get? p.1 = some p.2 ∧ H p.1 = none ∧ p.1 ≠ X.env.locals ∧ p.1 ∉ X.fs ∧ ∀ v, p.2.data ≠ .cell v
  hok : HOk X.prog X.w H s.heap
  len : σ.length = X.N.length
section
variable {X : Cx} {pins : List (Addr × Obj)} {σ : List (Option V)} {H H' : Hp} {s : Shared} {h' : Heap}
theorem Cx.Ok.nofr (ok : X.Ok) {b : Addr} {o : Obj} (e : X.base.get? b = some o) : b ∉ X.fs := fun hb => by
  have := (ok.funs.mem hb).1
  rw [e] at this; cases this
theorem Inv.bs (I : Inv X pins σ H s) : ∀ b o, X.base.get? b = some o → s.heap.get? b = some o ∧ H b = none := fun b o e =>
  ⟨I.base.keep b o (I.ok.bs b o e).1 (I.ok.bs b o e).2 (I.ok.nofr e) (I.ok.noex b o e), I.base.free b o (I.ok.bs b o e).1 (I.ok.bs b o e).2 (I.ok.noex b o e)⟩
theorem Inv.bk (I : Inv X pins σ H s) : ∀ b o, X.base.get? b = some o → s.heap.get? b = some o := fun b o e => (I.bs b o e).1
theorem Inv.mod (I : Inv X pins σ H s) : Mod X.K X.mg X.base := I.ok.mod
theorem Inv.kIn (I : Inv X pins σ H s) : X.K.In s.heap := I.ok.mod.kin.keeps I.bk
theorem Inv.nolimit (I : Inv X pins σ H s) : s.heap.NoLimit := I.ok.mod.nolimit.keeps I.bk
theorem Inv.fr (I : Inv X pins σ H s) : ∃ m, Fr X.base X.env.locals s.heap m :=
  let ⟨m, hn, _⟩ := I.loc
  ⟨m, hn, I.bk, Nat.le_trans I.ok.bsz I.ok.above⟩
theorem Inv.lt (I : Inv X pins σ H s) : X.env.locals < s.heap.objs.size := let ⟨_, hn, _⟩ := I.loc; hn.lt
theorem Inv.sz (I : Inv X pins σ H s) : X.s_0.heap.objs.size ≤ s.heap.objs.size := Nat.le_trans I.ok.above (Nat.le_of_lt I.lt)
theorem Inv.nofs (I : Inv X pins σ H s) {a : Addr} (h : s.heap.objs.size ≤ a) : a ∉ X.fs := fun hb => by
  obtain ⟨_, o, ho, _⟩ := I.ok.funs.mem hb
  exact absurd (Nat.lt_of_lt_of_le (Heap.lt_size ho) (Nat.le_trans I.sz h)) (Nat.lt_irrefl _)
theorem Inv.cne (I : Inv X pins σ H s) : ∀ x c, X.env.cells.lookup x = some c → c ≠ X.env.locals := fun x c e z => by
  obtain ⟨v, o, ho, hd⟩ := I.cell x c e
  obtain ⟨m, ⟨o', es, ep, ho', hd', _⟩, _⟩ := I.loc
  rw [z, ho'] at ho; cases ho; rw [hd'] at hd; cases hd
theorem Inv.funs (I : Inv X pins σ H s) : s.heap.FunFrames X.base X.outer := by
  have all : ∀ (l : List Env), (∀ b ∈ frs l, b ∈ X.fs) → X.s_0.heap.FunFrames X.base l → s.heap.FunFrames X.base l := by
    intro l
    induction l with
    | nil => intro _ _; trivial
    | cons env r ih =>
      intro hs hl
      obtain ⟨hk, ⟨L, o, hf, hn, ho, hd⟩, hr⟩ := hl
      have hL : L ∈ X.fs := hs L (by unfold frs; rw [List.filterMap_cons, hf]; exact List.mem_cons_self)
      obtain ⟨sl, e⟩ := I.base.slot L o ho (I.ok.frf L hL) hL fun z => I.ok.exfs L z hL
      exact ⟨hk, ⟨L, _, hf, hn, e, hd⟩, ih (fun b hb => hs b (by unfold frs; rw [List.filterMap_cons, hf]; exact List.mem_cons_of_mem _ hb)) hr⟩
  exact all X.outer (fun _ hb => hb) I.ok.funs
theorem Inv.stack (I : Inv X pins σ H s) : s.heap.FunFrames X.base X.stack := by
  rcases I.ok.stk with e | ⟨e, hf⟩
  · rw [e]; exact I.funs
  · rw [e]
    obtain ⟨m, hn, _⟩ := I.loc
    refine .cons (by rw [I.ok.kind]; decide) hf hn ?_ I.funs
    exact Heap.get?_none_of_le (Nat.le_trans I.ok.bsz I.ok.above)
theorem Inv.stkSub (I : Inv X pins σ H s) : ∀ b ∈ frs X.stack, b ∈ X.env.locals :: X.fs := fun b hb => by
  rcases I.ok.stk with e | ⟨e, hf⟩
  · rw [e] at hb; exact List.mem_cons_of_mem _ hb
  · rw [e] at hb
    unfold frs at hb
    rw [List.filterMap_cons, hf] at hb
    exact hb
theorem Inv.stkFree (I : Inv X pins σ H s) : ∀ b ∈ frs X.stack, H b = none := fun b hb => by
  rcases List.mem_cons.mp (I.stkSub b hb) with e | hb
  · rw [e]; exact I.free
  · obtain ⟨_, o, ho, _⟩ := I.ok.funs.mem hb
    exact I.base.free b o ho (I.ok.frf b hb) fun z => I.ok.exfs b z hb
theorem Inv.step {g' : Array GenState} {t' : Nat} {d' : Drawn} {ch : List Addr} (I : Inv X pins σ H s)
    (hch : ∀ b ∈ ch, (b ∈ X.ex ∨ X.s_0.heap.objs.size ≤ b) ∧ b ≠ X.env.locals ∧ (∀ x c, X.env.cells.lookup x = some c → c ≠ b) ∧ ∀ p ∈ X.pn ++ pins, p.1 ≠ b)
    (keep : ∀ b o, b ≠ X.env.locals → b ∉ X.fs → b ∉ ch → s.heap.get? b = some o → H b = none → h'.get? b = some o)
    (slot : ∀ b o, b ≠ X.env.locals → b ∈ X.fs → b ∉ ch → s.heap.get? b = some o → H b = none → ∃ sl, h'.get? b = some { o with slots := sl }) (free : ∀ b o, b ∉ ch → s.heap.get? b = some o → H b = none → H' b = none)
    (there : ∀ b o, b ∉ ch → s.heap.get? b = some o → ∃ o', h'.get? b = some o')
    (tups : ∀ b xs, H b = some (.tup xs) → H' b = some (.tup xs)) (frzs : ∀ b o u, H b = some (.frz o u) → H' b = some (.frz o u)) (tbls : ∀ b ps, H b = some (.tbl ps) → ∃ more, H' b = some (.tbl (ps ++ more)))
    (ns : ∀ m, s.heap.Ns X.env.locals m → h'.Ns X.env.locals m) (hok : HOk X.prog X.w H' h') (hg : AllBare g') :
    Inv X pins σ H' { s with heap := h', gens := g', drawn := d', toks := t' } := by
  have neL : ∀ b o, X.s_0.heap.get? b = some o → b ≠ X.env.locals := fun b o e => Nat.ne_of_lt (Nat.lt_of_lt_of_le (Heap.lt_size e) I.ok.above)
  have neC : ∀ b o, X.s_0.heap.get? b = some o → b ∉ X.ex → b ∉ ch := fun b o e hx hb => by
    rcases (hch b hb).1 with z | z
    · exact hx z
    · exact absurd (Nat.lt_of_lt_of_le (Heap.lt_size e) z) (Nat.lt_irrefl _)
  have cellK : ∀ x c, X.env.cells.lookup x = some c → ∀ v, s.heap.IsCell c v → h'.IsCell c v := fun x c e v ⟨o, ho, hd⟩ => by
    have nch : c ∉ ch := fun z => (hch c z).2.2.1 x c e rfl
    by_cases hc : c ∈ X.fs
    · obtain ⟨sl, q⟩ := slot c o (I.cne x c e) hc nch ho (I.freeC x c e)
      exact ⟨_, q, hd⟩
    · exact ⟨o, keep c o (I.cne x c e) hc nch ho (I.freeC x c e), hd⟩
  refine ⟨I.ok, I.os, hg, ⟨fun b o e n hb hx => ?_, fun b o e n hb hx => ?_, fun b o e n hx => ?_, fun b o e hx => ?_, fun b xs e => tups b xs (I.base.tups b xs e), fun b o xs e => frzs b o xs (I.base.frzs b o xs e), fun b ps e => ?_⟩, ?_, fun x c e => ?_, ?_, fun x c e => ?_, fun p hp => ?_, hok, I.len⟩
  · exact keep b o (neL b o e) hb (neC b o e hx) (I.base.keep b o e n hb hx) (I.base.free b o e n hx)
  · obtain ⟨sl, e1⟩ := I.base.slot b o e n hb hx
    obtain ⟨sl', e2⟩ := slot b _ (neL b o e) hb (neC b o e hx) e1 (I.base.free b o e n hx)
    exact ⟨sl', e2⟩
  · obtain ⟨o', e1⟩ := I.base.there b o e hx
    exact free b o' (neC b o e hx) e1 (I.base.free b o e n hx)
  · obtain ⟨o', e1⟩ := I.base.there b o e hx
    exact there b o' (neC b o e hx) e1
  · obtain ⟨m1, e1⟩ := I.base.tbls b ps e
    obtain ⟨m2, e2⟩ := tbls b _ e1
    exact ⟨m1 ++ m2, by rw [e2, Array.append_assoc]⟩
  · obtain ⟨m, hn, hl⟩ := I.loc
    refine ⟨m, ns m hn, fun i x v e1 e2 e3 => ?_⟩
    obtain ⟨u, r, l⟩ := hl i x v e1 e2 e3
    refine ⟨u, r, ?_⟩
    rcases l with l | ⟨k, c, e, z⟩
    · exact .inl l
    · exact .inr ⟨k, c, e, cellK x c e _ z⟩
  · obtain ⟨v, z⟩ := I.cell x c e
    exact ⟨v, cellK x c e v z⟩
  · obtain ⟨m, ⟨o, _, _, ho, _⟩, _⟩ := I.loc
    exact free _ o (fun z => (hch _ z).2.1 rfl) ho I.free
  · obtain ⟨v, o, ho, hd⟩ := I.cell x c e
    exact free c o (fun z => (hch c z).2.2.1 x c e rfl) ho (I.freeC x c e)
  · obtain ⟨e, n, ne, nf, d⟩ := I.pin p hp
    have nch : p.1 ∉ ch := fun z => (hch p.1 z).2.2.2 p hp rfl
    exact ⟨keep p.1 p.2 ne nf nch e n, free p.1 p.2 nch e n, ne, nf, d⟩
theorem Inv.un {t' : Nat} (I : Inv X pins σ H s) (u : Un X.fs [] H H' s.heap h') (hok : HOk X.prog X.w H' h') : Inv X pins σ H' { s with heap := h', toks := t' } := by
  obtain ⟨m, ⟨o, es, ep, ho, r⟩, _⟩ := id I.loc
  obtain ⟨sl, hL⟩ := u.any ho I.free (by simp)
  exact I.step (g' := s.gens) (d' := s.drawn) (ch := []) (fun _ z => nomatch z) (fun b o _ hb _ e n => u.keep b o e n hb (by simp)) (fun b o _ hb _ e n => u.slot b o e n hb (by simp)) (fun b o _ e n => u.free b o e n (by simp)) (fun b o _ e => u.there b o e (by simp)) u.tups u.frzs u.tbls (fun m' hm => by
    obtain ⟨o', es', ep', ho', r'⟩ := hm
    rw [ho] at ho'; cases ho'
    exact ⟨_, es', ep', hL, r'⟩) hok I.bare
theorem Inv.call {g' : Array GenState} {t' : Nat} {d' : Drawn} {ch : List Addr} (I : Inv X pins σ H s) (u : Un (frs X.stack) ch H H' s.heap h') (hok : HOk X.prog X.w H' h') (hg : AllBare g')
    (hch : ∀ b ∈ ch, (b ∈ X.ex ∨ X.s_0.heap.objs.size ≤ b) ∧ b ≠ X.env.locals ∧ (∀ x c, X.env.cells.lookup x = some c → c ≠ b) ∧ ∀ p ∈ X.pn ++ pins, p.1 ≠ b) :
    Inv X pins σ H' { s with heap := h', gens := g', drawn := d', toks := t' } := by
  obtain ⟨m, ⟨o, es, ep, ho, r⟩, _⟩ := id I.loc
  obtain ⟨sl, hL⟩ := u.any ho I.free fun z => (hch _ z).2.1 rfl
  exact I.step (ch := ch) hch (fun b o hL hb hc e n => u.keep b o e n (fun z => (List.mem_cons.mp (I.stkSub b z)).elim hL hb) hc) (fun b o _ _ hc e n => u.any e n hc) (fun b o hc e n => u.free b o e n hc) (fun b o hc e => u.there b o e hc) u.tups u.frzs u.tbls (fun m' hm => by
    obtain ⟨o', es', ep', ho', r'⟩ := hm
    rw [ho] at ho'; cases ho'
    exact ⟨_, es', ep', hL, r'⟩) hok hg
theorem Inv.turned {t' : Nat} {it : Addr} (I : Inv X pins σ H s) (k : ∀ b o, b ≠ it → s.heap.get? b = some o → h'.get? b = some o) (hn : H it = none) (hL : it ≠ X.env.locals)
    (h1 : it ∈ X.ex ∨ X.s_0.heap.objs.size ≤ it) (h2 : ∀ x c, X.env.cells.lookup x = some c → c ≠ it) (h3 : ∀ p ∈ X.pn ++ pins, p.1 ≠ it) : Inv X pins σ H { s with heap := h', toks := t' } := by
  have nit : ∀ b u, H b = some u → b ≠ it := fun b u e z => by rw [z, hn] at e; cases e
  refine I.step (g' := s.gens) (d' := s.drawn) (ch := [it]) (fun b hb => ?_) (fun b o _ _ hc e _ => k b o (fun z => hc (by simp [z])) e) (fun b o _ _ hc e _ => ⟨o.slots, k b o (fun z => hc (by simp [z])) e⟩) (fun _ _ _ _ n => n)
    (fun b o hc e => ⟨o, k b o (fun z => hc (by simp [z])) e⟩) (fun _ _ e => e) (fun _ _ _ e => e) (fun b ps e => ⟨#[], by rw [e]; simp⟩) (fun m hm => ?_) (fun b u e => ?_) I.bare
  · have e : b = it := by simpa using hb
    subst e
    exact ⟨h1, hL, h2, h3⟩
  · obtain ⟨o, es, ep, ho, r⟩ := hm
    exact ⟨o, es, ep, k _ o (Ne.symm hL) ho, r⟩
  · refine (I.hok b u e).stay (fun c v hc q => k c v ?_ q) (fun _ q => q) fun _ _ q => q
    rcases hc with z | z
    · rw [z]; exact nit b u e
    · exact nit c _ z
theorem Inv.tok (I : Inv X pins σ H s) (t : Nat) : Inv X pins σ H { s with toks := t } := I.un (h' := s.heap) (t' := t) Un.refl I.hok
theorem Inv.kept {t' : Nat} (I : Inv X pins σ H s) (k : ∀ b u, s.heap.get? b = some u → h'.get? b = some u) : Inv X pins σ H { s with heap := h', toks := t' } := I.un (Un.kept k) (I.hok.kept k)
theorem Inv.laid {a : Addr} {o : HO} {t' : Nat} (I : Inv X pins σ H s) (k : ∀ b u, s.heap.get? b = some u → h'.get? b = some u) (hp : s.heap.objs.size ≤ a) (new : ObjOk X.prog X.w (upd H a o) h' a o) :
    Inv X pins σ (upd H a o) { s with heap := h', toks := t' } := I.un (Un.laid k hp (I.hok.fresh hp)) (I.hok.laid k hp new)
theorem Inv.write {x e : Addr} {o : HO} {t' : Nat} (I : Inv X pins σ H s) (mu : Mut (H x)) (he : e = x ∨ H e = some (.own x)) (k : ∀ b u, b ≠ e → s.heap.get? b = some u → h'.get? b = some u) (heo : ∃ u, h'.get? e = some u)
    (new : ObjOk X.prog X.w (upd H x o) h' x o) : Inv X pins σ (upd H x o) { s with heap := h', toks := t' } := I.un (Un.write mu he k heo) (I.hok.write mu he k heo new)
theorem Inv.weak {σ' : List (Option V)} (I : Inv X pins σ H s) (hl : σ'.length = σ.length) (w : ∀ (i : Nat) v, σ'[i]? = some (some v) → σ[i]? = some (some v)) : Inv X pins σ' H s :=
  ⟨I.ok, I.os, I.bare, I.base, let ⟨m, hn, hl'⟩ := I.loc; ⟨m, hn, fun i x v e1 e2 e3 => hl' i x v e1 (w i v e2) e3⟩, I.cell, I.free, I.freeC, I.pin, I.hok, hl.trans I.len⟩
theorem Inv.pins_of {pins' : List (Addr × Obj)} (I : Inv X pins σ H s) (h : ∀ p ∈ pins', s.heap.get? p.1 = some p.2 ∧ H p.1 = none ∧ p.1 ≠ X.env.locals ∧ p.1 ∉ X.fs ∧ ∀ v, p.2.data ≠ .cell v) : Inv X pins' σ H s :=
  ⟨I.ok, I.os, I.bare, I.base, I.loc, I.cell, I.free, I.freeC, fun p hp => (List.mem_append.mp hp).elim (fun z => I.pin p (List.mem_append_left _ z)) (h p), I.hok, I.len⟩
theorem nodup_ix {N : List Str} (hN : N.Nodup) {i j : Nat} {x : Str} (a : N[i]? = some x) (b : N[j]? = some x) : i = j := by
  obtain ⟨h1, e1⟩ := List.getElem?_eq_some_iff.mp a
  obtain ⟨h2, e2⟩ := List.getElem?_eq_some_iff.mp b
  exact (List.getElem_inj hN).mp (e1.trans e2.symm)
theorem store_ok2 {M : Model} {A : Around} {E : Value → Shared → Prop} {i : Nat} {x : Str} {v : V} {u : Value} {Q : Unit → Shared → Prop} (I : Inv X pins σ H s) (hN : X.N.Nodup) (hi : X.N[i]? = some x) (hx : Loc X.env.scope x) (r : RelV v u)
    (h : ∀ s', Inv X pins (σ.set i (some v)) H s' → (∃ a, Heap.SameBut a s.heap s'.heap ∧ (a = X.env.locals ∨ X.env.cells.lookup x = some a)) → Q () s') (hf : X.fn x = true ∨ X.env.scope.names.lookup x = some .local := by first | exact .inl rfl | exact .inr rfl | assumption) : wpAny M A (storeName X.env x u) Q E s := by
  obtain ⟨m, hn, hl⟩ := id I.loc
  have hcls : (X.env.scope.kind == .class || (X.env.scope.kind == .module && X.env.locals != X.env.globals)) = false := by rw [I.ok.kind]; rfl
  have hiσ : i < σ.length := by rw [I.len]; exact (List.getElem?_eq_some_iff.mp hi).1
  have cne := I.cne
  have tracked : ∀ {a : Addr} {h' : Heap}, (∃ o, s.heap.get? a = some o ∧ H a = none) → Heap.SameBut a s.heap h' → HOk X.prog X.w H h' := fun {a h'} ha hs b ob e => by
    obtain ⟨_, _, hfree⟩ := ha
    refine (I.hok b ob e).stay (fun c w' hc q => (hs.2 c ?_).trans q) (fun _ q => q) fun _ _ q => q
    rintro rfl
    rcases hc with rfl | hc
    · rw [hfree] at e; cases e
    · rw [hfree] at hc; cases hc
  rcases hx with hk | hk
  · refine wpAny_storeName_local hk hn (fun h' hn' hs => ?_) hcls
    obtain ⟨oL, _, _, hoL, _⟩ := id hn
    refine h _ ⟨I.ok, I.os, I.bare, ⟨fun b o e n hb hx => ?_, fun b o e n hb hx => ?_, I.base.free, fun b o e hx => ?_, I.base.tups, I.base.frzs, I.base.tbls⟩, ⟨_, hn', fun j y v' e1 e2 e3 => ?_⟩, fun y c e => ?_, I.free, I.freeC, fun p hp => ?_, tracked ⟨oL, hoL, I.free⟩ hs, by simpa using I.len⟩ ⟨_, hs, .inl rfl⟩
    · exact (hs.2 b (Nat.ne_of_lt (Nat.lt_of_lt_of_le (Heap.lt_size e) I.ok.above))).trans (I.base.keep b o e n hb hx)
    · obtain ⟨sl, e1⟩ := I.base.slot b o e n hb hx
      exact ⟨sl, (hs.2 b (Nat.ne_of_lt (Nat.lt_of_lt_of_le (Heap.lt_size e) I.ok.above))).trans e1⟩
    · obtain ⟨o', e1⟩ := I.base.there b o e hx
      exact ⟨o', (hs.2 b (Nat.ne_of_lt (Nat.lt_of_lt_of_le (Heap.lt_size e) I.ok.above))).trans e1⟩
    · by_cases hj : j = i
      · subst hj
        rw [hi] at e1; cases e1
        rw [List.getElem?_set_self hiσ] at e2
        cases e2
        exact ⟨u, r, .inl ⟨hk, by simp⟩⟩
      · rw [List.getElem?_set_ne (Ne.symm hj)] at e2
        obtain ⟨u', r', q⟩ := hl j y v' e1 e2 e3
        refine ⟨u', r', ?_⟩
        rcases q with ⟨k, e⟩ | ⟨k, c, e, z⟩
        · refine .inl ⟨k, ?_⟩
          have : y ≠ x := fun e => hj (nodup_ix hN e1 (e ▸ hi))
          simp [this, e]
        · exact .inr ⟨k, c, e, z.sameBut hs (cne y c e)⟩
    · obtain ⟨w', z⟩ := I.cell y c e
      exact ⟨w', z.sameBut hs (cne y c e)⟩
    · obtain ⟨e, n, ne, nf, d⟩ := I.pin p hp
      exact ⟨(hs.2 p.1 ne).trans e, n, ne, nf, d⟩
  · have hfn : X.fn x = true := by
      rcases hf with z | z
      · exact z
      · rw [z] at hk; cases hk
    obtain ⟨c, hc⟩ := I.ok.has x (.inl hk)
    obtain ⟨w', z⟩ := I.cell x c hc
    refine wpAny_storeName_cell I.ok.kind hk hc z (fun h' hc' hs => ?_)
    obtain ⟨oc, hoc, hocd⟩ := id z
    refine h { s with heap := h' } ⟨I.ok, I.os, I.bare, ⟨fun b o e n hb hx => ?_, fun b o e n hb hx => ?_, I.base.free, fun b o e hx => ?_, I.base.tups, I.base.frzs, I.base.tbls⟩, ⟨m, hn.sameBut hs (Ne.symm (cne x c hc)), fun j y v' e1 e2 e3 => ?_⟩, fun y c' e => ?_, I.free, I.freeC, fun p hp => ?_, tracked ⟨oc, hoc, I.freeC x c hc⟩ hs, by simpa using I.len⟩ ⟨c, hs, .inr hc⟩
    · exact (hs.2 b (Nat.ne_of_lt (Nat.lt_of_lt_of_le (Heap.lt_size e) (I.ok.cab x c hfn hc)))).trans (I.base.keep b o e n hb hx)
    · obtain ⟨sl, e1⟩ := I.base.slot b o e n hb hx
      exact ⟨sl, (hs.2 b (Nat.ne_of_lt (Nat.lt_of_lt_of_le (Heap.lt_size e) (I.ok.cab x c hfn hc)))).trans e1⟩
    · obtain ⟨o', e1⟩ := I.base.there b o e hx
      exact ⟨o', (hs.2 b (Nat.ne_of_lt (Nat.lt_of_lt_of_le (Heap.lt_size e) (I.ok.cab x c hfn hc)))).trans e1⟩
    · by_cases hj : j = i
      · subst hj
        rw [hi] at e1; cases e1
        rw [List.getElem?_set_self hiσ] at e2
        cases e2
        exact ⟨u, r, .inr ⟨.inl hk, c, hc, hc'⟩⟩
      · rw [List.getElem?_set_ne (Ne.symm hj)] at e2
        obtain ⟨u', r', q⟩ := hl j y v' e1 e2 e3
        refine ⟨u', r', ?_⟩
        rcases q with q | ⟨k, c', e, z'⟩
        · exact .inl q
        · refine .inr ⟨k, c', e, z'.sameBut hs ?_⟩
          rintro rfl
          exact hj (nodup_ix hN e1 (I.ok.inj _ _ _ e hc ▸ hi))
    · by_cases hcc : c' = c
      · subst hcc; exact ⟨_, hc'⟩
      · obtain ⟨w2, z2⟩ := I.cell y c' e
        exact ⟨w2, z2.sameBut hs hcc⟩
    · obtain ⟨e, n, ne, nf, d⟩ := I.pin p hp
      refine ⟨(hs.2 p.1 ?_).trans e, n, ne, nf, d⟩
      intro q
      rw [q, hoc] at e
      have q' : oc = p.2 := Option.some.inj e
      exact d w' (by rw [← q']; exact hocd)
theorem store_ok {M : Model} {A : Around} {E : Value → Shared → Prop} {i : Nat} {x : Str} {v : V} {u : Value} {Q : Unit → Shared → Prop} (I : Inv X pins σ H s) (hN : X.N.Nodup) (hi : X.N[i]? = some x) (hx : Loc X.env.scope x) (r : RelV v u)
    (h : ∀ s', Inv X pins (σ.set i (some v)) H s' → Q () s') (hf : X.fn x = true ∨ X.env.scope.names.lookup x = some .local := by first | exact .inl rfl | exact .inr rfl | assumption) : wpAny M A (storeName X.env x u) Q E s :=
  store_ok2 I hN hi hx r (fun s' I' _ => h s' I') hf
theorem Inv.call' {s' : Shared} {ch : List Addr} (I : Inv X pins σ H s) (ho : s'.os = s.os) (u : Un (frs X.stack) ch H H' s.heap s'.heap) (hok : HOk X.prog X.w H' s'.heap) (hg : AllBare s'.gens)
    (hch : ∀ b ∈ ch, (b ∈ X.ex ∨ X.s_0.heap.objs.size ≤ b) ∧ b ≠ X.env.locals ∧ (∀ x c, X.env.cells.lookup x = some c → c ≠ b) ∧ ∀ p ∈ X.pn ++ pins, p.1 ≠ b) : Inv X pins σ H' s' := by
  obtain ⟨h', g', d', t', o'⟩ := s'
  have e : o' = s.os := ho
  subst e
  exact I.call (g' := g') (t' := t') (d' := d') u hok hg hch
end
abbrev XK := Value → Option Addr → Hp → Prop
abbrev St := List (Option V)
abbrev VK := V → Hp → Prop
abbrev TE := St → Hp → VK → Prop
abbrev TT := St → Hp → (Bool → Hp → Prop) → Prop
abbrev TA := St → Hp → (List V → Hp → Prop) → Prop
structure Ends where
  nx : St → Hp → Prop
  rt : VK
  bk : St → Hp → Prop := fun _ _ => False
  ct : St → Hp → Prop := fun _ _ => False
abbrev TS := Ends → St → Hp → Prop
def EP (X : Cx) (pins : List (Addr × Obj)) (σ : St) (Q : VK) (u : Value) (s' : Shared) : Prop := ∃ v H', Inv X pins σ H' s' ∧ RelV v u ∧ Q v H'
def TP (X : Cx) (pins : List (Addr × Obj)) (σ : St) (Q : Bool → Hp → Prop) (b : Bool) (s' : Shared) : Prop := ∃ H', Inv X pins σ H' s' ∧ Q b H'
def AP (X : Cx) (pins : List (Addr × Obj)) (σ : St) (Q : List V → Hp → Prop) (us : List Value) (s' : Shared) : Prop := ∃ vs H', Inv X pins σ H' s' ∧ Vals vs us ∧ Q vs H'
def SP (X : Cx) (pins : List (Addr × Obj)) (D : Ends) (f : Flow) (s' : Shared) : Prop :=
  match f with
  | .next => ∃ σ' H', Inv X pins σ' H' s' ∧ D.nx σ' H'
  | .brk => ∃ σ' H', Inv X pins σ' H' s' ∧ D.bk σ' H'
  | .cont => ∃ σ' H', Inv X pins σ' H' s' ∧ D.ct σ' H'
  | .ret u => ∃ v σ' H', Inv X pins σ' H' s' ∧ RelV v u ∧ D.rt v H'
def PE (X : Cx) (e : Expr) (t : TE) : Prop :=
  ∀ (pins : List (Addr × Obj)) (s : Shared) (σ : St) (H : Hp) (Q : VK), Inv X pins σ H s → t σ H Q → wpAny (model X.prog X.w) X.A (eval e X.env) (EP X pins σ Q) X.xe s
def PT (X : Cx) (e : Expr) (t : TT) : Prop :=
  ∀ (pins : List (Addr × Obj)) (s : Shared) (σ : St) (H : Hp) (Q : Bool → Hp → Prop), Inv X pins σ H s → t σ H Q → wpAny (model X.prog X.w) X.A (isTrue e X.env (eval e X.env)) (TP X pins σ Q) X.xe s
def PW (X : Cx) (e : Expr) (t : TT) : Prop :=
  ∀ (whole : Sem Value) (pins : List (Addr × Obj)) (s : Shared) (σ : St) (H : Hp) (Q : Bool → Hp → Prop), Inv X pins σ H s → t σ H Q → wpAny (model X.prog X.w) X.A (isTrue e X.env whole) (TP X pins σ Q) X.xe s
theorem PW.pt {X : Cx} {e : Expr} {t : TT} (h : PW X e t) : PT X e t := h _
def PA (X : Cx) (es : List Expr) (t : TA) : Prop :=
  ∀ (pos : Pos) (pins : List (Addr × Obj)) (s : Shared) (σ : St) (H : Hp) (Q : List V → Hp → Prop), Inv X pins σ H s → t σ H Q → wpAny (model X.prog X.w) X.A (spliced (backTo pos (starEach es X.env))) (AP X pins σ Q) X.xe s
def PS (X : Cx) (st : Stmt) (t : TS) : Prop :=
  ∀ (pins : List (Addr × Obj)) (s : Shared) (σ : St) (H : Hp) (D : Ends), Inv X pins σ H s → t D σ H → wpAny (model X.prog X.w) X.A (exec st X.env) (SP X pins D) X.xe s
def PSs (X : Cx) (st : List Stmt) (t : TS) : Prop :=
  ∀ (pins : List (Addr × Obj)) (s : Shared) (σ : St) (H : Hp) (D : Ends), Inv X pins σ H s → t D σ H → wpAny (model X.prog X.w) X.A (execs st X.env) (SP X pins D) X.xe s
theorem thn {α : Type} {t : Sem α} {Q Q' : α → Shared → Prop} {M : Model} {A : Around} {E : Value → Shared → Prop} {s : Shared} (h : wpAny M A t Q E s) (hQ : ∀ a s, Q a s → Q' a s) : wpAny M A t Q' E s := wpAny_mono h hQ fun _ _ x => x
end L2
namespace L2
open PySem PySem.Spec PyProof.Rows
section
variable {X : Cx}
def tVar (i : Nat) : TE := fun σ H Q => ∃ v, σ[i]? = some (some v) ∧ Q v H
def tC (v : V) : TE := fun _ H Q => Q v H
theorem pe_var {i : Nat} {x : Str} {pos : Pos} (hN : X.N[i]? = some x) (hv : Vis X.env.scope x) (hd : (x == ("__debug__" : Str)) = false := by decide) (hcd : (x == ("__classdict__" : Str)) = false := by decide) : PE X (.Name x pos) (tVar i) := by
  intro pins s σ H Q I h
  obtain ⟨v, e, h⟩ := h
  obtain ⟨m, hn, hl⟩ := I.loc
  obtain ⟨u, r, l⟩ := hl i x v hN e hv
  have fin : EP X pins σ Q u s := ⟨v, H, I, r, h⟩
  rcases l with ⟨hk, hm⟩ | ⟨hk, c, hc, hcell⟩
  · exact wpAny_Name (wpAny_loadName_local I.ok.kind hk hn hm fin) hd
  · rcases hk with hk | hk
    · exact wpAny_Name (wpAny_loadName_cell I.ok.kind hk hc hcell fin) hd
    · exact wpAny_Name (wpAny_loadName_free I.ok.kind hk hc hcell fin hcd) hd
theorem pe_int {i j pos} : PE X (.Constant (.int i) j pos) (tC (.int i)) := fun _ _ _ H _ I h => wpAny_Constant_int ⟨.int i, H, I.tok _, ⟨_, rfl⟩, h⟩
theorem pe_bl {b j pos} : PE X (.Constant (.bool b) j pos) (tC (.bl b)) := fun _ _ _ H _ I h => Constant_bool ⟨.bl b, H, I, rfl, h⟩
theorem pe_non {j pos} : PE X (.Constant .none j pos) (tC .non) := fun _ _ _ H _ I h => Constant_none ⟨.non, H, I, rfl, h⟩
theorem pe_str {x j pos} : PE X (.Constant (.str x) j pos) (tC (.str x)) := fun _ _ _ H _ I h => Calls.Constant_str ⟨.str x, H, I.tok _, ⟨_, rfl⟩, h⟩
def Gl (X : Cx) (x : Str) : Prop := X.env.kindOf x = some .globalImplicit
theorem ld_glob {E : Value → Shared → Prop} {pins : List (Addr × Obj)} {s : Shared} {σ : St} {H : Hp} {x : Str} {u : Value} {pos : Pos} {Q : Value → Shared → Prop} (I : Inv X pins σ H s) (hg : Gl X x) (hm : X.mg x = some u) (h : Q u s)
    (hd : (x == ("__debug__" : Str)) = false := by decide) : wpAny (model X.prog X.w) X.A (eval (.Name x pos) X.env) Q E s :=
  Calls.Name_function_global I.ok.kind hg (Calls.loadGlobal_global (by rw [I.ok.glob]; exact I.mod.glob.keeps I.bk) hm h) hd
theorem ld_blt {E : Value → Shared → Prop} {pins : List (Addr × Obj)} {s : Shared} {σ : St} {H : Hp} {x : Str} {u : Value} {pos : Pos} {Q : Value → Shared → Prop} (I : Inv X pins σ H s) (hg : Gl X x) (hm : X.mg x = none) (hv : bootBuiltins x = some u) (h : Q u s)
    (hn : x ≠ "__name__" := by decide) (hd : (x == ("__debug__" : Str)) = false := by decide) : wpAny (model X.prog X.w) X.A (eval (.Name x pos) X.env) Q E s := by
  obtain ⟨mb, h1, h2⟩ := I.mod.blt
  exact Calls.Name_function_global I.ok.kind hg (Calls.loadGlobal_builtin (by rw [I.ok.glob]; exact I.mod.glob.keeps I.bk) hm (by rw [I.ok.blt]; exact h1.keeps I.bk) ((h2 x hn).trans hv) h) hd
theorem pe_glob {x : Str} {v : V} {u : Value} {pos : Pos} (hg : Gl X x) (hm : X.mg x = some u) (r : RelV v u) (hd : (x == ("__debug__" : Str)) = false := by decide) : PE X (.Name x pos) (tC v) :=
  fun _ _ _ H _ I h => ld_glob I hg hm ⟨v, H, I, r, h⟩ hd
theorem pe_bltn {x : Str} {v : V} {u : Value} {pos : Pos} (hg : Gl X x) (hm : X.mg x = none) (hv : bootBuiltins x = some u) (r : RelV v u) (hn : x ≠ "__name__" := by decide) (hd : (x == ("__debug__" : Str)) = false := by decide) : PE X (.Name x pos) (tC v) :=
  fun _ _ _ H _ I h => ld_blt I hg hm hv ⟨v, H, I, r, h⟩ hn hd
variable {a b : Expr} {ta tb : TE} {pos : Pos}
def PC (X : Cx) (op : CmpOp) (a b : Expr) (t : TE) : Prop :=
  ∀ (pins : List (Addr × Obj)) (s : Shared) (σ : St) (H : Hp) (Q : VK), Inv X pins σ H s → t σ H Q →
    wpAny (model X.prog X.w) X.A (eval a X.env) (fun v s₁ => wpAny (model X.prog X.w) X.A (eval b X.env) (fun u s₂ => wpAny (model X.prog X.w) X.A (compareOp op v u) (EP X pins σ Q) X.xe s₂) X.xe s₁) X.xe s
theorem nobehind (b : Expr) {op : CmpOp} (h : op ≠ .In) (h2 : op ≠ .NotIn) : behindInMarks op b = false := by
  have e1 : (op == CmpOp.In) = false := by cases op <;> first | rfl | exact absurd rfl h
  have e2 : (op == CmpOp.NotIn) = false := by cases op <;> first | rfl | exact absurd rfl h2
  cases b <;> simp [behindInMarks, e1, e2]
def tB (t : TE) : TT := fun σ H Q => t σ H fun x H1 => ∃ c, x = .bl c ∧ Q c H1
theorem pt_cmp {op : CmpOp} {t : TE} (h : PC X op a b t) (h1 : behindInMarks op b = false := by first | exact nobehind _ (by decide) (by decide) | rfl) : PT X (.Compare a [op] [b] pos) (tB t) := by
  intro pins s σ H Q I hw
  refine wpAny_isTrue_Compare1 (thn (h pins s σ H _ I hw) fun v s1 h1 => thn h1 fun u s2 h2 => thn h2 fun c s3 ⟨x, H1, I1, r1, q1⟩ => ?_) h1
  obtain ⟨d, rfl, q⟩ := q1
  cases r1
  exact wpAny_truthy_bool ⟨H1, I1, q⟩
theorem pt_val {e : Expr} {t : TE} (h : PE X e t) (he : ∀ whole, isTrue e X.env whole = (do let v ← whole; standAt e.pos; holding [v] (truthy v)) := by intro _; rfl) : PT X e (tB t) := by
  intro pins s σ H Q I hw
  refine isTrue_plain (thn (h pins s σ H _ I hw) fun v s1 ⟨x, H1, I1, r1, q1⟩ => ?_) (he _)
  obtain ⟨d, rfl, q⟩ := q1
  cases r1
  exact wpAny_truthy_bool ⟨H1, I1, q⟩
variable {tA tB' : TT} {rest : List Expr}
def tAnd (t u : TT) : TT := fun σ H Q => t σ H fun c H1 => if c = true then u σ H1 Q else Q false H1
def tOr (t u : TT) : TT := fun σ H Q => t σ H fun c H1 => if c = true then Q true H1 else u σ H1 Q
def tNot (t : TT) : TT := fun σ H Q => t σ H fun c H1 => Q (!c) H1
theorem pw_and1 (ha : PT X a tA) : PW X (.BoolOp .And [a] pos) tA := by
  intro wh pins s σ H Q I h
  refine isTrue_and (thn (ha pins s σ H Q I h) fun c s1 e => ?_)
  cases c with
  | true => exact isTrue_and_nil e
  | false => exact e
theorem pw_or1 (ha : PT X a tA) : PW X (.BoolOp .Or [a] pos) tA := by
  intro wh pins s σ H Q I h
  refine isTrue_or (thn (ha pins s σ H Q I h) fun c s1 e => ?_)
  cases c with
  | false => exact isTrue_or_nil e
  | true => exact e
theorem pw_and (ha : PT X a tA) (hb : PW X (.BoolOp .And (b :: rest) pos) tB') : PW X (.BoolOp .And (a :: b :: rest) pos) (tAnd tA tB') := by
  intro wh pins s σ H Q I h
  refine isTrue_and (thn (ha pins s σ H _ I h) fun c s1 ⟨H1, I1, q1⟩ => ?_)
  cases c with
  | true => exact hb wh pins s1 σ H1 Q I1 q1
  | false => exact ⟨H1, I1, q1⟩
theorem pw_or (ha : PT X a tA) (hb : PW X (.BoolOp .Or (b :: rest) pos) tB') : PW X (.BoolOp .Or (a :: b :: rest) pos) (tOr tA tB') := by
  intro wh pins s σ H Q I h
  refine isTrue_or (thn (ha pins s σ H _ I h) fun c s1 ⟨H1, I1, q1⟩ => ?_)
  cases c with
  | true => exact ⟨H1, I1, q1⟩
  | false => exact hb wh pins s1 σ H1 Q I1 q1
theorem pt_not (ha : PT X a tA) : PT X (.UnaryOp .Not a pos) (tNot tA) := by
  intro pins s σ H Q I h
  exact isTrue_not (ha pins s σ H (fun c H1 => Q (!c) H1) I h)
def tIf (t : TT) (ta tb : TE) : TE := fun σ H Q => t σ H fun c H1 => if c = true then ta σ H1 Q else tb σ H1 Q
theorem pe_ifExp {c : Expr} (hc : PT X c tA) (ha : PE X a ta) (hb : PE X b tb) : PE X (.IfExp c a b pos) (tIf tA ta tb) := by
  intro pins s σ H Q I h
  refine wpAny_IfExp (thn (hc pins s σ H _ I h) fun d s1 ⟨H1, I1, q1⟩ => ?_)
  cases d with
  | true => exact ha pins s1 σ H1 Q I1 q1
  | false => exact hb pins s1 σ H1 Q I1 q1
end
end L2
namespace L2
open PySem PySem.Spec PyProof.Rows
def SqL (K : PySem.W.Frag) (H : Hp) (a : Addr) (xs : List V) : Prop :=
  Rd H a (.lst xs) ∨
    ∃ (o : Obj) (its : Array Value) (n : Nat), K.lookup a = some o ∧ o.cls = .type "list" ∧ o.dict = none ∧ o.data = .seq its n ∧ its.size ≤ sizeLine ∧ Vals xs its.toList
def SqT (K : PySem.W.Frag) (H : Hp) (a : Addr) (xs : List V) : Prop :=
  Rd H a (.tup xs) ∨
    ∃ (o : Obj) (its : Array Value) (n : Nat), K.lookup a = some o ∧ o.cls = .type "tuple" ∧ o.data = .seq its n ∧ its.size ≤ sizeLine ∧ Vals xs its.toList
def absV : Value → Option V
  | .none => some .non
  | .bool b => some (.bl b)
  | .int i _ => some (.int i)
  | .str x _ => some (.str x)
  | .bytes b _ => some (.byt b)
  | .float b _ => some (.flt b)
  | .ref a => some (.ref a)
  | .type n => some (.ty n)
  | _ => none
theorem RelV.abs {x : V} {u : Value} (r : RelV x u) : absV u = some x := by
  cases x with
  | non => cases r; rfl
  | bl _ => cases r; rfl
  | int _ => obtain ⟨t, rfl⟩ := r; rfl
  | str _ => obtain ⟨t, rfl⟩ := r; rfl
  | byt _ => obtain ⟨t, rfl⟩ := r; rfl
  | flt _ => obtain ⟨t, rfl⟩ := r; rfl
  | ref _ => cases r; rfl
  | ty _ => cases r; rfl
theorem RelV.inj {x y : V} {u : Value} (r : RelV x u) (q : RelV y u) : x = y := Option.some.inj (r.abs.symm.trans q.abs)
theorem Vals.inj : ∀ {xs ys : List V} {us : List Value}, Vals xs us → Vals ys us → xs = ys
  | _, _, _, .nil, .nil => rfl
  | _, _, _, .cons r t, .cons r' t' => by rw [r.inj r', Vals.inj t t']
section
variable {X : Cx} {pins : List (Addr × Obj)} {σ : St} {H : Hp} {s : Shared} {a : Addr} {xs ys : List V}
theorem SqL.of {K : PySem.W.Frag} (h : H a = some (.lst xs)) : SqL K H a xs := .inl (.inl h)
theorem SqT.of {K : PySem.W.Frag} (h : H a = some (.tup xs)) : SqT K H a xs := .inl (.inl h)
theorem Inv.list (I : Inv X pins σ H s) (h : SqL X.K H a xs) : ∃ its : List Value, Vals xs its ∧ PlainL s.heap a its.toArray ∧ xs.length ≤ sizeLine := by
  rcases h with h | ⟨o, its, n, hk, hc, hd, hs, hz, r⟩
  · obtain ⟨z, its, n, r, e⟩ := h.ok I.hok
    exact ⟨its, r, ⟨_, n, e, rfl, rfl, rfl⟩, z⟩
  · refine ⟨its.toList, r, ⟨o, n, I.kIn a o hk, hc, hd, by simpa using hs⟩, ?_⟩
    have e := r.length
    simp only [Array.length_toList] at e
    omega
theorem Inv.tuple (I : Inv X pins σ H s) (h : SqT X.K H a xs) : ∃ its : List Value, Vals xs its ∧ IsTup s.heap a its.toArray ∧ xs.length ≤ sizeLine := by
  rcases h with h | ⟨o, its, n, hk, hc, hs, hz, r⟩
  · obtain ⟨z, its, r, p⟩ := h.ok I.hok
    exact ⟨its, r, p.is, z⟩
  · refine ⟨its.toList, r, ⟨o, I.kIn a o hk, hc, n, by simpa using hs⟩, ?_⟩
    have e := r.length
    simp only [Array.length_toList] at e
    omega
theorem Inv.list_inj (I : Inv X pins σ H s) (h : SqL X.K H a xs) (h' : SqL X.K H a ys) : xs = ys := by
  obtain ⟨its, r, ⟨o, n, e, _, _, d⟩, _⟩ := I.list h
  obtain ⟨its', r', ⟨o', n', e', _, _, d'⟩, _⟩ := I.list h'
  rw [e] at e'; cases e'
  rw [d] at d'
  injection d' with d1 _
  have : its = its' := by simpa using congrArg Array.toList d1
  subst this
  exact r.inj r'
theorem Inv.tuple_inj (I : Inv X pins σ H s) (h : SqT X.K H a xs) (h' : SqT X.K H a ys) : xs = ys := by
  obtain ⟨its, r, ⟨o, e, _, n, d⟩, _⟩ := I.tuple h
  obtain ⟨its', r', ⟨o', e', _, n', d'⟩, _⟩ := I.tuple h'
  rw [e] at e'; cases e'
  rw [d] at d'
  injection d' with d1 _
  have : its = its' := by simpa using congrArg Array.toList d1
  subst this
  exact r.inj r'
end
abbrev Cx.wish (X : Cx) (E : Value → Shared → Prop) : Cx := { X with xe := E }
abbrev Cx.nox (X : Cx) : Cx := X.wish fun _ _ => False
theorem Cx.Ok.wish {X : Cx} (ok : X.Ok) (E : Value → Shared → Prop) : (X.wish E).Ok :=
  ⟨ok.mod, ok.kind, ok.glob, ok.blt, ok.above, ok.inj, ok.has, ok.cab, ok.hd, ok.frames, ok.stk, ok.exf, ok.bs, ok.bsz, ok.noex, ok.exfs, ok.funs, ok.frf⟩
theorem Cx.Ok.unwish {X : Cx} {E : Value → Shared → Prop} (ok : (X.wish E).Ok) : X.Ok :=
  ⟨ok.mod, ok.kind, ok.glob, ok.blt, ok.above, ok.inj, ok.has, ok.cab, ok.hd, ok.frames, ok.stk, ok.exf, ok.bs, ok.bsz, ok.noex, ok.exfs, ok.funs, ok.frf⟩
section
variable {X : Cx} {pins : List (Addr × Obj)} {σ : St} {H : Hp} {s : Shared} {E : Value → Shared → Prop}
theorem Inv.wish (I : Inv X pins σ H s) (E : Value → Shared → Prop) : Inv (X.wish E) pins σ H s := ⟨I.ok.wish E, I.os, I.bare, I.base, I.loc, I.cell, I.free, I.freeC, I.pin, I.hok, I.len⟩
theorem Inv.unwish (I : Inv (X.wish E) pins σ H s) : Inv X pins σ H s := ⟨I.ok.unwish, I.os, I.bare, I.base, I.loc, I.cell, I.free, I.freeC, I.pin, I.hok, I.len⟩
theorem SP.unwish {D : Ends} {f : Flow} {s' : Shared} (h : SP (X.wish E) pins D f s') : SP X pins D f s' := by
  cases f with
  | next => obtain ⟨σ', H', I, q⟩ := h; exact ⟨σ', H', I.unwish, q⟩
  | brk => obtain ⟨σ', H', I, q⟩ := h; exact ⟨σ', H', I.unwish, q⟩
  | cont => obtain ⟨σ', H', I, q⟩ := h; exact ⟨σ', H', I.unwish, q⟩
  | ret u => obtain ⟨v, σ', H', I, r, q⟩ := h; exact ⟨v, σ', H', I.unwish, r, q⟩
theorem PE.nox {e : Expr} {t : TE} (h : PE X.nox e t) : PE X e t := fun pins s σ H Q I hw =>
  wpAny_mono (h pins s σ H Q (I.wish _) hw) (fun _ _ ⟨v, H', I', r, q⟩ => ⟨v, H', I'.unwish, r, q⟩) fun _ _ z => False.elim z
theorem PT.nox {e : Expr} {t : TT} (h : PT X.nox e t) : PT X e t := fun pins s σ H Q I hw =>
  wpAny_mono (h pins s σ H Q (I.wish _) hw) (fun _ _ ⟨H', I', q⟩ => ⟨H', I'.unwish, q⟩) fun _ _ z => False.elim z
theorem PSs.nox {st : List Stmt} {t : TS} (h : PSs X.nox st t) : PSs X st t := fun pins s σ H D I hw =>
  wpAny_mono (h pins s σ H D (I.wish _) hw) (fun _ _ q => q.unwish) fun _ _ z => False.elim z
end
section
variable {X : Cx} {st : Stmt} {rest : List Stmt} {t u : TS} {e : Expr} {te : TE} {pos : Pos}
def tNext : TS := fun D σ H => D.nx σ H
def tSeq (t u : TS) : TS := fun D σ H => t { D with nx := u D } σ H
theorem pss_nil : PSs X [] tNext := fun _ _ σ H _ I h => wpAny_execs_nil ⟨σ, H, I, h⟩
theorem pss_cons (h1 : PS X st t) (h2 : PSs X rest u) : PSs X (st :: rest) (tSeq t u) := by
  intro pins s σ H D I h
  refine wpAny_execs_cons (thn (h1 pins s σ H { D with nx := u D } I h) fun f s1 q => ?_)
  cases f with
  | next =>
    obtain ⟨σ', H', I', q⟩ := q
    exact h2 pins s1 σ' H' D I' q
  | ret v => exact q
  | brk => exact q
  | cont => exact q
theorem pss_one (h1 : PS X st t) : PSs X [st] t := by
  intro pins s σ H D I h
  refine wpAny_execs_cons (thn (h1 pins s σ H D I h) fun f s1 q => ?_)
  cases f with
  | next => exact wpAny_execs_nil q
  | ret v => exact q
  | brk => exact q
  | cont => exact q
theorem Inv.quiet {pins : List (Addr × Obj)} {σ : St} {H : Hp} {s : Shared} (I : Inv X pins σ H s) : interactive X.env = false := by simp [interactive, I.ok.kind]
def tDrop (te : TE) : TS := fun D σ H => te σ H fun _ H1 => D.nx σ H1
theorem ps_expr (he : PE X e te) (hs : swapsWith e none pos.line X.env = pure false := by rfl) : PS X (.Expr e pos) (tDrop te) := by
  intro pins s σ H D I h
  exact wpAny_Expr_any (thn (he pins s σ H _ I h) fun v s1 ⟨x, H1, I1, r1, q1⟩ => ⟨σ, H1, I1, q1⟩) I.quiet hs
def tRet (te : TE) : TS := fun D σ H => te σ H D.rt
theorem ps_ret (he : PE X e te) : PS X (.Return (some e) pos) (tRet te) := by
  intro pins s σ H D I h
  exact wpAny_Return_some (thn (he pins s σ H _ I h) fun v s1 ⟨x, H1, I1, r1, q1⟩ => ⟨x, σ, H1, I1, r1, q1⟩)
def tRetN : TS := fun D _ H => D.rt .non H
theorem ps_retN : PS X (.Return none pos) tRetN := fun _ _ σ H _ I h => wpAny_Return_none ⟨.non, σ, H, I, rfl, h⟩
def tIfS (c : TT) (t u : TS) : TS := fun D σ H => c σ H fun b H1 => if b = true then t D σ H1 else u D σ H1
theorem ps_if {c : Expr} {a b : List Stmt} {tc : TT} (hc : PT X c tc) (ha : PSs X a t) (hb : PSs X b u) : PS X (.If c a b pos) (tIfS tc t u) := by
  intro pins s σ H D I h
  refine wpAny_If (thn (hc pins s σ H _ I h) fun d s1 ⟨H1, I1, q1⟩ => ?_)
  cases d with
  | true => exact ha pins s1 σ H1 D I1 q1
  | false => exact hb pins s1 σ H1 D I1 q1
def tNever : TS := fun _ _ _ => False
theorem ps_never : PS X st tNever := fun _ _ _ _ _ _ h => h.elim
end
abbrev TG := V → St → Hp → (St → Hp → Prop) → Prop
abbrev TGs := List V → St → Hp → (St → Hp → Prop) → Prop
def PG (X : Cx) (target : Expr) (t : TG) : Prop :=
  ∀ (pins : List (Addr × Obj)) (s : Shared) (σ : St) (H : Hp) (v : V) (u : Value) (Q : St → Hp → Prop), Inv X pins σ H s → RelV v u → t v σ H Q →
    wpAny (model X.prog X.w) X.A (assign target X.env u) (fun _ s' => ∃ σ' H', Inv X pins σ' H' s' ∧ Q σ' H') X.xe s
def PGs (X : Cx) (ts : List Expr) (t : TGs) : Prop :=
  ∀ (pins : List (Addr × Obj)) (s : Shared) (σ : St) (H : Hp) (vs : List V) (us : List Value) (Q : St → Hp → Prop), Inv X pins σ H s → Vals vs us → t vs σ H Q →
    wpAny (model X.prog X.w) X.A (assignInOrder ((assignEach ts X.env).map (·.2)) us) (fun _ s' => ∃ σ' H', Inv X pins σ' H' s' ∧ Q σ' H') X.xe s
abbrev TSet := V → V → V → Hp → (Hp → Prop) → Prop
def PSet (X : Cx) (t : TSet) : Prop :=
  ∀ (pins : List (Addr × Obj)) (s : Shared) (σ : St) (H : Hp) (o i v : V) (ov iv u : Value) (Q : Hp → Prop), Inv X pins σ H s → RelV o ov → RelV i iv → RelV v u → t o i v H Q →
    wpAny (model X.prog X.w) X.A (setItem ov iv u) (fun _ s' => ∃ H', Inv X pins σ H' s' ∧ Q H') X.xe s
section
variable {X : Cx} {pos : Pos}
def gName (i : Nat) : TG := fun v σ H Q => Q (σ.set i (some v)) H
theorem pg_name {i : Nat} {x : Str} (hN : X.N.Nodup) (hi : X.N[i]? = some x) (hx : Loc X.env.scope x) (hf : X.fn x = true ∨ X.env.scope.names.lookup x = some .local := by first | exact .inl rfl | exact .inr rfl | assumption) : PG X (.Name x pos) (gName i) := by
  intro pins s σ H v u Q I r h
  exact wpAny_assign_Name (store_ok I hN hi hx r (fun s' I' => ⟨_, H, I', h⟩) hf)
def gNil : TGs := fun vs σ H Q => vs = [] ∧ Q σ H
def gCons (t : TG) (u : TGs) : TGs := fun vs σ H Q => ∃ v r, vs = v :: r ∧ t v σ H fun σ' H' => u r σ' H' Q
theorem pgs_nil : PGs X [] gNil := by
  intro pins s σ H vs us Q I r h
  obtain ⟨e, h⟩ := h
  subst e
  cases r
  exact assignInOrder_nil ⟨σ, H, I, h⟩
theorem pgs_cons {e : Expr} {es : List Expr} {t : TG} {u : TGs} (h1 : PG X e t) (h2 : PGs X es u)
    (hs : (assignEach (e :: es) X.env).map (·.2) = assign e X.env :: (assignEach es X.env).map (·.2) := by rfl) : PGs X (e :: es) (gCons t u) := by
  intro pins s σ H vs us Q I r h
  obtain ⟨v, vr, e1, h⟩ := h
  subst e1
  cases r with
  | cons r rr =>
    rw [hs]
    refine assignInOrder_cons (thn (h1 pins s σ H _ _ _ I r h) fun _ s1 ⟨σ1, H1, I1, q1⟩ => ?_)
    exact h2 pins s1 σ1 H1 _ _ Q I1 rr q1
def gTup (K : PySem.W.Frag) (n : Nat) (t : TGs) : TG := fun v σ H Q => ∃ a xs, v = .ref a ∧ SqT K H a xs ∧ xs.length = n ∧ t xs σ H Q
theorem pg_tup {es : List Expr} {k : Nat} {t : TGs} {n : Nat} (hc : X.calm = true) (h : PGs X es t)
    (hn : (assignEach es X.env).length = n := by rfl) (hst : (assignEach es X.env).findIdx? (·.1) = none := by rfl) : PG X (.Tuple es k pos) (gTup X.K n t) := by
  intro pins s σ H v u Q I r hw
  obtain ⟨a, xs, e1, hq, hl, hw⟩ := hw
  subst e1
  cases r
  obtain ⟨its, rv, ht, hz⟩ := I.tuple hq
  refine assign_Tuple_tuple (I.ok.hd hc) ht (by simp [hn, ← hl, rv.length]) hst fun h' hx => ?_
  have I1 : Inv X pins σ H { s with heap := h' } := I.kept (t' := s.toks) fun b o e => hx b o (Nat.ne_of_lt (Heap.lt_size e)) e
  exact h pins _ σ H xs _ Q I1 (by simpa using rv) hw
def gSub (to ti : TE) (t : TSet) : TG := fun v σ H Q => to σ H fun o H1 => ti σ H1 fun i H2 => t o i v H2 fun H3 => Q σ H3
theorem pg_sub {o i : Expr} {to ti : TE} {t : TSet} (ho : PE X o to) (hi : PE X i ti) (hs : PSet X t)
    (ha : ∀ v, assign (.Subscript o i pos) X.env v = (do
      let ov ← holding [v] (eval o X.env)
      let iv ← holding [v, ov] (eval i X.env)
      standAt pos
      holding [v, ov, iv] (setItem ov iv v)
      release [v, ov, iv] []) := by intro _; rfl) : PG X (.Subscript o i pos) (gSub to ti t) := by
  intro pins s σ H v u Q I r h
  rw [ha]
  refine wpAny_bind (wpAny_holding (thn (ho pins s σ H _ I h) fun ov s1 ⟨x, H1, I1, r1, q1⟩ => ?_))
  refine wpAny_bind (wpAny_holding (thn (hi pins s1 σ H1 _ I1 q1) fun iv s2 ⟨y, H2, I2, r2, q2⟩ => ?_))
  refine wpAny_bind (wpAny_standAt (wpAny_bind (wpAny_holding (thn (hs pins s2 σ H2 x y v ov iv u _ I2 r1 r2 r q2) fun _ s3 ⟨H3, I3, q3⟩ => ?_))))
  exact wpAny_release ⟨σ, H3, I3, q3⟩
def tAsg (te : TE) (g : TG) : TS := fun D σ H => te σ H fun x H1 => g x σ H1 D.nx
theorem ps_asg {tg e : Expr} {te : TE} {g : TG} (he : PE X e te) (hg : PG X tg g) (hs : swapsWithSole [tg] e pos.line X.env = pure false := by rfl) (hw : swappedStores [tg] e X.env = pure none := by rfl)
    (h1 : (assignEach [tg] X.env).map (·.2) = [assign tg X.env] := by rfl) : PS X (.Assign [tg] e pos) (tAsg te g) := by
  intro pins s σ H D I h
  refine wpAny_Assign_stores (thn (he pins s σ H _ I h) fun v s1 ⟨x, H1, I1, r1, q1⟩ => ?_) hs hw
  rw [h1]
  exact thn (hg pins s1 σ H1 x v _ I1 r1 q1) fun _ s2 q => q
theorem ps_set {i : Nat} {x : Str} {e : Expr} {te : TE} {pos' : Pos} (hN : X.N.Nodup) (hi : X.N[i]? = some x) (hx : Loc X.env.scope x) (he : PE X e te) (hs : swapsWith e (some (.Name x pos')) pos.line X.env = pure false := by rfl) (hf : X.fn x = true ∨ X.env.scope.names.lookup x = some .local := by first | exact .inl rfl | exact .inr rfl | assumption) :
    PS X (.Assign [.Name x pos'] e pos) (tAsg te (gName i)) := by
  intro pins s σ H D I h
  refine wpAny_Assign_Name (thn (he pins s σ H _ I h) fun v s1 ⟨y, H1, I1, r1, q1⟩ => ?_) hs
  exact store_ok I1 hN hi hx r1 (fun s2 I2 => ⟨_, H1, I2, q1⟩) hf
def tPar (i j : Nat) (ta : TA) : TS := fun D σ H => ta σ H fun vs H1 => ∃ v w, vs = [v, w] ∧ D.nx ((σ.set i (some v)).set j (some w)) H1
theorem ps_par {i j : Nat} {x y : Str} {a b : Expr} {ta : TA} {px py pt : Pos} {kt k2 pt2} (hc : X.calm = true) (hN : X.N.Nodup) (hi : X.N[i]? = some x) (hj : X.N[j]? = some y) (hij : i ≠ j)
    (hx : X.env.scope.names.lookup x = some .local) (hy : X.env.scope.names.lookup y = some .local) (ha : PA X [a, b] ta)
    (hw : swappedStores [.Tuple [.Name x px, .Name y py] kt pt] (.Tuple [a, b] k2 pt2) X.env = pure (some [x, y]))
    (hs : swapsWithSole [.Tuple [.Name x px, .Name y py] kt pt] (.Tuple [a, b] k2 pt2) pos.line X.env = pure false := by rfl) :
    PS X (.Assign [.Tuple [.Name x px, .Name y py] kt pt] (.Tuple [a, b] k2 pt2) pos) (tPar i j ta) := by
  intro pins s σ H D I h
  rw [exec_Assign_arm]
  refine wpAny_bind (wpAny_standAt ?_)
  rw [hs]
  refine wpAny_bind (wpAny_pure ?_)
  rw [if_neg (by decide)]
  refine wpAny_bind (Tuple_ (thn (ha _ pins s σ H _ I h) fun us s1 ⟨vs, H1, I1, r1, q1⟩ => ?_))
  obtain ⟨v, w, e1, q1⟩ := q1
  subst e1
  obtain ⟨u1, u2, rfl, rv, rw'⟩ : ∃ u1 u2, us = [u1, u2] ∧ RelV v u1 ∧ RelV w u2 := by
    cases r1 with
    | cons p q =>
      cases q with
      | cons p' q' =>
        cases q'
        exact ⟨_, _, rfl, p, p'⟩
  refine wpAny_newObj_type ?_ (by show 2 ≤ sizeLine; decide)
  have I2 : Inv X pins σ H1 { s1 with heap := s1.heap.push { cls := .type "tuple", data := .seq [u1, u2].toArray } } := I1.kept (t' := s1.toks) fun b o e => Heap.get?_push_of_some _ e
  rw [hw]
  refine wpAny_bind (wpAny_pure ?_)
  show wpAny (model X.prog X.w) X.A (do rule "assign.swapped-stores"; let items ← unpackItems (.ref s1.heap.objs.size) 2 none; assignInOrder [fun v => bindName X.env y v, fun v => bindName X.env x v] items.reverse; pure Flow.next) _ _ _
  refine wpAny_bind (wpAny_rule (wpAny_bind (unpackItems_tuple (items := #[u1, u2]) (I.ok.hd hc) (IsTup.new s1.heap _) fun h' hx' => ?_)))
  have I3 := I2.kept (h' := h') (t' := s1.toks) fun b o e => hx' b o (Nat.ne_of_lt (Heap.lt_size e)) e
  show wpAny _ _ (assignInOrder [fun v => bindName X.env y v, fun v => bindName X.env x v] [u2, u1] >>= fun _ => pure Flow.next) _ _ _
  refine wpAny_bind (assignInOrder_cons (wpAny_bindName (store_ok I3 hN hj (.inl hy) rw' (fun s2 I4 => ?_) (.inr hy))))
  refine assignInOrder_cons (wpAny_bindName (store_ok I4 hN hi (.inl hx) rv (fun s3 I5 => assignInOrder_nil (wpAny_pure ?_)) (.inr hx)))
  rw [List.set_comm _ _ (Ne.symm hij)] at I5
  exact ⟨_, H1, I5, q1⟩
end
section
variable {X : Cx} {pos : Pos}
def tWhile (c : TT) (tb : TS) : TS := fun D σ H => ∃ W : Nat → St → Hp → Prop, (∃ m, W m σ H) ∧ ∀ m σ H, W m σ H →
  c σ H fun b H1 => if b = true then ∃ N : St → Hp → Prop, (∀ σ' H', N σ' H' → ∃ m', m' < m ∧ W m' σ' H') ∧ tb { D with nx := N, ct := N, bk := D.nx } σ H1 else D.nx σ H1
theorem ps_while {c : Expr} {body : List Stmt} {tc : TT} {tb : TS} (hp : PassesOwn (model X.prog X.w) X.A X.env X.xe) (hc : PT X c tc) (hb : PSs X body tb) : PS X (.While c body [] pos) (tWhile tc tb) := by
  intro pins s σ H D I h
  obtain ⟨W, ⟨m0, w0⟩, turn⟩ := h
  refine wpAny_While (codeAny_whileLoop (fun n s' => ∃ σ' H', Inv X pins σ' H' s' ∧ W n σ' H') ?_ m0 ⟨σ, H, I, w0⟩)
  rintro n s1 ⟨σ1, H1, I1, w1⟩
  refine wpAny_passesOwn hp (thn (hc pins s1 σ1 H1 _ I1 (turn n σ1 H1 w1)) fun b s2 ⟨H2, I2, q2⟩ => ?_)
  cases b with
  | true =>
    obtain ⟨N, hN, q2⟩ := q2
    rw [if_pos rfl]
    refine wpAny_passesOwn hp (thn (hb pins s2 σ1 H2 _ I2 q2) fun f s3 q3 => ?_)
    cases f with
    | next =>
      obtain ⟨σ3, H3, I3, n3⟩ := q3
      obtain ⟨m', hm, w3⟩ := hN σ3 H3 n3
      exact ⟨m', hm, σ3, H3, I3, w3⟩
    | cont =>
      obtain ⟨σ3, H3, I3, n3⟩ := q3
      obtain ⟨m', hm, w3⟩ := hN σ3 H3 n3
      exact ⟨m', hm, σ3, H3, I3, w3⟩
    | brk => exact q3
    | ret v => exact q3
  | false =>
    rw [if_neg Bool.false_ne_true]
    exact wpAny_execs_nil ⟨σ1, H2, I2, q2⟩
end
structure It where
  go : Nat → Hp → Prop
  yld : Nat → Hp → V → Hp → Prop
  stop : Nat → Hp → Prop
def FpOk (X : Cx) (pins : List (Addr × Obj)) (H : Hp) (b : Addr) : Prop :=
  H b = none ∧ b ≠ X.env.locals ∧ b ∉ X.fs ∧ (b ∈ X.ex ∨ X.s_0.heap.objs.size ≤ b) ∧ (∀ x c, X.env.cells.lookup x = some c → c ≠ b) ∧ ∀ p ∈ X.pn ++ pins, p.1 ≠ b
theorem Inv.fpOk {X : Cx} {pins : List (Addr × Obj)} {σ : St} {H H' : Hp} {s : Shared} {b : Addr} (I : Inv X pins σ H s) (hb : s.heap.objs.size ≤ b) (hn : H' b = none) : FpOk X pins H' b := by
  refine ⟨hn, Nat.ne_of_gt (Nat.lt_of_lt_of_le I.lt hb), I.nofs hb, .inr (Nat.le_trans I.sz hb), fun x c e z => ?_, fun p hp z => ?_⟩
  · obtain ⟨v, q⟩ := I.cell x c e
    exact absurd (Nat.lt_of_lt_of_le q.lt (by rw [z]; exact hb)) (Nat.lt_irrefl _)
  · exact absurd (Nat.lt_of_lt_of_le (Heap.lt_size (I.pin p hp).1) (by rw [z]; exact hb)) (Nat.lt_irrefl _)
structure Turn (P : Program) (w : World) (K : PySem.W.Frag) (tg : Expr) (J : It) (fp : List Addr) (it : Addr) (tn : Nat → Heap → Prop) : Prop where
  mem : it ∈ fp
  obj : ∀ i h, tn i h → ∀ b ∈ fp, ∃ o, h.get? b = some o ∧ ∀ v, o.data ≠ .cell v
  keep : ∀ i h h', tn i h → (∀ b ∈ fp, ∀ o, h.get? b = some o → h'.get? b = some o) → tn i h'
  item : ∀ (X : Cx), X.prog = P → X.w = w → X.K = K → X.calm = true → ∀ (i : Nat) (pins : List (Addr × Obj)) (s : Shared) (σ : St) (H : Hp) (E : Value → Shared → Prop), Inv X pins σ H s → (∀ b ∈ fp, FpOk X pins H b) → tn i s.heap → J.go i H →
    wpAny (model P w) X.A (pyNext (.ref it)) (fun r s1 => ∃ u, r = some u ∧
      wpAny (model P w) X.A (letOwnedTupleGo tg (.ref it) u) (fun _ s2 => ∃ x H', Inv X pins σ H' s2 ∧ RelV x u ∧ J.yld i H x H' ∧ tn (i + 1) s2.heap ∧ ∀ b ∈ fp, H' b = none) E s1) E s
  done : ∀ (X : Cx), X.prog = P → X.w = w → X.K = K → X.calm = true → ∀ (i : Nat) (pins : List (Addr × Obj)) (s : Shared) (σ : St) (H : Hp) (E : Value → Shared → Prop), Inv X pins σ H s → (∀ b ∈ fp, FpOk X pins H b) → tn i s.heap → J.stop i H →
    wpAny (model P w) X.A (pyNext (.ref it)) (fun r s1 => r = none ∧ Inv X pins σ H s1) E s
  self : ∀ (A : Around) (i : Nat) (s : Shared) (Q : Value → Shared → Prop) (E : Value → Shared → Prop), tn i s.heap → Q (.ref it) s → wpAny (model P w) A (pyIter (.ref it)) Q E s
abbrev TI := St → Hp → (It → Hp → Prop) → Prop
def PIE (X : Cx) (pins : List (Addr × Obj)) (σ : St) (tg : Expr) (R : It → Hp → Prop) (itv : Value) (s2 : Shared) : Prop :=
  ∃ (it : Addr) (fp : List Addr) (tn : Nat → Heap → Prop) (J : It) (H' : Hp), itv = .ref it ∧ Inv X pins σ H' s2 ∧ Turn X.prog X.w X.K tg J fp it tn ∧ tn 0 s2.heap ∧ (∀ b ∈ fp, FpOk X pins H' b) ∧ R J H'
def PI (X : Cx) (tg iter : Expr) (wi : TI) : Prop :=
  ∀ (pins : List (Addr × Obj)) (s : Shared) (σ : St) (H : Hp) (R : It → Hp → Prop), Inv X pins σ H s → wi σ H R →
    wpAny (model X.prog X.w) X.A (eval iter X.env) (fun v s1 => wpAny (model X.prog X.w) X.A (pyIter v) (PIE X pins σ tg R) X.xe s1) X.xe s
theorem go_of {M : Model} {A : Around} {E : Value → Shared → Prop} {s : Shared} {tg : Expr} {it : Addr} {u : Value} {o : Obj} {n : String} {vs : Array Value} {Q : Unit → Shared → Prop} (ho : s.heap.get? it = some o) (hc : o.cls = .type n) (hd : o.data = .fields vs)
    (hn : ["enumerate", "zip", "dict_itemiterator", "dict_reverseitemiterator", "odict_iterator", "itertools.zip_longest", "itertools.pairwise"].contains n = false) (hQ : Q () s) : wpAny M A (letOwnedTupleGo tg (.ref it) u) Q E s := by
  unfold letOwnedTupleGo
  cases tg <;> first
    | exact wpAny_pure hQ
    | (cases u <;> first
        | exact wpAny_pure hQ
        | (refine wpAny_bind (wpAny_load ho ?_)
           rw [hc, hd]
           show wpAny M A (if (["enumerate", "zip", "dict_itemiterator", "dict_reverseitemiterator", "odict_iterator", "itertools.zip_longest", "itertools.pairwise"].contains n && vs[0]? == some (rawInt _)) = true then _ else _) Q E s
           rw [if_neg (by intro h; rw [hn, Bool.false_and] at h; cases h)]
           exact wpAny_pure hQ))
def Itl (K : PySem.W.Frag) (a : Addr) : It :=
  ⟨fun i H => ∃ xs x, SqL K H a xs ∧ xs[i]? = some x, fun i H x H' => H' = H ∧ ∀ xs, SqL K H a xs → xs[i]? = some x, fun i H => ∃ xs, SqL K H a xs ∧ xs.length ≤ i⟩
def Itt (K : PySem.W.Frag) (a : Addr) : It :=
  ⟨fun i H => ∃ xs x, SqT K H a xs ∧ xs[i]? = some x, fun i H x H' => H' = H ∧ ∀ xs, SqT K H a xs → xs[i]? = some x, fun i H => ∃ xs, SqT K H a xs ∧ xs.length ≤ i⟩
def Itr (lo : Int) (n : Nat) : It := ⟨fun i _ => i < n, fun i H x H' => H' = H ∧ x = .int (lo + i), fun i _ => n ≤ i⟩
theorem turn_list {P : Program} {w : World} {K : PySem.W.Frag} {tg : Expr} (a it : Addr) : Turn P w K tg (Itl K a) [it] it (fun i h => h.IsListIter it a i) where
  mem := by simp
  obj := fun i h st b hb => by
    have e : b = it := by simpa using hb
    subst e
    obtain ⟨o, e, c, d⟩ := st
    exact ⟨o, e, fun v z => by rw [d] at z; cases z⟩
  keep := fun i h h' st k => st.at fun o e => k it (by simp) o e
  item := by
    intro X hP hw hK hc i pins s σ H E I hf st hg
    subst hP hw hK
    obtain ⟨xs, x, hq, hx⟩ := hg
    obtain ⟨its, rv, p, hz⟩ := I.list hq
    obtain ⟨u, hu, ru⟩ := rv.get hx
    obtain ⟨f0, f1, f2, f3, f4, f5⟩ := hf it (by simp)
    refine wpAny_pyNext_list_item st p.isList (x := u) (by simpa using hu) fun h' st' sb => ?_
    have I1 : Inv X pins σ H { s with heap := h' } := I.turned (t' := s.toks) (fun b o hb e => (sb.2 b hb).trans e) f0 f1 f3 f4 f5
    obtain ⟨o, e, c, d⟩ := id st'
    exact ⟨u, rfl, go_of (s := { s with heap := h' }) e c d (by decide) ⟨x, H, I1, ru, ⟨rfl, fun ys hy => by rw [I.list_inj hy hq]; exact hx⟩, st', fun b hb => (hf b hb).1⟩⟩
  done := by
    intro X hP hw hK hc i pins s σ H E I hf st hg
    subst hP hw hK
    obtain ⟨xs, hq, hx⟩ := hg
    obtain ⟨its, rv, p, hz⟩ := I.list hq
    obtain ⟨f0, f1, f2, f3, f4, f5⟩ := hf it (by simp)
    have hl := rv.length
    exact wpAny_pyNext_list_end (I.ok.hd hc) st p.isList (by simp; omega) fun h' eb => ⟨rfl, I.turned (t' := s.toks) (fun b o hb e => eb b o hb e) f0 f1 f3 f4 f5⟩
  self := fun _ _ _ _ _ st h => wpAny_pyIter_listiter st h
theorem turn_tuple {P : Program} {w : World} {K : PySem.W.Frag} {tg : Expr} (a it : Addr) : Turn P w K tg (Itt K a) [it] it (fun i h => h.IsTupleIter it a i) where
  mem := by simp
  obj := fun i h st b hb => by
    have e : b = it := by simpa using hb
    subst e
    obtain ⟨o, e, c, d⟩ := st
    exact ⟨o, e, fun v z => by rw [d] at z; cases z⟩
  keep := fun i h h' st k => st.at fun o e => k it (by simp) o e
  item := by
    intro X hP hw hK hc i pins s σ H E I hf st hg
    subst hP hw hK
    obtain ⟨xs, x, hq, hx⟩ := hg
    obtain ⟨its, rv, p, hz⟩ := I.tuple hq
    obtain ⟨u, hu, ru⟩ := rv.get hx
    obtain ⟨f0, f1, f2, f3, f4, f5⟩ := hf it (by simp)
    refine wpAny_pyNext_tuple_item st (show s.heap.IsTuple a its.toArray from p) (x := u) (by simpa using hu) fun h' st' sb => ?_
    have I1 : Inv X pins σ H { s with heap := h' } := I.turned (t' := s.toks) (fun b o hb e => (sb.2 b hb).trans e) f0 f1 f3 f4 f5
    obtain ⟨o, e, c, d⟩ := id st'
    exact ⟨u, rfl, go_of (s := { s with heap := h' }) e c d (by decide) ⟨x, H, I1, ru, ⟨rfl, fun ys hy => by rw [I.tuple_inj hy hq]; exact hx⟩, st', fun b hb => (hf b hb).1⟩⟩
  done := by
    intro X hP hw hK hc i pins s σ H E I hf st hg
    subst hP hw hK
    obtain ⟨xs, hq, hx⟩ := hg
    obtain ⟨its, rv, p, hz⟩ := I.tuple hq
    obtain ⟨f0, f1, f2, f3, f4, f5⟩ := hf it (by simp)
    have hl := rv.length
    exact wpAny_pyNext_tuple_end (I.ok.hd hc) st (show s.heap.IsTuple a its.toArray from p) (by simp; omega) fun h' eb => ⟨rfl, I.turned (t' := s.toks) (fun b o hb e => eb b o hb e) f0 f1 f3 f4 f5⟩
  self := fun _ _ _ _ _ st h => wpAny_pyIter_tupleiter st h
theorem turn_range {P : Program} {w : World} {K : PySem.W.Frag} {tg : Expr} (it : Addr) (lo : Int) (n : Nat) : Turn P w K tg (Itr lo n) [it] it (fun i h => IsRangeIter h it (lo + (i : Nat) * 1) ((n : Int) - (i : Nat)) 1) where
  mem := by simp
  obj := fun i h st b hb => by
    have e : b = it := by simpa using hb
    subst e
    exact ⟨_, st, fun v z => by
      have z' : Data.fields _ = Data.cell v := z
      cases z'⟩
  keep := fun i h h' st k => k it (by simp) _ st
  item := by
    intro X hP hw hK hc i pins s σ H E I hf st hg
    subst hP hw hK
    obtain ⟨f0, f1, f2, f3, f4, f5⟩ := hf it (by simp)
    have W := Walks.range (prog := X.prog) (w := X.w) (I.ok.hd hc) it lo 1 n
    refine W.item i s _ _ hg st fun v h' tk hv st' kk => ?_
    obtain ⟨t, rfl⟩ := hv
    have I1 : Inv X pins σ H { s with heap := h', toks := tk } := I.turned (fun b o hb e => kk b o (by simpa using hb) e) f0 f1 f3 f4 f5
    refine ⟨_, rfl, go_of (s := { s with heap := h', toks := tk }) (n := "range_iterator") st' rfl rfl (by decide) ⟨.int (lo + i), H, I1, ⟨t, ?_⟩, ⟨rfl, rfl⟩, st', fun b hb => (hf b hb).1⟩⟩
    rw [Int.mul_one]
  done := by
    intro X hP hw hK hc i pins s σ H E I hf st hg
    subst hP hw hK
    obtain ⟨f0, f1, f2, f3, f4, f5⟩ := hf it (by simp)
    exact wpAny_pyNext_range_end (I.ok.hd hc) st (by have : n ≤ i := hg; omega) fun h' eb => ⟨rfl, I.turned (t' := s.toks) (fun b o hb e => eb b o hb e) f0 f1 f3 f4 f5⟩
  self := fun _ _ _ _ _ st h => wpAny_pyIter_rangeiter st h
end L2
namespace L2
open PySem PySem.Spec PyProof.Rows
section
variable {X : Cx} {tg : Expr}
def iList (K : PySem.W.Frag) (tl : TE) : TI := fun σ H R => tl σ H fun x H1 => ∃ a, x = .ref a ∧ (∃ xs, SqL K H1 a xs) ∧ R (Itl K a) H1
def iTup (K : PySem.W.Frag) (tl : TE) : TI := fun σ H R => tl σ H fun x H1 => ∃ a, x = .ref a ∧ (∃ xs, SqT K H1 a xs) ∧ R (Itt K a) H1
theorem pi_list {l : Expr} {tl : TE} (hl : PE X l tl) : PI X tg l (iList X.K tl) := by
  intro pins s σ H R I h
  refine thn (hl pins s σ H _ I h) fun v s1 ⟨x, H1, I1, r1, q1⟩ => ?_
  obtain ⟨a, e, ⟨xs, hq⟩, q⟩ := q1
  subst e
  cases r1
  obtain ⟨its, rv, p, hz⟩ := I1.list hq
  refine wpAny_pyIter_list p.isList ?_
  refine ⟨s1.heap.objs.size, [s1.heap.objs.size], _, _, H1, rfl, I1.kept (t' := s1.toks) fun b o e => Heap.get?_push_of_some _ e, turn_list a _, ⟨_, Heap.get?_push_size _ rfl, rfl, rfl⟩, fun b hb => ?_, q⟩
  have e : b = s1.heap.objs.size := by simpa using hb
  subst e
  exact I1.fpOk (Nat.le_refl _) (I1.hok.fresh (Nat.le_refl _))
theorem pi_tup {l : Expr} {tl : TE} (hl : PE X l tl) : PI X tg l (iTup X.K tl) := by
  intro pins s σ H R I h
  refine thn (hl pins s σ H _ I h) fun v s1 ⟨x, H1, I1, r1, q1⟩ => ?_
  obtain ⟨a, e, ⟨xs, hq⟩, q⟩ := q1
  subst e
  cases r1
  obtain ⟨its, rv, p, hz⟩ := I1.tuple hq
  refine wpAny_pyIter_tuple (show s1.heap.IsTuple a its.toArray from p) ?_
  refine ⟨s1.heap.objs.size, [s1.heap.objs.size], _, _, H1, rfl, I1.kept (t' := s1.toks) fun b o e => Heap.get?_push_of_some _ e, turn_tuple a _, ⟨_, Heap.get?_push_size _ rfl, rfl, rfl⟩, fun b hb => ?_, q⟩
  have e : b = s1.heap.objs.size := by simpa using hb
  subst e
  exact I1.fpOk (Nat.le_refl _) (I1.hok.fresh (Nat.le_refl _))
theorem range_it {pins : List (Addr × Obj)} {σ : St} {H : Hp} {s : Shared} {R : It → Hp → Prop} {E : Value → Shared → Prop} {lo hi : Int} {t u v : Tok} {tk : Nat} (I : Inv X pins σ H s) (h1 : -(2 ^ 62) ≤ lo) (h2 : lo < 2 ^ 62) (h3 : -(2 ^ 62) ≤ hi) (h4 : hi < 2 ^ 62)
    (q : R (Itr lo (hi - lo).toNat) H) : wpAny (model X.prog X.w) X.A (pyIter (.ref s.heap.objs.size)) (PIE X pins σ tg R) E { s with heap := s.heap.push { cls := .type "range", data := .fields #[.int lo t, .int hi u, .int 1 v] }, toks := tk } := by
  refine wpAny_pyIter_range (IsRange.new ..) (small_one h1 h2 h3 h4) ?_
  have I1 : Inv X pins σ H { s with heap := s.heap.push { cls := .type "range", data := .fields #[.int lo t, .int hi u, .int 1 v] }, toks := tk } := I.kept fun b o e => Heap.get?_push_of_some _ e
  refine ⟨(s.heap.push { cls := .type "range", data := .fields #[.int lo t, .int hi u, .int 1 v] }).objs.size, [(s.heap.push { cls := .type "range", data := .fields #[.int lo t, .int hi u, .int 1 v] }).objs.size], _, _, H, rfl,
    I1.kept (t' := tk) fun b o e => Heap.get?_push_of_some _ e, turn_range _ lo (hi - lo).toNat, ?_, fun b hb => ?_, q⟩
  · have e1 : lo + ((0 : Nat) : Int) * 1 = lo := by simp
    have e2 : (((hi - lo).toNat : Nat) : Int) - ((0 : Nat) : Int) = Builtin.Range.rangeSize lo hi 1 := by rw [rangeSize_one]; split <;> omega
    show IsRangeIter _ _ (lo + ((0 : Nat) : Int) * 1) ((((hi - lo).toNat : Nat) : Int) - ((0 : Nat) : Int)) 1
    rw [e1, e2]
    exact Heap.get?_push_size _ rfl
  · have e : b = (s.heap.push { cls := .type "range", data := .fields #[.int lo t, .int hi u, .int 1 v] }).objs.size := by simpa using hb
    subst e
    exact I1.fpOk (Nat.le_refl _) (I1.hok.fresh (Nat.le_refl _))
def iRng1 (ta : TA) : TI := fun σ H R => ta σ H fun vs H1 => ∃ j : Int, vs = [.int j] ∧ -(2 ^ 62) ≤ j ∧ j < 2 ^ 62 ∧ R (Itr 0 j.toNat) H1
theorem pi_range1 {a : Expr} {ta : TA} {p pos : Pos} (hg : Gl X "range") (hm : X.mg "range" = none) (ha : PA X [a] ta) (hs : starEach [a] X.env = [(false, eval a X.env)] := by rfl) : PI X tg (.Call (.Name "range" p) [a] [] pos) (iRng1 ta) := by
  intro pins s σ H R I h
  refine Call_ (ld_blt I hg hm boot_range (PyProof.Rows.callWith_type1 (thn (ha pos pins s σ H _ I h) fun us s1 ⟨vs, H1, I1, r1, q1⟩ => ?_) hs rfl))
  obtain ⟨j, e, q1, q2, q⟩ := q1
  subst e
  cases r1 with
  | cons r rr =>
    cases rr
    obtain ⟨t, rfl⟩ := r
    exact call_range_1 (range_it I1 (by omega) (by omega) q1 q2 (by simpa using q))
def tFor (wi : TI) (g : TG) (tb : TS) : TS := fun D σ H => wi σ H fun J H1 => ∃ W : Nat → Nat → St → Hp → Prop, (∃ m, W 0 m σ H1) ∧ ∀ i m σ H, W i m σ H →
  (J.stop i H ∧ D.nx σ H) ∨ (J.go i H ∧ ∃ N : St → Hp → Prop, (∀ σ' H', N σ' H' → ∃ m', m' < m ∧ W (i + 1) m' σ' H') ∧ ∀ x H', J.yld i H x H' → g x σ H' fun σ2 H2 => tb { D with nx := N, ct := N, bk := D.nx } σ2 H2)
def pinsAt (fp : List Addr) (h : Heap) : List (Addr × Obj) := fp.filterMap fun b => (h.get? b).map fun o => (b, o)
theorem mem_pinsAt {fp : List Addr} {h : Heap} {b : Addr} {o : Obj} (hb : b ∈ fp) (e : h.get? b = some o) : (b, o) ∈ pinsAt fp h := List.mem_filterMap.mpr ⟨b, hb, by rw [e]; rfl⟩
theorem of_pinsAt {fp : List Addr} {h : Heap} {p : Addr × Obj} (hp : p ∈ pinsAt fp h) : p.1 ∈ fp ∧ h.get? p.1 = some p.2 := by
  obtain ⟨b, hb, e⟩ := List.mem_filterMap.mp hp
  cases q : h.get? b with
  | none => rw [q] at e; cases e
  | some o =>
    rw [q] at e
    have e' : (b, o) = p := Option.some.inj e
    subst e'
    exact ⟨hb, q⟩
theorem Inv.pinned {pins : List (Addr × Obj)} {σ : St} {H : Hp} {s : Shared} {fp : List Addr} (I : Inv X pins σ H s) (hf : ∀ b ∈ fp, FpOk X pins H b) (ho : ∀ b ∈ fp, ∃ o, s.heap.get? b = some o ∧ ∀ v, o.data ≠ .cell v) : Inv X (pins ++ pinsAt fp s.heap) σ H s :=
  I.pins_of fun p hp => (List.mem_append.mp hp).elim (fun z => I.pin p (List.mem_append_right _ z)) fun z => by
    obtain ⟨hb, e⟩ := of_pinsAt z
    obtain ⟨f0, f1, f2, _⟩ := hf p.1 hb
    obtain ⟨o, e', d⟩ := ho p.1 hb
    rw [e] at e'; cases e'
    exact ⟨e, f0, f1, f2, d⟩
theorem Inv.unpinned {pins pl : List (Addr × Obj)} {σ : St} {H : Hp} {s : Shared} (I : Inv X (pins ++ pl) σ H s) : Inv X pins σ H s := I.pins_of fun p hp => I.pin p (List.mem_append_right _ (List.mem_append_left _ hp))
theorem ps_for {iter : Expr} {body : List Stmt} {wi : TI} {g : TG} {tb : TS} {pos : Pos} (hp : PassesOwn (model X.prog X.w) X.A X.env X.xe) (hc : X.calm = true) (hi : PI X tg iter wi) (hg : PG X tg g) (hb : PSs X body tb)
    (hs : ∀ x, foldedSetIterable iter X.env x = pure x := by intro _; rfl) : PS X (.For tg iter body [] pos) (tFor wi g tb) := by
  intro pins s σ H D I h
  refine wpAny_For (thn (hi pins s σ H _ I h) fun v s1 h1 => thn h1 fun itv s2 h2 => ?_) hs
  obtain ⟨it, fp, tn, J, H2, e, I2, T, st2, f2, W, ⟨m0, w0⟩, turn⟩ := h2
  subst e
  have stat : ∀ {H' : Hp}, (∀ b ∈ fp, H' b = none) → ∀ b ∈ fp, FpOk X pins H' b := fun hn b hb => ⟨hn b hb, (f2 b hb).2⟩
  refine codeAny_forLoop_any (fun n s' => ∃ i σ' H', Inv X pins σ' H' s' ∧ tn i s'.heap ∧ (∀ b ∈ fp, H' b = none) ∧ W i n σ' H') ?_ m0 ⟨0, σ, H2, I2, st2, fun b hb => (f2 b hb).1, w0⟩
  rintro n s3 ⟨i, σ3, H3, I3, st3, fr3, w3⟩
  rcases turn i n σ3 H3 w3 with ⟨stop, qn⟩ | ⟨go, N, hN, step⟩
  · refine wpAny_passesOwn hp (thn (T.done X rfl rfl rfl hc i pins s3 σ3 H3 X.xe I3 (stat fr3) st3 stop) fun r s4 ⟨hr, I4⟩ => ?_)
    subst hr
    exact wpAny_execs_nil ⟨σ3, H3, I4, qn⟩
  · refine wpAny_passesOwn hp (thn (T.item X rfl rfl rfl hc i pins s3 σ3 H3 X.xe I3 (stat fr3) st3 go) fun r s4 ⟨u, hr, h4⟩ => ?_)
    subst hr
    refine wpAny_passesOwn hp (thn h4 fun _ s5 ⟨x, H5, I5, r5, y5, st5, fr5⟩ => ?_)
    have I5' := I5.pinned (stat fr5) (T.obj _ _ st5)
    refine wpAny_passesOwn hp (thn (hg _ s5 σ3 H5 x u _ I5' r5 (step x H5 y5)) fun _ s6 ⟨σ6, H6, I6, q6⟩ => ?_)
    refine wpAny_passesOwn hp (thn (hb _ s6 σ6 H6 _ I6 q6) fun f s7 q7 => ?_)
    have again : ∀ {σ7 : St} {H7 : Hp}, Inv X (pins ++ pinsAt fp s5.heap) σ7 H7 s7 → N σ7 H7 → ∃ m, m < n ∧ ∃ i σ' H', Inv X pins σ' H' s7 ∧ tn i s7.heap ∧ (∀ b ∈ fp, H' b = none) ∧ W i m σ' H' := fun {σ7 H7} I7 n7 => by
      obtain ⟨m', hm, w7⟩ := hN σ7 H7 n7
      refine ⟨m', hm, i + 1, σ7, H7, I7.unpinned, T.keep _ _ _ st5 fun b hb o e => (I7.pin (b, o) (List.mem_append_right _ (List.mem_append_right _ (mem_pinsAt hb e)))).1, fun b hb => ?_, w7⟩
      obtain ⟨o, e, d⟩ := T.obj _ _ st5 b hb
      exact (I7.pin (b, o) (List.mem_append_right _ (List.mem_append_right _ (mem_pinsAt hb e)))).2.1
    cases f with
    | next => obtain ⟨σ7, H7, I7, n7⟩ := q7; exact again I7 n7
    | cont => obtain ⟨σ7, H7, I7, n7⟩ := q7; exact again I7 n7
    | brk => obtain ⟨σ7, H7, I7, q7⟩ := q7; exact ⟨σ7, H7, I7.unpinned, q7⟩
    | ret v => obtain ⟨x7, σ7, H7, I7, r7, q7⟩ := q7; exact ⟨x7, σ7, H7, I7.unpinned, r7, q7⟩
end
theorem for_list {K : PySem.W.Frag} {a : Addr} {xs : List V} {g : TG} {tb : TS} {D : Ends} {σ : St} {H : Hp} (Pv : Nat → St → Hp → Prop) (h0 : Pv 0 σ H) (hl : ∀ i σ H, i ≤ xs.length → Pv i σ H → SqL K H a xs)
    (hs : ∀ i x σ H, xs[i]? = some x → Pv i σ H → g x σ H fun σ2 H2 => tb { D with nx := Pv (i + 1), ct := Pv (i + 1), bk := D.nx } σ2 H2) (hd : ∀ σ H, Pv xs.length σ H → D.nx σ H) :
    ∃ W : Nat → Nat → St → Hp → Prop, (∃ m, W 0 m σ H) ∧ ∀ i m σ H, W i m σ H →
      ((Itl K a).stop i H ∧ D.nx σ H) ∨ ((Itl K a).go i H ∧ ∃ N : St → Hp → Prop, (∀ σ' H', N σ' H' → ∃ m', m' < m ∧ W (i + 1) m' σ' H') ∧ ∀ x H', (Itl K a).yld i H x H' → g x σ H' fun σ2 H2 => tb { D with nx := N, ct := N, bk := D.nx } σ2 H2) := by
  refine ⟨fun i m σ H => m = xs.length - i ∧ i ≤ xs.length ∧ Pv i σ H, ⟨xs.length, by simp, Nat.zero_le _, h0⟩, ?_⟩
  rintro i m σ H ⟨rfl, hi, p⟩
  have q := hl i σ H hi p
  by_cases hlt : i < xs.length
  · refine .inr ⟨⟨xs, xs[i], q, by simp [hlt]⟩, Pv (i + 1), fun σ' H' p' => ⟨xs.length - (i + 1), by omega, rfl, hlt, p'⟩, fun x H' y => ?_⟩
    obtain ⟨e, y⟩ := y
    subst e
    exact hs i x σ _ (y xs q) p
  · have e : i = xs.length := by omega
    subst e
    exact .inl ⟨⟨xs, q, Nat.le_refl _⟩, hd σ H p⟩
theorem for_tup {K : PySem.W.Frag} {a : Addr} {xs : List V} {g : TG} {tb : TS} {D : Ends} {σ : St} {H : Hp} (Pv : Nat → St → Hp → Prop) (h0 : Pv 0 σ H) (hl : ∀ i σ H, i ≤ xs.length → Pv i σ H → SqT K H a xs)
    (hs : ∀ i x σ H, xs[i]? = some x → Pv i σ H → g x σ H fun σ2 H2 => tb { D with nx := Pv (i + 1), ct := Pv (i + 1), bk := D.nx } σ2 H2) (hd : ∀ σ H, Pv xs.length σ H → D.nx σ H) :
    ∃ W : Nat → Nat → St → Hp → Prop, (∃ m, W 0 m σ H) ∧ ∀ i m σ H, W i m σ H →
      ((Itt K a).stop i H ∧ D.nx σ H) ∨ ((Itt K a).go i H ∧ ∃ N : St → Hp → Prop, (∀ σ' H', N σ' H' → ∃ m', m' < m ∧ W (i + 1) m' σ' H') ∧ ∀ x H', (Itt K a).yld i H x H' → g x σ H' fun σ2 H2 => tb { D with nx := N, ct := N, bk := D.nx } σ2 H2) := by
  refine ⟨fun i m σ H => m = xs.length - i ∧ i ≤ xs.length ∧ Pv i σ H, ⟨xs.length, by simp, Nat.zero_le _, h0⟩, ?_⟩
  rintro i m σ H ⟨rfl, hi, p⟩
  have q := hl i σ H hi p
  by_cases hlt : i < xs.length
  · refine .inr ⟨⟨xs, xs[i], q, by simp [hlt]⟩, Pv (i + 1), fun σ' H' p' => ⟨xs.length - (i + 1), by omega, rfl, hlt, p'⟩, fun x H' y => ?_⟩
    obtain ⟨e, y⟩ := y
    subst e
    exact hs i x σ _ (y xs q) p
  · have e : i = xs.length := by omega
    subst e
    exact .inl ⟨⟨xs, q, Nat.le_refl _⟩, hd σ H p⟩
theorem for_range {lo : Int} {n : Nat} {g : TG} {tb : TS} {D : Ends} {σ : St} {H : Hp} (Pv : Nat → St → Hp → Prop) (h0 : Pv 0 σ H)
    (hs : ∀ i σ H, i < n → Pv i σ H → g (.int (lo + i)) σ H fun σ2 H2 => tb { D with nx := Pv (i + 1), ct := Pv (i + 1), bk := D.nx } σ2 H2) (hd : ∀ σ H, Pv n σ H → D.nx σ H) :
    ∃ W : Nat → Nat → St → Hp → Prop, (∃ m, W 0 m σ H) ∧ ∀ i m σ H, W i m σ H →
      ((Itr lo n).stop i H ∧ D.nx σ H) ∨ ((Itr lo n).go i H ∧ ∃ N : St → Hp → Prop, (∀ σ' H', N σ' H' → ∃ m', m' < m ∧ W (i + 1) m' σ' H') ∧ ∀ x H', (Itr lo n).yld i H x H' → g x σ H' fun σ2 H2 => tb { D with nx := N, ct := N, bk := D.nx } σ2 H2) := by
  refine ⟨fun i m σ H => m = n - i ∧ i ≤ n ∧ Pv i σ H, ⟨n, by simp, Nat.zero_le _, h0⟩, ?_⟩
  rintro i m σ H ⟨rfl, hi, p⟩
  by_cases hlt : i < n
  · refine .inr ⟨hlt, Pv (i + 1), fun σ' H' p' => ⟨n - (i + 1), by omega, rfl, hlt, p'⟩, fun x H' y => ?_⟩
    obtain ⟨e, y⟩ := y
    subst e y
    exact hs i σ _ hlt p
  · have e : i = n := by omega
    subst e
    exact .inl ⟨Nat.le_refl _, hd σ H p⟩
end L2
namespace L2
open PySem PySem.Spec PyProof.Rows
abbrev R2 := V → V → Hp → VK → Prop
def OpR (X : Cx) (f : Value → Value → Sem Value) (r : R2) : Prop :=
  ∀ (pins : List (Addr × Obj)) (s : Shared) (σ : St) (H : Hp) (x y : V) (v u : Value) (Q : VK), Inv X pins σ H s → RelV x v → RelV y u → r x y H Q →
    wpAny (model X.prog X.w) X.A (f v u) (EP X pins σ Q) X.xe s
def UnR (X : Cx) (f : Value → Sem Value) (r : V → Hp → VK → Prop) : Prop :=
  ∀ (pins : List (Addr × Obj)) (s : Shared) (σ : St) (H : Hp) (x : V) (v : Value) (Q : VK), Inv X pins σ H s → RelV x v → r x H Q →
    wpAny (model X.prog X.w) X.A (f v) (EP X pins σ Q) X.xe s
def CallR (X : Cx) (f : Value) (r : List V → Hp → VK → Prop) : Prop :=
  ∀ (pins : List (Addr × Obj)) (s : Shared) (σ : St) (H : Hp) (xs : List V) (us : List Value) (Q : VK), Inv X pins σ H s → Vals xs us → r xs H Q →
    wpAny (model X.prog X.w) X.A (call f us) (EP X pins σ Q) X.xe s
def tOp (r : R2) (ta tb : TE) : TE := fun σ H Q => ta σ H fun x H1 => tb σ H1 fun y H2 => r x y H2 Q
def tUn (r : V → Hp → VK → Prop) (ta : TE) : TE := fun σ H Q => ta σ H fun x H1 => r x H1 Q
def rI (C : Int → Int → Prop) (g : Int → Int → V) : R2 := fun x y H Q => ∃ i j, x = .int i ∧ y = .int j ∧ C i j ∧ Q (g i j) H
def rI0 (g : Int → Int → V) : R2 := fun x y H Q => ∃ i j, x = .int i ∧ y = .int j ∧ Q (g i j) H
def rU (g : Int → V) : V → Hp → VK → Prop := fun x H Q => ∃ i, x = .int i ∧ Q (g i) H
section
variable {X : Cx} {a b c : Expr} {ta tb tc : TE} {pos : Pos}
theorem binT (ha : PE X a ta) (hb : PE X b tb) {pins : List (Addr × Obj)} {s : Shared} {σ : St} {H : Hp} {R : V → V → Hp → Prop} (I : Inv X pins σ H s)
    (h : ta σ H fun x H1 => tb σ H1 fun y H2 => R x y H2) {Q : Value → Shared → Prop} {f : Value → Value → Sem Value}
    (hf : ∀ v u s2 x y H2, Inv X pins σ H2 s2 → RelV x v → RelV y u → R x y H2 → wpAny (model X.prog X.w) X.A (f v u) Q X.xe s2) :
    wpAny (model X.prog X.w) X.A (eval a X.env) (fun v s₁ => wpAny (model X.prog X.w) X.A (eval b X.env) (fun u s₂ => wpAny (model X.prog X.w) X.A (f v u) Q X.xe s₂) X.xe s₁) X.xe s := by
  refine thn (ha pins s σ H _ I h) fun v s1 ⟨x, H1, I1, r1, q1⟩ => ?_
  refine thn (hb pins s1 σ H1 _ I1 q1) fun u s2 ⟨y, H2, I2, r2, q2⟩ => ?_
  exact hf v u s2 x y H2 I2 r1 r2 q2
theorem pe_op {op : Operator} {r : R2} (ho : OpR X (binaryOp op) r) (ha : PE X a ta) (hb : PE X b tb) : PE X (.BinOp a op b pos) (tOp r ta tb) := by
  intro pins s σ H Q I h
  exact wpAny_BinOp (binT ha hb I h fun v u s2 x y H2 I2 rx ry q => ho pins s2 σ H2 x y v u Q I2 rx ry q)
theorem pe_un {op : UnaryOp} {r : V → Hp → VK → Prop} (ho : UnR X (unaryOp op) r) (ha : PE X a ta) : PE X (.UnaryOp op a pos) (tUn r ta) := by
  intro pins s σ H Q I h
  exact UnaryOp_ (thn (ha pins s σ H _ I h) fun v s1 ⟨x, H1, I1, r1, q1⟩ => ho pins s1 σ H1 x v Q I1 r1 q1)
theorem opI {f : Value → Value → Sem Value} {C : Int → Int → Prop} {g : Int → Int → Int}
    (rule : ∀ (i j : Int) (t u : Tok) (s : Shared) (Q : Value → Shared → Prop) (E : Value → Shared → Prop), C i j → Q (.int (g i j) s.toks) { s with toks := s.toks + 1 } → wpAny (model X.prog X.w) X.A (f (.int i t) (.int j u)) Q E s) :
    OpR X f (rI C fun i j => .int (g i j)) := by
  intro pins s σ H x y v u Q I rx ry h
  obtain ⟨i, j, rfl, rfl, hc, q⟩ := h
  obtain ⟨t, rfl⟩ := rx
  obtain ⟨t', rfl⟩ := ry
  exact rule i j t t' s _ _ hc ⟨.int (g i j), H, I.tok _, ⟨_, rfl⟩, q⟩
theorem opI0 {f : Value → Value → Sem Value} {g : Int → Int → Int}
    (rule : ∀ (i j : Int) (t u : Tok) (s : Shared) (Q : Value → Shared → Prop) (E : Value → Shared → Prop), Q (.int (g i j) s.toks) { s with toks := s.toks + 1 } → wpAny (model X.prog X.w) X.A (f (.int i t) (.int j u)) Q E s) :
    OpR X f (rI0 fun i j => .int (g i j)) := by
  intro pins s σ H x y v u Q I rx ry h
  obtain ⟨i, j, rfl, rfl, q⟩ := h
  obtain ⟨t, rfl⟩ := rx
  obtain ⟨t', rfl⟩ := ry
  exact rule i j t t' s _ _ ⟨.int (g i j), H, I.tok _, ⟨_, rfl⟩, q⟩
theorem opB0 {f : Value → Value → Sem Value} {g : Int → Int → Bool}
    (rule : ∀ (i j : Int) (t u : Tok) (s : Shared) (Q : Value → Shared → Prop) (E : Value → Shared → Prop), Q (.bool (g i j)) s → wpAny (model X.prog X.w) X.A (f (.int i t) (.int j u)) Q E s) :
    OpR X f (rI0 fun i j => .bl (g i j)) := by
  intro pins s σ H x y v u Q I rx ry h
  obtain ⟨i, j, rfl, rfl, q⟩ := h
  obtain ⟨t, rfl⟩ := rx
  obtain ⟨t', rfl⟩ := ry
  exact rule i j t t' s _ _ ⟨.bl (g i j), H, I, rfl, q⟩
def CDiv (i j : Int) : Prop := 0 < j ∧ j < 1073741824
def CPow (i j : Int) : Prop := 0 ≤ j ∧ j ≤ 1000000 ∧ i.natAbs < 2 ^ 64
def CMul (i j : Int) : Prop := (-(2 ^ 64) < i ∧ i < 2 ^ 64) ∨ (-(2 ^ 64) < j ∧ j < 2 ^ 64)
theorem CMul.ok {i j : Int} (h : CMul i j) : IntMulOk i j := by
  rcases h with ⟨h1, h2⟩ | ⟨h1, h2⟩
  · exact .of_left (intBits_le_64 h1 h2)
  · exact .of_right (intBits_le_64 h1 h2)
theorem op_add : OpR X (binaryOp .Add) (rI0 fun i j => .int (i + j)) := opI0 fun _ _ _ _ _ _ _ q => add_int q
theorem op_sub : OpR X (binaryOp .Sub) (rI0 fun i j => .int (i - j)) := opI0 fun _ _ _ _ _ _ _ q => sub_int q
theorem op_mul : OpR X (binaryOp .Mult) (rI CMul fun i j => .int (i * j)) := opI fun _ _ _ _ _ _ _ hc q => mul_int q hc.ok
theorem op_fdiv : OpR X (binaryOp .FloorDiv) (rI CDiv fun i j => .int (i / j)) := opI fun i j _ _ _ _ _ hc q => by
  have h1 : (0 : Int) < j := hc.1
  have h2 : j < 1073741824 := hc.2
  exact floordiv_int (by omega) (by rw [Int.fdiv_eq_ediv_of_nonneg i (by omega)]; exact q) (.inl (PyProof.noPylong_small (by omega)))
theorem op_mod : OpR X (binaryOp .Mod) (rI (fun _ j => 0 < j) fun i j => .int (i % j)) := opI fun i j _ _ _ _ _ hc q => by
  have h1 : (0 : Int) < j := hc
  exact mod_int' (by omega) (by rw [Int.fmod_eq_emod_of_nonneg i (by omega)]; exact q)
theorem op_pow : OpR X (binaryOp .Pow) (rI CPow fun i j => .int (i ^ j.toNat)) := opI fun _ _ _ _ _ _ _ hc q => pow_int_small hc.1 hc.2.1 hc.2.2 q
theorem unI {f : Value → Sem Value} {g : Int → Int}
    (rule : ∀ (i : Int) (t : Tok) (s : Shared) (Q : Value → Shared → Prop) (E : Value → Shared → Prop), Q (.int (g i) s.toks) { s with toks := s.toks + 1 } → wpAny (model X.prog X.w) X.A (f (.int i t)) Q E s) :
    UnR X f (rU fun i => .int (g i)) := by
  intro pins s σ H x v Q I rx h
  obtain ⟨i, rfl, q⟩ := h
  obtain ⟨t, rfl⟩ := rx
  exact rule i t s _ _ ⟨.int (g i), H, I.tok _, ⟨_, rfl⟩, q⟩
theorem un_neg : UnR X (unaryOp .USub) (rU fun i => .int (-i)) := unI fun _ _ _ _ _ q => neg_int q
end
def scal : V → V → Bool
  | .non, .non => true | .non, .int _ => true | .int _, .non => true | .non, .bl _ => true | .bl _, .non => true | .non, .str _ => true | .str _, .non => true
  | .int _, .int _ => true | .bl _, .bl _ => true | .str _, .str _ => true | .byt _, .byt _ => true
  | .int _, .str _ => true | .str _, .int _ => true | .bl _, .str _ => true | .str _, .bl _ => true
  | _, _ => false
def rEq : R2 := fun x y H Q => scal x y = true ∧ Q (.bl (decide (x = y))) H
def rNe : R2 := fun x y H Q => scal x y = true ∧ Q (.bl (!decide (x = y))) H
theorem dec_int {i j : Int} : decide (V.int i = V.int j) = (i == j) := by
  rw [Bool.eq_iff_iff]
  simp
theorem dec_bl {i j : Bool} : decide (V.bl i = V.bl j) = (i == j) := by
  rw [Bool.eq_iff_iff]
  simp
theorem dec_str {i j : Str} : decide (V.str i = V.str j) = (i == j) := by
  rw [Bool.eq_iff_iff]
  simp
theorem dec_byt {i j : Array UInt8} : decide (V.byt i = V.byt j) = (i.toList == j.toList) := by
  rw [Bool.eq_iff_iff]
  cases i
  cases j
  simp
section
variable {X : Cx} {a b c : Expr} {ta tb tc : TE} {pos : Pos}
theorem fin_bl {pins : List (Addr × Obj)} {σ : St} {H : Hp} {s : Shared} {Q : VK} {k k' : Bool} (I : Inv X pins σ H s) (q : Q (.bl k) H) (e : k = k') : EP X pins σ Q (.bool k') s := by
  subst e
  exact ⟨.bl k, H, I, rfl, q⟩
theorem op_eq : OpR X (compareOp .Eq) rEq := by
  intro pins s σ H x y v u Q I rx ry h
  obtain ⟨hs, q⟩ := h
  cases x with
  | non =>
    cases rx
    cases y with
    | non => cases ry; exact PySem.EqNone.eq_none_none (fin_bl I q (by simp))
    | bl j => cases ry; exact PySem.EqNone.eq_none_bool (fin_bl I q (by simp))
    | int j => obtain ⟨t', rfl⟩ := ry; exact PySem.EqNone.eq_none_int (fin_bl I q (by simp))
    | str j => obtain ⟨t', rfl⟩ := ry; exact PySem.EqNone.eq_none_str (fin_bl I q (by simp))
    | _ => exact absurd (show false = true from hs) Bool.false_ne_true
  | bl i =>
    cases rx
    cases y with
    | non => cases ry; exact PySem.EqNone.eq_bool_none (fin_bl I q (by simp))
    | bl j => cases ry; exact eq_bool (fin_bl I q dec_bl)
    | str j => obtain ⟨t', rfl⟩ := ry; exact PySem.EqMixed.eq_bool_str (fin_bl I q (by simp))
    | _ => exact absurd (show false = true from hs) Bool.false_ne_true
  | int i =>
    obtain ⟨t, rfl⟩ := rx
    cases y with
    | non => cases ry; exact PySem.EqNone.eq_int_none (fin_bl I q (by simp))
    | int j => obtain ⟨t', rfl⟩ := ry; exact eq_int (fin_bl I q dec_int)
    | str j => obtain ⟨t', rfl⟩ := ry; exact PySem.EqMixed.eq_int_str (fin_bl I q (by simp))
    | _ => exact absurd (show false = true from hs) Bool.false_ne_true
  | str i =>
    obtain ⟨t, rfl⟩ := rx
    cases y with
    | non => cases ry; exact PySem.EqNone.eq_str_none (fin_bl I q (by simp))
    | bl j => cases ry; exact PySem.EqMixed.eq_str_bool (fin_bl I q (by simp))
    | int j => obtain ⟨t', rfl⟩ := ry; exact PySem.EqMixed.eq_str_int (fin_bl I q (by simp))
    | str j => obtain ⟨t', rfl⟩ := ry; exact eq_str (fin_bl I q dec_str)
    | _ => exact absurd (show false = true from hs) Bool.false_ne_true
  | byt i =>
    obtain ⟨t, rfl⟩ := rx
    cases y with
    | byt j => obtain ⟨t', rfl⟩ := ry; exact PySem.W.eq_bytes (fin_bl I q dec_byt)
    | _ => exact absurd (show false = true from hs) Bool.false_ne_true
  | _ => cases y <;> exact absurd (show false = true from hs) Bool.false_ne_true
theorem op_ne : OpR X (compareOp .NotEq) rNe := by
  intro pins s σ H x y v u Q I rx ry h
  obtain ⟨hs, q⟩ := h
  cases x with
  | non =>
    cases rx
    cases y with
    | non => cases ry; exact PySem.EqNone.ne_none_none (fin_bl I q (by simp))
    | bl j => cases ry; exact PySem.EqNone.ne_none_bool (fin_bl I q (by simp))
    | int j => obtain ⟨t', rfl⟩ := ry; exact PySem.EqNone.ne_none_int (fin_bl I q (by simp))
    | str j => obtain ⟨t', rfl⟩ := ry; exact PySem.EqNone.ne_none_str (fin_bl I q (by simp))
    | _ => exact absurd (show false = true from hs) Bool.false_ne_true
  | bl i =>
    cases rx
    cases y with
    | non => cases ry; exact PySem.EqNone.ne_bool_none (fin_bl I q (by simp))
    | bl j => cases ry; exact ne_bool (fin_bl I q (congrArg not dec_bl))
    | str j => obtain ⟨t', rfl⟩ := ry; exact PySem.EqMixed.ne_bool_str (fin_bl I q (by simp))
    | _ => exact absurd (show false = true from hs) Bool.false_ne_true
  | int i =>
    obtain ⟨t, rfl⟩ := rx
    cases y with
    | non => cases ry; exact PySem.EqNone.ne_int_none (fin_bl I q (by simp))
    | int j => obtain ⟨t', rfl⟩ := ry; exact ne_int (fin_bl I q (congrArg not dec_int))
    | str j => obtain ⟨t', rfl⟩ := ry; exact PySem.EqMixed.ne_int_str (fin_bl I q (by simp))
    | _ => exact absurd (show false = true from hs) Bool.false_ne_true
  | str i =>
    obtain ⟨t, rfl⟩ := rx
    cases y with
    | non => cases ry; exact PySem.EqNone.ne_str_none (fin_bl I q (by simp))
    | bl j => cases ry; exact PySem.EqMixed.ne_str_bool (fin_bl I q (by simp))
    | int j => obtain ⟨t', rfl⟩ := ry; exact PySem.EqMixed.ne_str_int (fin_bl I q (by simp))
    | str j => obtain ⟨t', rfl⟩ := ry; exact ne_str (fin_bl I q (congrArg not dec_str))
    | _ => exact absurd (show false = true from hs) Bool.false_ne_true
  | byt i =>
    obtain ⟨t, rfl⟩ := rx
    cases y with
    | byt j => obtain ⟨t', rfl⟩ := ry; exact PySem.W.ne_bytes (fin_bl I q (congrArg not dec_byt))
    | _ => exact absurd (show false = true from hs) Bool.false_ne_true
  | _ => cases y <;> exact absurd (show false = true from hs) Bool.false_ne_true
theorem op_lt : OpR X (compareOp .Lt) (rI0 fun i j => .bl (decide (i < j))) := opB0 fun _ _ _ _ _ _ _ q => lt_int q
theorem op_le : OpR X (compareOp .LtE) (rI0 fun i j => .bl (decide (i ≤ j))) := opB0 fun _ _ _ _ _ _ _ q => le_int q
theorem op_gt : OpR X (compareOp .Gt) (rI0 fun i j => .bl (decide (j < i))) := opB0 fun _ _ _ _ _ _ _ q => gt_int q
theorem op_isN : OpR X (compareOp .Is) (fun x y H Q => y = .non ∧ Q (.bl (decide (x = .non))) H) := by
  intro pins s σ H x y v u Q I rx ry h
  obtain ⟨rfl, q⟩ := h
  cases ry
  refine is_none_gen (fin_bl I q ?_)
  cases x <;> first
    | (cases rx; rfl)
    | (obtain ⟨t, rfl⟩ := rx; rfl)
theorem op_notN : OpR X (compareOp .IsNot) (fun x y H Q => y = .non ∧ Q (.bl (!decide (x = .non))) H) := by
  intro pins s σ H x y v u Q I rx ry h
  obtain ⟨rfl, q⟩ := h
  cases ry
  refine isnot_none_gen (fin_bl I q ?_)
  cases x <;> first
    | (cases rx; rfl)
    | (obtain ⟨t, rfl⟩ := rx; rfl)
theorem OpR.or {f : Value → Value → Sem Value} {r r' : R2} (h : OpR X f r) (h' : OpR X f r') : OpR X f (fun x y H Q => r x y H Q ∨ r' x y H Q) := by
  intro pins s σ H x y v u Q I rx ry q
  rcases q with q | q
  · exact h pins s σ H x y v u Q I rx ry q
  · exact h' pins s σ H x y v u Q I rx ry q
theorem nomark (b : Expr) {op : CmpOp} (h : op ≠ .In := by decide) (h2 : op ≠ .NotIn := by decide) : behindInMarks op b = false := by
  have e1 : (op == CmpOp.In) = false := by cases op <;> first | rfl | exact absurd rfl h
  have e2 : (op == CmpOp.NotIn) = false := by cases op <;> first | rfl | exact absurd rfl h2
  cases b <;> simp [behindInMarks, e1, e2]
theorem pe_cmpR {op : CmpOp} {r : R2} (ho : OpR X (compareOp op) r) (ha : PE X a ta) (hb : PE X b tb) (hm : behindInMarks op b = false) : PE X (.Compare a [op] [b] pos) (tOp r ta tb) := by
  intro pins s σ H Q I h
  exact wpAny_Compare1 (binT ha hb I h fun v u s2 x y H2 I2 rx ry q => ho pins s2 σ H2 x y v u Q I2 rx ry q) hm
def tTest (t : TE) : TT := fun σ H Q => t σ H fun x H' => ∃ k, x = .bl k ∧ Q k H'
theorem pt_cmpR {op : CmpOp} {r : R2} (ho : OpR X (compareOp op) r) (ha : PE X a ta) (hb : PE X b tb) (hm : behindInMarks op b = false) : PT X (.Compare a [op] [b] pos) (tTest (tOp r ta tb)) := by
  intro pins s σ H Q I h
  refine wpAny_isTrue_Compare1 (thn (ha pins s σ H _ I h) fun v s1 ⟨x, H1, I1, r1, q1⟩ => thn (hb pins s1 σ H1 _ I1 q1) fun u s2 ⟨y, H2, I2, r2, q2⟩ =>
    thn (ho pins s2 σ H2 x y v u _ I2 r1 r2 q2) fun c s3 ⟨z, H3, I3, r3, k, e, q3⟩ => ?_) hm
  subst e
  cases r3
  exact wpAny_truthy_bool ⟨H3, I3, q3⟩
def tChain (r r' : R2) (ta tb tc : TE) : TE := fun σ H Q => ta σ H fun x H1 => tb σ H1 fun y H2 => r x y H2 fun z H3 => ∃ k, z = .bl k ∧
  (if k = true then tc σ H3 fun w' H4 => r' y w' H4 Q else Q (.bl false) H3)
theorem pt_chain {op op' : CmpOp} {r r' : R2} (ho : OpR X (compareOp op) r) (ho' : OpR X (compareOp op') r') (ha : PE X a ta) (hb : PE X b tb) (hc : PE X c tc)
    (hm : lastMarks [op, op'] [b, c] = false := by with_unfolding_all rfl) : PT X (.Compare a [op, op'] [b, c] pos) (tTest (tChain r r' ta tb tc)) := by
  intro pins s σ H Q I h
  refine isTrue_chain (thn (ha pins s σ H _ I h) fun v s1 ⟨x, H1, I1, r1, q1⟩ => test_link (thn (hb pins s1 σ H1 _ I1 q1) fun u s2 ⟨y, H2, I2, r2, q2⟩ =>
    thn (ho pins s2 σ H2 x y v u _ I2 r1 r2 q2) fun d s3 ⟨z, H3, I3, r3, k, e, q3⟩ => ?_)) hm
  subst e
  cases r3
  refine wpAny_truthy_bool ?_
  cases k with
  | false =>
    obtain ⟨k', e', q'⟩ := q3
    cases e'
    exact ite_ff ⟨H3, I3, q'⟩
  | true =>
    refine ite_tt (test_last (thn (hc pins s3 σ H3 _ I3 q3) fun w' s4 ⟨z', H4, I4, r4, q4⟩ => thn (ho' pins s4 σ H4 y z' u w' _ I4 r2 r4 q4) fun d' s5 ⟨z2, H5, I5, r5, k2, e2, q5⟩ => ?_))
    subst e2
    cases r5
    exact wpAny_truthy_bool ⟨H5, I5, q5⟩
theorem line63 : (sizeLine : Nat) < 2 ^ 63 := by rw [sizeLine_eq]; decide
theorem op_add_str : OpR X (binaryOp .Add) (fun x y H Q => ∃ i j, x = .str i ∧ y = .str j ∧ i.length + j.length ≤ sizeLine ∧ Q (.str (i ++ j)) H) := by
  intro pins s σ H x y v u Q I rx ry h
  obtain ⟨i, j, rfl, rfl, hz, q⟩ := h
  obtain ⟨t, rfl⟩ := rx
  obtain ⟨t', rfl⟩ := ry
  exact add_str (fun t' tk => ⟨.str (i ++ j), H, I.tok _, ⟨_, rfl⟩, q⟩) hz
theorem vals1 {x : V} {us : List Value} (r : Vals [x] us) : ∃ u, us = [u] ∧ RelV x u := by
  cases r with
  | cons r1 r2 => cases r2; exact ⟨_, rfl, r1⟩
theorem vals2 {x y : V} {us : List Value} (r : Vals [x, y] us) : ∃ u w', us = [u, w'] ∧ RelV x u ∧ RelV y w' := by
  cases r with
  | cons r1 r2 =>
    cases r2 with
    | cons r3 r4 => cases r4; exact ⟨_, _, rfl, r1, r3⟩
theorem call_min2 (hc : X.calm = true) : CallR X (.builtin "min") (fun xs H Q => ∃ i j, xs = [.int i, .int j] ∧ Q (.int (if j < i then j else i)) H) := by
  intro pins s σ H xs us Q I r h
  obtain ⟨i, j, rfl, q⟩ := h
  obtain ⟨u, w', rfl, ⟨t, rfl⟩, ⟨t', rfl⟩⟩ := vals2 r
  refine min_two_ints (I.ok.hd hc) fun h' tk k => ⟨_, H, I.kept k, ?_, q⟩
  by_cases hj : j < i
  · rw [if_pos hj, if_pos hj]; exact ⟨_, rfl⟩
  · rw [if_neg hj, if_neg hj]; exact ⟨_, rfl⟩
theorem call_int1 : CallR X (.type "int") (fun xs H Q => (∃ i, xs = [.int i] ∧ Q (.int i) H) ∨ ∃ k, xs = [.bl k] ∧ Q (.int (if k then 1 else 0)) H) := by
  intro pins s σ H xs us Q I r h
  rcases h with ⟨i, rfl, q⟩ | ⟨k, rfl, q⟩
  · obtain ⟨u, rfl, t, rfl⟩ := vals1 r
    exact call_int_int ⟨.int i, H, I, ⟨_, rfl⟩, q⟩
  · obtain ⟨u, rfl, r1⟩ := vals1 r
    cases r1
    exact call_int_bool ⟨.int (if k then 1 else 0), H, I.tok _, ⟨_, rfl⟩, q⟩
end
end L2
namespace L2
open PySem PySem.Spec PyProof.Rows
structure ObjM (h : Heap) (x dx C : Addr) (mA : Str → Option Value) : Prop where
  obj : h.get? x = some (PySem.W.instObj C dx)
  ns : h.Ns1 dx mA
  ne : dx ≠ x
theorem lookIn_ns {h : Heap} {dx : Addr} {mA : Str → Option Value} (n : h.Ns1 dx mA) : ∃ od, h.get? dx = some od ∧ ∀ name, PySem.W.lookIn name od = some (mA name) := by
  obtain ⟨o, es, ep, ho, hd, hk, _, hm⟩ := n
  refine ⟨o, ho, fun name => ?_⟩
  have e := hm name
  unfold nsFind findBy at e
  rw [← Array.find?_toList] at e
  unfold PySem.W.lookIn
  rw [hd]
  dsimp only
  split
  · rename_i y q
    rw [q] at e
    exact congrArg some e
  · rename_i q
    rw [q] at e
    have a : es.toList.any (·.refKey) = false := by
      rw [List.any_eq_false]
      intro y hy
      obtain ⟨z, t, hkey⟩ := hk y (Array.mem_toList_iff.mp hy)
      simp [DictEntry.refKey, hkey]
    have a' : ¬ es.toList.any (·.refKey) = true := by rw [a]; exact Bool.false_ne_true
    rw [if_neg a']
    exact congrArg some e
theorem ObjM.look {h : Heap} {x dx C : Addr} {mA : Str → Option Value} (I : ObjM h x dx C mA) : ∃ od, PySem.W.InstAt h x (PySem.W.instObj C dx) C (some od) ∧ ∀ name, PySem.W.lookIn name od = some (mA name) :=
  let ⟨od, ho, hl⟩ := lookIn_ns I.ns
  ⟨od, ⟨I.obj, rfl, rfl, ho⟩, hl⟩
section
variable {prog : Program} {w : World} {A : Around} {E : Value → Shared → Prop} {s : Shared} {K : PySem.W.Frag} {x dx C f : Addr} {mA : Str → Option Value} {name : Str} {v : Value}
theorem set_map {ns : List Str} {Q : Unit → Shared → Prop} (X : K.In s.heap) (I : ObjM s.heap x dx C mA)
    (hs : PySem.W.findIn K (.ref C) "__setattr__" = some (some (.builtin "object.__setattr__"))) (hp : PySem.W.plainOver K C = true) (ht : PySem.W.takerIn K C name = some none) (hh : PySem.W.hasDictIn K C = true)
    (hw : PySem.Within mA ns) (hsz : ns.length ≤ sizeLine)
    (h : ∀ h', ObjM h' x dx C (fun y => if y = name then some v else mA y) → Heap.SameBut dx s.heap h' → Q () { s with heap := h', toks := s.toks + 2 }) :
    wpAny (model prog w) A (setAttr (.ref x) name v) Q E s := by
  obtain ⟨od, J, hl⟩ := I.look
  refine PySem.W.set_plain X J hs (PySem.W.osa_open (s := { s with toks := s.toks + 1 }) (r := none) X J hp ht fun b => ?_)
  obtain ⟨cd, hc, hd'⟩ := PySem.W.any_some hh
  have hx : s.heap.get? x = some ⟨.ref C, some dx, .plain, #[]⟩ := I.obj
  refine wpAny_bind (wpAny_pure (wpAny_bind (wpAny_bind (wpAny_loadPart hx (wpAny_bind (PySem.W.Looks.here (s := { s with toks := s.toks + 1 }) (PySem.W.looks_clsIn X hc) ?_))))))
  rw [hd']
  refine wpAny_pure (a := some dx) (wpAny_bind (wpAny_pure (wpAny_bind ?_)))
  refine wpAny_nsSet1 (s := { s with toks := s.toks + 1 }) I.ns fun h' hn2 hs2 => ?_
  obtain ⟨oD, esD, epD, hoD, hdD, hcD⟩ := hn2.count (PySem.Within.cons name v hw)
  refine wpAny_bind (wpAny_lookBehind hoD (by rw [hdD]; exact pastItsLine_dict (Nat.le_trans hcD (by rw [List.length_cons]; omega))) ?_)
  exact wpAny_pure (h _ ⟨(hs2.2 _ (Ne.symm I.ne)).trans I.obj, hn2, I.ne⟩ hs2)
end
theorem RelO.some_of {v : V} {o : Option Value} (r : RelO (some v) o) : ∃ u, o = some u ∧ RelV v u := by
  cases o with
  | none => exact (show False from r).elim
  | some u => exact ⟨u, rfl, r⟩
section
variable {P : Program} {w : World} {H H' : Hp} {h h' : Heap} {a C dx : Addr} {fs fs' : List (Str × V)}
end
structure Cls (K : PySem.W.Frag) (C : Addr) : Prop where
  pg : PySem.W.plainGet K C Str.empty = true
  hd : PySem.W.hasDictIn K C = true
  po : PySem.W.plainOver K C = true
  sa : PySem.W.findIn K (.ref C) "__setattr__" = some (some (.builtin "object.__setattr__"))
theorem Cls.get {K : PySem.W.Frag} {C : Addr} (c : Cls K C) (f : Str) : PySem.W.plainGet K C f = true := c.pg
section
variable {X : Cx} {pins : List (Addr × Obj)} {σ : St} {H : Hp} {s : Shared} {a C dx : Addr} {fs : List (Str × V)} {f : Str} {v : V} {A : Around} {E : Value → Shared → Prop}
theorem attr_of {prog : Program} {w : World} {env : Env} {e : Expr} {f : Str} {pos : Pos} {s : Shared} {Q : Value → Shared → Prop} (hb : attributeBase e f env (eval e env) = eval e env)
    (h : wpAny (model prog w) A (eval e env) (fun o s₁ => wpAny (model prog w) A (getAttr o f true) Q E s₁) E s) : wpAny (model prog w) A (eval (.Attribute e f pos) env) Q E s :=
  Attribute_any_ h (by rw [arm_eval_Attribute, hb])
end
section
variable {X : Cx} {o e value : Expr} {f : Str} {pos pos' tpos : Pos} {ta tv : TE}
end
section
variable {X : Cx} {pins : List (Addr × Obj)} {σ : St} {H : Hp} {s : Shared} {A : Around} {E : Value → Shared → Prop} {Q : Value → Shared → Prop} {c : Value} {b : Bool}
end
end L2
namespace L2
open PySem PySem.Spec PyProof.Rows
structure Room (k : Nat) (A : Around) : Prop where
  hd : A.handled = none
  dp : A.depth + 3 * k + 5 < recursionLimit
  un : A.units + 16 * k + 200 < cLine
theorem Room.mono {j k : Nat} {A : Around} (r : Room k A) (h : j ≤ k) : Room j A := ⟨r.hd, by have := r.dp; omega, by have := r.un; omega⟩
theorem Room.deeper {k : Nat} {A : Around} (r : Room (k + 1) A) (env : Env) : Room k (A.deeper env) :=
  ⟨r.hd, by have := r.dp; show A.depth + 1 + 3 * k + 5 < _; omega, by have := r.un; show A.units + 3 + 16 * k + 200 < _; omega⟩
theorem Room.in1 {k : Nat} {A : Around} (r : Room (k + 1) A) : Room k A.in1 :=
  ⟨r.hd, by have := r.dp; show A.depth + 3 * k + 5 < _; omega, by have := r.un; show A.units + 1 + 16 * k + 200 < _; omega⟩
theorem make_depth {A : Around} {C : Addr} {us : List Value} {kw : List (Str × Value)} : (A.under (.builtin "type.__call__" ⟨.ref C :: us, kw⟩)).depth = A.depth + 1 := by
  first | rfl | simp [Around.under, Code.weight, Code.isCreation, Code.isGuard, Code.isCaller, Code.frames, Code.isFrame, guardIds]
theorem make_units {A : Around} {C : Addr} {us : List Value} {kw : List (Str × Value)} : (A.under (.builtin "type.__call__" ⟨.ref C :: us, kw⟩)).units = A.units + 1 := by
  first | rfl | simp [Around.under, Code.cUnits, Code.frames, Code.isFrame]
theorem Room.make {k : Nat} {A : Around} (r : Room (k + 1) A) (C : Addr) (us : List Value) (kw : List (Str × Value)) : Room k (A.under (.builtin "type.__call__" ⟨.ref C :: us, kw⟩)) :=
  ⟨r.hd, by have := r.dp; rw [make_depth]; omega, by have := r.un; rw [make_units]; omega⟩
theorem Room.depth {k : Nat} {A : Around} (r : Room k A) : A.depth < recursionLimit := by have := r.dp; omega
theorem Room.units {k : Nat} {A : Around} (r : Room k A) : A.units + 64 < cLine := by have := r.un; omega
def tNil : TA := fun _ H Q => Q [] H
def tCons (ta : TE) (tr : TA) : TA := fun σ H Q => ta σ H fun x H1 => tr σ H1 fun xs H2 => Q (x :: xs) H2
section
variable {X : Cx} {e : Expr} {es : List Expr} {te : TE} {t : TA} {pos : Pos}
theorem pa_nil : PA X [] tNil := fun _ _ _ _ H Q I h => Calls.spliced_nil ⟨[], H, I, .nil, h⟩
theorem pa_cons (ha : PE X e te) (hr : PA X es t) (hs : starEach (e :: es) X.env = (false, eval e X.env) :: starEach es X.env := by rfl) : PA X (e :: es) (tCons te t) := by
  intro pos pins s σ H Q I h
  rw [hs]
  show wpAny _ _ (spliced ((false, eval e X.env) :: backTo pos (starEach es X.env))) _ _ s
  refine Calls.spliced_cons (thn (ha pins s σ H _ I h) fun u s1 ⟨x, H1, I1, r1, q1⟩ => ?_)
  exact thn (hr pos pins s1 σ H1 _ I1 q1) fun us s2 ⟨xs, H2, I2, r2, q2⟩ => ⟨x :: xs, H2, I2, .cons r1 r2, q2⟩
def tTup (t : TA) : TE := fun σ H Q => t σ H fun xs H1 => xs.length ≤ sizeLine ∧ ∀ p, H1 p = none → Q (.ref p) (upd H1 p (.tup xs))
def tLst (t : TA) : TE := fun σ H Q => t σ H fun xs H1 => xs.length ≤ sizeLine ∧ ∀ p, H1 p = none → Q (.ref p) (upd H1 p (.lst xs))
theorem pe_tup {x1} (h : PA X es t) : PE X (.Tuple es x1 pos) (tTup t) := by
  intro pins s σ H Q I hq
  refine wpAny_Tuple_spliced (thn (h pos pins s σ H _ I hq) fun us s1 ⟨xs, H1, I1, r, z, q⟩ => ⟨by rw [← r.length]; exact z, ?_⟩)
  have hf : H1 s1.heap.objs.size = none := I1.hok.fresh (Nat.le_refl _)
  refine ⟨.ref s1.heap.objs.size, upd H1 s1.heap.objs.size (.tup xs), I1.laid (t' := s1.toks) (fun b u e => Heap.get?_push_of_some _ e) (Nat.le_refl _) ?_, rfl, q _ hf⟩
  exact ⟨z, us, r, ⟨_, Heap.get?_push_size _ rfl, rfl, rfl, _, rfl⟩⟩
theorem pe_lst (h : PA X es t) : PE X (.List es pos) (tLst t) := by
  intro pins s σ H Q I hq
  refine wpAny_List_spliced (thn (h pos pins s σ H _ I hq) fun us s1 ⟨xs, H1, I1, r, z, q⟩ => ⟨by rw [← r.length]; exact z, ?_⟩)
  have hf : H1 s1.heap.objs.size = none := I1.hok.fresh (Nat.le_refl _)
  refine ⟨.ref s1.heap.objs.size, upd H1 s1.heap.objs.size (.lst xs), I1.laid (t' := s1.toks) (fun b u e => Heap.get?_push_of_some _ e) (Nat.le_refl _) ?_, rfl, q _ hf⟩
  exact ⟨z, us, 0, r, Heap.get?_push_size _ rfl⟩
end
abbrev Sp := List V → Hp → VK → XK → Prop
abbrev CXT := List Env → Hp → Shared → XK → Value → Shared → Prop
structure Env0 (P : Program) (w : World) (K : PySem.W.Frag) (mg : Str → Option Value) (base : Heap) (A : Around) (outer : List Env) (s : Shared) (H : Hp) : Prop where
  frames : A.frames = some outer
  mod : Mod K mg base
  bs : ∀ b o, base.get? b = some o → s.heap.get? b = some o ∧ H b = none
  bsz : base.objs.size ≤ s.heap.objs.size
  funs : s.heap.FunFrames base outer
  frf : ∀ b ∈ frs outer, H b = none
  hok : HOk P w H s.heap
  bare : AllBare s.gens
def CE (outer : List Env) (P : Program) (w : World) (H : Hp) (s : Shared) (Q : VK) (u : Value) (s' : Shared) : Prop :=
  ∃ v H', s'.os = s.os ∧ AllBare s'.gens ∧ Un (frs outer) [] H H' s.heap s'.heap ∧ HOk P w H' s'.heap ∧ RelV v u ∧ Q v H'
def CR (CX : CXT) (outer : List Env) (P : Program) (w : World) (H : Hp) (s : Shared) (Q : VK) (E : XK) (r : Result) (s' : Shared) : Prop :=
  match r with
  | .ok (.ret u) => CE outer P w H s Q u s'
  | .ok _ => False
  | .error e => CX outer H s E e s'
structure FnOk (P : Program) (w : World) (K : PySem.W.Frag) (mg : Str → Option Value) (base : Heap) (CX : CXT) (k : Nat) (f : Addr) (fd : FuncData) (ps : List Str) (sp : Sp) : Prop where
  len : ∀ vs H Q E, sp vs H Q E → vs.length = ps.length
  run : ∀ (A : Around) (outer : List Env) (s : Shared) (H : Hp) (args : Args) (us : List Value) (vs : List V) (Q : VK) (E : XK), Room k A → Env0 P w K mg base A outer s H → BindsTo s fd args (ps.zip us) → Vals vs us → sp vs H Q E →
    codeAny (model P w) A (.call (.ref f) args) (CR CX outer P w H s Q E) s
theorem FnOk.mono {P : Program} {w : World} {K : PySem.W.Frag} {mg : Str → Option Value} {base : Heap} {CX : CXT} {j k : Nat} {f : Addr} {fd : FuncData} {ps : List Str} {sp : Sp} (F : FnOk P w K mg base CX j f fd ps sp) (h : j ≤ k) :
    FnOk P w K mg base CX k f fd ps sp := ⟨F.len, fun A outer s H args us vs Q E hr => F.run A outer s H args us vs Q E (hr.mono h)⟩
theorem FnOk.imp {P : Program} {w : World} {K : PySem.W.Frag} {mg : Str → Option Value} {base : Heap} {CX : CXT} {k : Nat} {f : Addr} {fd : FuncData} {ps : List Str} {sp sp' : Sp} (F : FnOk P w K mg base CX k f fd ps sp)
    (h : ∀ vs H Q E, sp' vs H Q E → sp vs H Q E) : FnOk P w K mg base CX k f fd ps sp' :=
  ⟨fun vs H Q E q => F.len vs H Q E (h _ _ _ _ q), fun A outer s H args us vs Q E hr he hb hv hs => F.run A outer s H args us vs Q E hr he hb hv (h _ _ _ _ hs)⟩
theorem Env0.make {P : Program} {w : World} {K : PySem.W.Frag} {mg : Str → Option Value} {base : Heap} {A : Around} {outer : List Env} {s : Shared} {H : Hp} (e : Env0 P w K mg base A outer s H) (C : Addr) (us : List Value) (kw : List (Str × Value)) :
    Env0 P w K mg base (A.under (.builtin "type.__call__" ⟨.ref C :: us, kw⟩)) outer s H := ⟨by first | exact e.frames | (simpa [Around.under, Code.envs, Code.isFrame, pushEnvs] using e.frames), e.mod, e.bs, e.bsz, e.funs, e.frf, e.hok, e.bare⟩
theorem Env0.in1 {P : Program} {w : World} {K : PySem.W.Frag} {mg : Str → Option Value} {base : Heap} {A : Around} {outer : List Env} {s : Shared} {H : Hp} (e : Env0 P w K mg base A outer s H) :
    Env0 P w K mg base A.in1 outer s H := ⟨e.frames, e.mod, e.bs, e.bsz, e.funs, e.frf, e.hok, e.bare⟩
section
variable {X : Cx} {pins : List (Addr × Obj)} {σ : St} {H : Hp} {s s' : Shared}
theorem Inv.env0 (I : Inv X pins σ H s) : Env0 X.prog X.w X.K X.mg X.base X.A X.stack s H :=
  ⟨I.ok.frames, I.ok.mod, I.bs, Nat.le_trans I.ok.bsz I.sz, I.stack, I.stkFree, I.hok, I.bare⟩
theorem Inv.after {Q : VK} {u : Value} (I : Inv X pins σ H s) (h : CE X.stack X.prog X.w H s Q u s') : EP X pins σ Q u s' := by
  obtain ⟨v, H', os, bare, un, hok, r, q⟩ := h
  obtain ⟨hh, g, d, t, os'⟩ := s'
  obtain rfl : os' = s.os := os
  exact ⟨v, H', I.call (h' := hh) (g' := g) (d' := d) (t' := t) (ch := []) un hok bare (fun b z => absurd z (by simp)), r, q⟩
end
def tCall (sp : Sp) (dvs : List V) (E : XK) (t : TA) : TE := fun σ H Q => t σ H fun vs H1 => sp (vs ++ dvs) H1 Q E
def Binds (K : PySem.W.Frag) (fd : FuncData) (ps : List Str) (ds : List Value) : Prop :=
  ∀ (s : Shared) (us : List Value), K.In s.heap → (us ++ ds).length = ps.length → BindsTo s fd ⟨us, []⟩ (ps.zip (us ++ ds))
theorem Binds.all {K : PySem.W.Frag} {fd : FuncData} {ps : List Str} (h : ∀ us : List Value, us.length = ps.length → bindArgs fd ⟨us, []⟩ = pure (ps.zip us)) : Binds K fd ps [] := fun s us _ hl => by
  rw [List.append_nil] at hl ⊢
  exact .of_eq (h us hl)
def Passes (CX : CXT) (X : Cx) (E : XK) : Prop := ∀ (pins : List (Addr × Obj)) (σ : St) (H : Hp) (s : Shared) (e : Value) (s' : Shared), Inv X pins σ H s → CX X.stack H s E e s' → X.xe e s'
section
variable {X : Cx} {CX : CXT} {k : Nat} {f C : Addr} {fd : FuncData} {ps : List Str} {sp : Sp} {dvs : List V} {ds : List Value} {E : XK} {x m : Str} {p pos apos : Pos} {e o : Expr} {es : List Expr} {ta : TE} {t : TA}
theorem run_fn {pins : List (Addr × Obj)} {σ : St} {H : Hp} {s : Shared} {Q : VK} {us : List Value} {vs : List V} (F : FnOk X.prog X.w X.K X.mg X.base CX k f fd ps sp) (hr : Room k X.A) (hb : Binds X.K fd ps ds) (hd : Vals dvs ds) (hx : Passes CX X E)
    (I : Inv X pins σ H s) (r : Vals vs us) (h : sp (vs ++ dvs) H Q E) : wpAny (model X.prog X.w) X.A (call (.ref f) us) (EP X pins σ Q) X.xe s := by
  have r2 : Vals (vs ++ dvs) (us ++ ds) := r.append hd
  have hl : (us ++ ds).length = ps.length := by rw [← r2.length]; exact F.len _ _ _ _ h
  refine wpAny_call (codeAny_mono (F.run X.A X.stack s H ⟨us, []⟩ (us ++ ds) (vs ++ dvs) Q E hr I.env0 (hb s us I.kIn hl) r2 h) fun r s' hq => ?_)
  cases r with
  | error e => exact hx pins σ H s e s' I hq
  | ok fl =>
    cases fl with
    | ret u => exact I.after hq
    | next => exact False.elim hq
    | brk => exact False.elim hq
    | cont => exact False.elim hq
theorem pe_call (F : FnOk X.prog X.w X.K X.mg X.base CX k f fd ps sp) (hr : Room k X.A) (hg : Gl X x) (hm : X.mg x = some (.ref f)) (hk : PySem.W.keepIn X.K (.ref f) = true) (hb : Binds X.K fd ps ds) (hd : Vals dvs ds) (hx : Passes CX X E)
    (ha : PA X (e :: es) t) (hdb : (x == ("__debug__" : Str)) = false := by decide) (he : starEach (e :: es) X.env = (false, eval e X.env) :: starEach es X.env := by rfl) (hpl : (backTo pos (starEach es X.env)).any (·.1) = false := by rfl) :
    PE X (.Call (.Name x p) (e :: es) [] pos) (tCall sp dvs E t) := by
  intro pins s σ H Q I h
  refine wpAny_Call_Name_kw (ld_glob I hg hm ?_ hdb)
  refine PySem.W.callWith_K (h₀ := X.base) I.ok.mod.kin hk (thn (ha pos pins s σ H _ I h) fun us s1 ⟨vs, H1, I1, r, q⟩ => ⟨I1.kIn, ?_⟩) he hpl
  exact run_fn F hr hb hd hx I1 r q
end
section
variable {X : Cx} {CX : CXT} {k : Nat} {f C : Addr} {fd : FuncData} {ps ks : List Str} {sp : Sp} {E : XK} {x m : Str} {p pos apos kpos : Pos} {e o : Expr} {es : List Expr} {kws : List Keyword} {te ta : TE} {t tk : TA} {nm : Option Str}
variable {g : List Value → List Value → List Value} {gV : List V → List V → List V}
end
structure FnScope (N P : List Str) (sc : Scope) : Prop where
  kind : sc.kind = .function
  co : sc.isCoroutine = false
  gen : sc.isGenerator = false
  nd : N.Nodup
  pre : N.take P.length = P
  par : ∀ x ∈ P, sc.names.lookup x = some .local ∨ sc.names.lookup x = some .cell
  nofree : ∀ y ∈ sc.names, y.2 ≠ .free
theorem bindL_out {kindOf : Str → Option NameKind} {x : Str} : ∀ {binds : List (Str × Value)} {m : Str → Option Value}, (∀ v, (x, v) ∉ binds) → bindL kindOf binds m x = m x
  | [], _, _ => rfl
  | (n, v) :: r, m, h => by
    unfold bindL
    rw [bindL_out fun w hw => h w (List.mem_cons_of_mem _ hw)]
    split
    · have : x ≠ n := by rintro rfl; exact h v List.mem_cons_self
      simp [this]
    · rfl
theorem bindC_out {kindOf : Str → Option NameKind} {x : Str} : ∀ {binds : List (Str × Value)} {m : Str → Option Value}, (∀ v, (x, v) ∉ binds) → bindC kindOf binds m x = m x
  | [], _, _ => rfl
  | (n, v) :: r, m, h => by
    unfold bindC
    rw [bindC_out fun w hw => h w (List.mem_cons_of_mem _ hw)]
    split
    · rfl
    · have : x ≠ n := by rintro rfl; exact h v List.mem_cons_self
      simp [this]
theorem bindL_get {kindOf : Str → Option NameKind} {x : Str} {v : Value} : ∀ {P : List Str} {vs : List Value} {i : Nat} {m : Str → Option Value}, P.Nodup → P[i]? = some x → vs[i]? = some v → kindOf x = some .local →
    bindL kindOf (P.zip vs) m x = some v
  | [], _, _, _, _, h, _, _ => by simp at h
  | _ :: _, [], _, _, _, _, h, _ => by simp at h
  | p :: P, w :: vs, 0, m, nd, h1, h2, hk => by
    simp at h1 h2; subst h1; subst h2
    show bindL kindOf ((p, w) :: P.zip vs) m p = _
    unfold bindL
    rw [bindL_out fun v hv => (List.nodup_cons.mp nd).1 (List.of_mem_zip hv).1, if_pos hk]
    simp
  | p :: P, w :: vs, i + 1, m, nd, h1, h2, hk => by
    show bindL kindOf ((p, w) :: P.zip vs) m x = _
    unfold bindL
    exact bindL_get (i := i) (List.nodup_cons.mp nd).2 (by simpa using h1) (by simpa using h2) hk
theorem bindC_get {kindOf : Str → Option NameKind} {x : Str} {v : Value} : ∀ {P : List Str} {vs : List Value} {i : Nat} {m : Str → Option Value}, P.Nodup → P[i]? = some x → vs[i]? = some v → kindOf x ≠ some .local →
    bindC kindOf (P.zip vs) m x = some v
  | [], _, _, _, _, h, _, _ => by simp at h
  | _ :: _, [], _, _, _, _, h, _ => by simp at h
  | p :: P, w :: vs, 0, m, nd, h1, h2, hk => by
    simp at h1 h2; subst h1; subst h2
    show bindC kindOf ((p, w) :: P.zip vs) m p = _
    unfold bindC
    rw [bindC_out fun v hv => (List.nodup_cons.mp nd).1 (List.of_mem_zip hv).1, if_neg hk]
    simp
  | p :: P, w :: vs, i + 1, m, nd, h1, h2, hk => by
    show bindC kindOf ((p, w) :: P.zip vs) m x = _
    unfold bindC
    exact bindC_get (i := i) (List.nodup_cons.mp nd).2 (by simpa using h1) (by simpa using h2) hk
def start (N : List Str) (vs : List V) : St := vs.map some ++ List.replicate (N.length - vs.length) none
def cxOf (CX : CXT) (P : Program) (w : World) (K : PySem.W.Frag) (mg : Str → Option Value) (base : Heap) (N : List Str) (qual : Str) (scope : Scope) (f : Addr) (cd : Value) (A : Around) (outer : List Env) (s : Shared) (H : Hp) (E : XK) : Cx where
  prog := P
  w := w
  K := K
  mg := mg
  base := base
  A := A.deeper (envOfC qual scope s.heap.objs.size f cd)
  N := N
  s_0 := s
  H_0 := H
  env := envOfC qual scope s.heap.objs.size f cd
  outer := outer
  stack := envOfC qual scope s.heap.objs.size f cd :: outer
  ex := []
  calm := true
  fn := fun _ => true
  pn := []
  xe := fun e s' => wpAny (model P w) (A.deeper (envOfC qual scope s.heap.objs.size f cd)) (leaving (envOfC qual scope s.heap.objs.size f cd) e) (fun _ s'' => CX outer H s E e s'') (fun e' s'' => CX outer H s E e' s'') s'
theorem cell_has {sc : Scope} {n : Nat} {x : Str} (h : sc.names.lookup x = some .cell) : ∃ c, (cellsFrom n sc.names []).lookup x = some c := by
  have q := PySem.W.cellsFrom_some sc.names n [] (.inl h)
  exact Option.isSome_iff_exists.mp q
theorem inv_start {CX : CXT} {P : Program} {w : World} {K : PySem.W.Frag} {mg : Str → Option Value} {base : Heap} {N ps : List Str} {qual : Str} {scope : Scope} {f : Addr} {cd : Value} {A : Around} {outer : List Env} {s s1 : Shared} {H : Hp} {E : XK} {us : List Value} {vs : List V}
    (S : FnScope N ps scope) (hd : A.handled = none) (e0 : Env0 P w K mg base A outer s H) (hl : vs.length = ps.length) (r : Vals vs us)
    (x : InCallC s s.heap.objs.size (bindL (envOfC qual scope s.heap.objs.size f cd).kindOf (ps.zip us) fun _ => none) (cellsFrom (s.heap.objs.size + 1) scope.names []) (bindC (envOfC qual scope s.heap.objs.size f cd).kindOf (ps.zip us) fun _ => none) s1) :
    Inv (cxOf CX P w K mg base N qual scope f cd A outer s H E) [] (start N vs) H s1 := by
  have hpl : ps.length ≤ N.length := by have := congrArg List.length S.pre; rw [List.length_take] at this; omega
  obtain ⟨h1, tk, rfl, hk⟩ := x.done
  have noA : ∀ b : Addr, b ∉ (cxOf CX P w K mg base N qual scope f cd A outer s H E).ex := fun b z => absurd (show b ∈ ([] : List Addr) from z) (by simp)
  refine ⟨⟨e0.mod, S.kind, rfl, rfl, Nat.le_refl _, fun y z c h1 h2 => ?_, fun y hy => ?_, fun y c _ h => ?_, fun _ => hd, Around.frames_deeper e0.frames, .inr ⟨rfl, rfl⟩, fun b z => absurd z (noA b), e0.bs, e0.bsz, fun b _ _ => noA b, fun b z => absurd z (noA b), e0.funs, e0.frf⟩,
    rfl, e0.bare, Un.kept hk, ⟨_, x.toInCall.ns, fun i y v h1 h2 h3 => ?_⟩, fun y c h => ⟨_, x.cell y c h⟩, e0.hok.fresh (Nat.le_refl _), fun y c h => ?_, fun p hp => absurd (show p ∈ ([] : List (Addr × Obj)) from hp) (by simp), e0.hok.kept hk, ?_⟩
  · exact name_of_addr x.apart (PySem.mem_of_lookup h1) (PySem.mem_of_lookup h2)
  · have hy : scope.names.lookup y = some .cell ∨ scope.names.lookup y = some .free := hy
    rcases hy with hy | hy
    · exact cell_has hy
    · exact absurd rfl (S.nofree _ (PySem.mem_of_lookup hy))
  · exact Nat.le_of_lt (x.above y c (PySem.mem_of_lookup h))
  · have hi : i < vs.length := by
      unfold start at h2
      by_cases hi : i < vs.length
      · exact hi
      · rw [List.getElem?_append_right (by simpa using hi)] at h2
        rw [List.getElem?_replicate] at h2
        split at h2 <;> cases h2
    have ha : vs[i]? = some v := by
      unfold start at h2
      rw [List.getElem?_append_left (by simpa using hi), List.getElem?_map] at h2
      cases e : vs[i]? with
      | none => rw [e] at h2; cases h2
      | some a => rw [e] at h2; cases h2; rfl
    obtain ⟨u, hu, rv⟩ := r.get ha
    have hp : ps[i]? = some y := by
      rw [← S.pre, List.getElem?_take_of_lt (by omega)]; exact h1
    have ndP : ps.Nodup := by rw [← S.pre]; exact S.nd.sublist (List.take_sublist _ _)
    refine ⟨u, rv, ?_⟩
    rcases S.par y (List.mem_of_getElem? hp) with k | k
    · exact .inl ⟨k, bindL_get ndP hp hu k⟩
    · obtain ⟨c, e⟩ := cell_has (n := s.heap.objs.size + 1) k
      refine .inr ⟨.inl k, c, e, ?_⟩
      have q := x.cell y c e
      rw [bindC_get ndP hp hu (by show scope.names.lookup y ≠ _; rw [k]; decide)] at q
      exact q
  · exact e0.hok.fresh (Nat.le_of_lt (x.above y c (PySem.mem_of_lookup h)))
  · unfold start
    show _ = N.length
    rw [List.length_append, List.length_map, List.length_replicate]
    omega
theorem fn_of {CX : CXT} {P : Program} {w : World} {K : PySem.W.Frag} {mg : Str → Option Value} {base : Heap} {k : Nat} {f : Addr} {name qual : Str} {params : Arguments} {body : List Stmt} {scope : Scope} {dV kV doc pm cdv ct oc : Value} {an od : Option Addr}
    {osl : Array (Option Value)} {N ps : List Str} {sp : Sp} (lk : K.lookup f = some ⟨oc, od, .func (PySem.W.fnOf name qual params body scope dV kV doc pm an cdv ct), osl⟩) (hcd : PySem.W.codeIn K cdv qual = true) (S : FnScope N ps scope)
    (len : ∀ vs H Q E, sp vs H Q E → vs.length = ps.length)
    (hbody : ∀ (A : Around) (outer : List Env) (s : Shared) (H : Hp) (vs : List V) (Q : VK) (E : XK), Room k (A.deeper (envOfC qual scope s.heap.objs.size f cdv)) → sp vs H Q E →
      ∃ t, PSs (cxOf CX P w K mg base N qual scope f cdv A outer s H E) body t ∧ t { nx := fun _ H' => Q .non H', rt := Q } (start N vs) H) :
    FnOk P w K mg base CX (k + 1) f (PySem.W.fnOf name qual params body scope dV kV doc pm an cdv ct) ps sp := by
  refine ⟨len, fun A outer s H args us vs Q E hr e0 hb r hsp => ?_⟩
  have hl := len _ _ _ _ hsp
  have KX : K.In s.heap := e0.mod.kin.keeps fun b o e => (e0.bs b o e).1
  have lim : s.heap.NoLimit := e0.mod.nolimit.keeps fun b o e => (e0.bs b o e).1
  have hkind : ∀ y ∈ ps.zip us, scope.names.lookup y.1 = some .local ∨ (scope.names.lookup y.1 = some .cell ∧ ((cellsFrom (s.heap.objs.size + 1) scope.names []).lookup y.1).isSome = true) := fun ⟨n, v⟩ hy => by
    rcases S.par n (List.of_mem_zip hy).1 with q | q
    · exact .inl q
    · exact .inr ⟨q, PySem.W.cellsFrom_some _ _ _ (.inl q)⟩
  refine codeAny_call_function hr.depth (KX _ _ lk) rfl S.co S.gen rfl (PySem.W.codeRec_of KX hcd) (hb _ _ _ _ ?_)
  refine wpAny_newFunctionEnv_cells S.kind hkind fun env he s1 x => ?_
  subst he
  refine ⟨lim.keeps x.toInCall.keep, codeAny_func ?_⟩
  obtain ⟨t, ht, hq⟩ := hbody A outer s H vs Q E (hr.deeper _) hsp
  have I : Inv (cxOf CX P w K mg base N qual scope f cdv A outer s H E) [] (start N vs) H s1 := inv_start S hr.hd e0 hl r x
  refine wpAny_mono (ht [] s1 (start N vs) H _ I hq) (fun fl s' hs => ?_) fun e s' hs => hs
  have fin : ∀ {σ' : St} {H' : Hp} {v : V} {u : Value}, Inv (cxOf CX P w K mg base N qual scope f cdv A outer s H E) [] σ' H' s' → RelV v u → Q v H' → CE outer P w H s Q u s' :=
    fun {σ' H' v u} J rv q => ⟨v, H', J.os, J.bare, J.base, J.hok, rv, q⟩
  cases fl with
  | ret u =>
    obtain ⟨v, σ', H', J, rv, q⟩ := hs
    exact fin J rv q
  | next =>
    obtain ⟨σ', H', J, q⟩ := hs
    exact fin (v := V.non) (u := Value.none) J rfl q
  | brk =>
    obtain ⟨_, _, _, q⟩ := hs
    exact False.elim q
  | cont =>
    obtain ⟨_, _, _, q⟩ := hs
    exact False.elim q
end L2
namespace L2
open PySem PySem.Spec PyProof.Rows
section
variable {X : Cx} {x : Str} {p pos : Pos} {e : Expr} {es : List Expr} {t : TA} {id T : String} {r : List V → Hp → VK → Prop}
def tCB (r : List V → Hp → VK → Prop) (t : TA) : TE := fun σ H Q => t σ H fun vs H1 => r vs H1 Q
theorem pe_callB (hc : CallR X (.builtin id) r) (hg : Gl X x) (hm : X.mg x = none) (hv : bootBuiltins x = some (.builtin id)) (ha : PA X (e :: es) t) (hn : x ≠ "__name__" := by decide) (hdb : (x == ("__debug__" : Str)) = false := by decide)
    (he : starEach (e :: es) X.env = (false, eval e X.env) :: starEach es X.env := by rfl) (hpl : (backTo pos (starEach es X.env)).any (·.1) = false := by rfl) : PE X (.Call (.Name x p) (e :: es) [] pos) (tCB r t) := by
  intro pins s σ H Q I h
  refine wpAny_Call_Name_kw (ld_blt I hg hm hv ?_ hn hdb)
  exact PyProof.Rows.callWith_builtin1 (thn (ha pos pins s σ H _ I h) fun us s1 ⟨vs, H1, I1, r1, q1⟩ => hc pins s1 σ H1 vs us Q I1 r1 q1) he hpl
theorem pe_callTy (hc : CallR X (.type T) r) (hg : Gl X x) (hm : X.mg x = none) (hv : bootBuiltins x = some (.type T)) (ha : PA X (e :: es) t) (hn : x ≠ "__name__" := by decide) (hdb : (x == ("__debug__" : Str)) = false := by decide)
    (he : starEach (e :: es) X.env = (false, eval e X.env) :: starEach es X.env := by rfl) (hpl : (backTo pos (starEach es X.env)).any (·.1) = false := by rfl) : PE X (.Call (.Name x p) (e :: es) [] pos) (tCB r t) := by
  intro pins s σ H Q I h
  refine wpAny_Call_Name_kw (ld_blt I hg hm hv ?_ hn hdb)
  exact PyProof.Rows.callWith_type1 (thn (ha pos pins s σ H _ I h) fun us s1 ⟨vs, H1, I1, r1, q1⟩ => hc pins s1 σ H1 vs us Q I1 r1 q1) he hpl
end
end L2
namespace HT
open PySem PyProof.Rows
section
open PySem.SeqAt
open PySem.AutoSeq1 (wpAny_loadPart')
open PySem.MeetsSeq PySem.MeetsSeq2 PySem.MeetsSeq3
end
section
variable {prog : Program} {w : World} {A : Around} {E : Value → Shared → Prop} {s : Shared}
def sIx (n d : Nat) : Option Int → Nat
  | none => d
  | some v => if v < 0 then (v + (n : Int)).toNat else min v.toNat n
theorem sIx_none (n d : Nat) : sIx n d none = d := rfl
theorem sIx_nat (n d k : Nat) : sIx n d (some (k : Int)) = min k n := by
  show (if (k : Int) < 0 then ((k : Int) + (n : Int)).toNat else min (k : Int).toNat n) = min k n
  rw [if_neg (by omega), Int.toNat_natCast]
theorem sIx_le (n d : Nat) (hd : d ≤ n) (o : Option Int) : sIx n d o ≤ n := by
  cases o with
  | none => exact hd
  | some v =>
    show (if v < 0 then (v + (n : Int)).toNat else min v.toNat n) ≤ n
    by_cases hv : v < 0
    · rw [if_pos hv]; omega
    · rw [if_neg hv]; exact Nat.min_le_right _ _
theorem clip_eq (v : Int) (n d : Nat) : (if v < 0 then max (v + (n : Int)) 0 else min v (n : Int)) = ((sIx n d (some v) : Nat) : Int) := by
  show (if v < 0 then max (v + (n : Int)) 0 else min v (n : Int)) = (((if v < 0 then (v + (n : Int)).toNat else min v.toNat n) : Nat) : Int)
  by_cases hv : v < 0
  · simp only [if_pos hv]; omega
  · simp only [if_neg hv]; omega
theorem adjust_gen (lo hi : Option Int) (n : Nat) : Builtin.Slice.sliceAdjust lo hi 1 (n : Int) = (((sIx n 0 lo : Nat) : Int), ((sIx n n hi : Nat) : Int)) := by
  have h1 : ¬ ((1 : Int) < 0) := by omega
  unfold Builtin.Slice.sliceAdjust
  simp only [h1, if_false]
  refine Prod.ext ?_ ?_
  · cases lo with
    | none => rfl
    | some v => exact clip_eq v n 0
  · cases hi with
    | none => rfl
    | some v => exact clip_eq v n n
theorem places_gen (i j : Nat) : Builtin.Slice.slicePlaces (i : Int) (j : Int) 1 = j - i := by
  unfold Builtin.Slice.slicePlaces
  have h1 : (1 : Int) > 0 := by omega
  simp only [h1, if_true, Int.ediv_one]
  split <;> omega
theorem slicePart_ {v : Value} {o : Option Int} {Q : Option Int → Shared → Prop} (p : IsPart v o) (h : Q o s) : wpAny (model prog w) A (Builtin.Slice.slicePartIndex v) Q E s := by
  cases p with
  | none => exact slicePart_none h
  | int i t => exact slicePart_int h
theorem sliceApplied_gen {sl : Addr} {vl vu : Value} {lo hi : Option Int} {n : Nat} {Q : Int × Int × Nat → Shared → Prop} (hs : s.heap.IsSliceOf sl vl vu .none) (pl : IsPart vl lo) (pu : IsPart vu hi)
    (h : Q (((sIx n 0 lo : Nat) : Int), 1, sIx n n hi - sIx n 0 lo) s) : wpAny (model prog w) A (Builtin.Slice.sliceApplied (.ref sl) (pure (n : Int))) Q E s := by
  obtain ⟨os, hos, hcs, hds⟩ := id hs
  unfold Builtin.Slice.sliceApplied Builtin.Slice.sliceFields
  refine wpAny_bind (wpAny_bind (wpAny_field hos hds (x := vl) rfl (wpAny_bind (wpAny_field hos hds (x := vu) rfl (wpAny_bind (wpAny_field hos hds (x := .none) rfl (wpAny_pure ?_)))))))
  refine wpAny_bind (slicePart_none ?_)
  show wpAny _ _ (if ((1 : Int) == 0) = true then _ else _) _ _ s
  rw [if_neg (by decide)]
  refine wpAny_bind (slicePart_ pl (wpAny_bind (slicePart_ pu (wpAny_bind (wpAny_pure ?_)))))
  show wpAny _ _ (match Builtin.Slice.sliceAdjust lo hi 1 (n : Int) with | (lo, hi) => pure (lo, (1 : Int), Builtin.Slice.slicePlaces lo hi 1)) _ _ s
  rw [adjust_gen lo hi n]
  show wpAny _ _ (pure (((sIx n 0 lo : Nat) : Int), (1 : Int), Builtin.Slice.slicePlaces ((sIx n 0 lo : Nat) : Int) ((sIx n n hi : Nat) : Int) 1)) _ _ s
  rw [places_gen]
  exact wpAny_pure h
theorem pick_gen (xs : Array Value) (i k : Nat) : ((List.range k).filterMap fun (m : Nat) => xs[((i : Int) + (m : Int) * 1).toNat]?).toArray = ((xs.toList.drop i).take k).toArray := by
  have e : (fun (m : Nat) => xs[((i : Int) + (m : Int) * 1).toNat]?) = fun m => xs[i + m]? := by
    funext m
    have : ((i : Int) + (m : Int) * 1).toNat = i + m := by omega
    rw [this]
  rw [e]
  have := pick_run xs i k
  rw [List.filterMap_map] at this
  have e2 : ((fun x => xs[x]?) ∘ fun x => i + x) = fun m => xs[i + m]? := rfl
  rw [e2] at this
  rw [this]
theorem getItem_tuple_cut {t sl : Addr} {items : Array Value} {vl vu : Value} {lo hi : Option Int} {Q : Value → Shared → Prop} (ht : IsTup s.heap t items) (hs : s.heap.IsSliceOf sl vl vu .none) (pl : IsPart vl lo) (pu : IsPart vu hi)
    (hw : ¬ (sIx items.size 0 lo = 0 ∧ sIx items.size items.size hi = items.size))
    (h : Q (.ref s.heap.objs.size) { s with heap := s.heap.push { cls := .type "tuple", data := .seq ((items.toList.drop (sIx items.size 0 lo)).take (sIx items.size items.size hi - sIx items.size 0 lo)).toArray } })
    (hsz : items.size ≤ sizeLine) : wpAny (model prog w) A (getItem (.ref t) (.ref sl)) Q E s := by
  have htake : sizeOk (.seq ((items.toList.drop (sIx items.size 0 lo)).take (sIx items.size items.size hi - sIx items.size 0 lo)).toArray) := by
    show ((items.toList.drop (sIx items.size 0 lo)).take (sIx items.size items.size hi - sIx items.size 0 lo)).toArray.size ≤ sizeLine
    rw [List.size_toArray, List.length_take, List.length_drop, Array.length_toList]
    omega
  have hj : sIx items.size items.size hi ≤ items.size := sIx_le _ _ (Nat.le_refl _) hi
  obtain ⟨os, hos, hcs, hds⟩ := id hs
  have hTs : s.TypeIs (.ref sl) "slice" := ⟨os, hos, hcs⟩
  unfold getItem
  try with_reducible refine wpAny_holding ?_
  first | refine wpAny_bind (wpAny_pure ?_) | skip
  refine wpAny_bind (wpAny_sequenceKey ht.typeIs (by decide) ?_)
  refine wpAny_bind (wpAny_callSpecial?_slot (name := Str.ofString "__getitem__") ht.typeIs PyProof.Rows.slot_tuple_getitem
    (wpAny_call_entry PyProof.Rows.slot_tuple_getitem ht.typeIs entry_tuple_getitem ?_ (args_tuple_getitem _ _)))
  show wpAny _ _ (Builtin.Tuple.tupleItemsOf (.ref t) >>= _) _ _ s
  refine wpAny_bind (tupleItemsOf_ ht ?_)
  refine wpAny_bind (wpAny_typeOf hTs ?_)
  rw [if_pos (by decide)]
  refine wpAny_bind (sliceApplied_gen hs pl pu ?_)
  have hno : ¬ ((((sIx items.size 0 lo : Nat) : Int) == 0 && (1 : Int) == 1 && (sIx items.size items.size hi - sIx items.size 0 lo) == items.size) = true) := by
    intro q
    rw [Bool.and_eq_true, Bool.and_eq_true] at q
    have q1 : ((sIx items.size 0 lo : Nat) : Int) = 0 := eq_of_beq q.1.1
    have q2 : sIx items.size items.size hi - sIx items.size 0 lo = items.size := eq_of_beq q.2
    exact hw ⟨by omega, by omega⟩
  show wpAny _ _ (if (((sIx items.size 0 lo : Nat) : Int) == 0 && (1 : Int) == 1 && (sIx items.size items.size hi - sIx items.size 0 lo) == items.size) = true then _ else _) _ _ s
  rw [if_neg hno, pick_gen]
  first
    | exact wpAny_bind (m := Builtin.Tuple.tupleExact _) (wpAny_newObj_type (wpAny_pure ⟨_, rfl, wpAny_pure h⟩) htake)
    | exact wpAny_bind (m := Builtin.Tuple.tupleExact _) (wpAny_newObj_type (wpAny_bind (wpAny_pure (wpAny_pure ⟨_, rfl, wpAny_pure h⟩))) htake)
    | exact wpAny_bind (wpAny_bind (m := Builtin.Tuple.tupleExact _) (wpAny_newObj_type (wpAny_pure (wpAny_pure ⟨_, rfl, wpAny_pure h⟩)) htake))
    | exact wpAny_bind (wpAny_bind (m := Builtin.Tuple.tupleExact _) (wpAny_newObj_type (wpAny_pure ⟨_, rfl, wpAny_pure h⟩) htake))
end
end HT
namespace L2
open PySem PySem.Spec PyProof.Rows
abbrev TO := St → Hp → (Option Int → Hp → Prop) → Prop
def PO (X : Cx) (e : Option Expr) (t : TO) : Prop :=
  ∀ (pins : List (Addr × Obj)) (s : Shared) (σ : St) (H : Hp) (Q : Option Int → Hp → Prop), Inv X pins σ H s → t σ H Q →
    wpAny (model X.prog X.w) X.A (evalPart e X.env) (fun u s' => ∃ o H', Inv X pins σ H' s' ∧ IsPart u o ∧ Q o H') X.xe s
def tNoPart : TO := fun _ H Q => Q none H
def tPart (t : TE) : TO := fun σ H Q => t σ H fun x H1 => ∃ i, x = .int i ∧ Q (some i) H1
section
variable {X : Cx} {e : Expr} {te : TE} {lo hi : Option Expr} {tl th : TO} {pos p2 : Pos}
theorem po_none : PO X none tNoPart := by
  intro pins s σ H Q I h
  rw [evalPart_none]
  exact wpAny_pure ⟨none, H, I, .none, h⟩
theorem po_some (h : PE X e te) : PO X (some e) (tPart te) := by
  intro pins s σ H Q I hw
  rw [evalPart_some]
  refine thn (h pins s σ H _ I hw) fun u s1 ⟨x, H1, I1, r1, q1⟩ => ?_
  obtain ⟨i, rfl, q⟩ := q1
  obtain ⟨t, rfl⟩ := r1
  exact ⟨some i, H1, I1, .int i t, q⟩
def SlR (X : Cx) (r : V → Option Int → Option Int → Hp → VK → Prop) : Prop :=
  ∀ (pins : List (Addr × Obj)) (s : Shared) (σ : St) (H : Hp) (x : V) (v vl vu : Value) (lo hi : Option Int) (sl : Addr) (Q : VK), Inv X pins σ H s → RelV x v → s.heap.IsSliceOf sl vl vu .none → IsPart vl lo → IsPart vu hi → r x lo hi H Q →
    ∃ T id, typeLookup (.type T) "__getitem__" = pure (some (.builtin id)) ∧ s.TypeIs v T ∧ wpAny (model X.prog X.w) X.A (getItem v (.ref sl)) (EP X pins σ Q) X.xe s
theorem SlR.or {r r' : V → Option Int → Option Int → Hp → VK → Prop} (h : SlR X r) (h' : SlR X r') : SlR X (fun x lo hi H Q => r x lo hi H Q ∨ r' x lo hi H Q) := by
  intro pins s σ H x v vl vu lo hi sl Q I rx hs pl pu q
  rcases q with q | q
  · exact h pins s σ H x v vl vu lo hi sl Q I rx hs pl pu q
  · exact h' pins s σ H x v vl vu lo hi sl Q I rx hs pl pu q
def tSl (r : V → Option Int → Option Int → Hp → VK → Prop) (te : TE) (tl th : TO) : TE := fun σ H Q => te σ H fun x H1 => tl σ H1 fun l H2 => th σ H2 fun u H3 => r x l u H3 Q
theorem pe_slice {r : V → Option Int → Option Int → Hp → VK → Prop} (hr : SlR X r) (he : PE X e te) (hl : PO X lo tl) (hu : PO X hi th) : PE X (.Subscript e (.Slice lo hi none p2) pos) (tSl r te tl th) := by
  intro pins s σ H Q I h
  refine Subscript_ (thn (he pins s σ H _ I h) fun v s1 ⟨x, H1, I1, r1, q1⟩ => ?_)
  refine wpAny_Slice (thn (hl pins s1 σ H1 _ I1 q1) fun vl s2 ⟨l, H2, I2, pl, q2⟩ => thn (hu pins s2 σ H2 _ I2 q2) fun vu s3 ⟨u, H3, I3, pu, q3⟩ => ?_)
  rw [evalPart_none]
  refine wpAny_pure ?_
  have I4 : Inv X pins σ H3 { s3 with heap := s3.heap.push { cls := .type "slice", data := .fields #[vl, vu, .none] } } := I3.kept (t' := s3.toks) fun b ob q => Heap.get?_push_of_some _ q
  obtain ⟨T, id, hT, ht, hg⟩ := hr pins { s3 with heap := s3.heap.push { cls := .type "slice", data := .fields #[vl, vu, .none] } } σ H3 x v vl vu l u s3.heap.objs.size Q I4 r1 (Heap.IsSliceOf.new ..) pl pu q3
  show wpAny (model X.prog X.w) X.A (subscriptTail e (.Slice lo hi none p2) v (.ref s3.heap.objs.size)) (EP X pins σ Q) X.xe { s3 with heap := s3.heap.push { cls := .type "slice", data := .fields #[vl, vu, .none] } }
  exact tail_any (ops := [.ref s3.heap.objs.size, v]) ht hT hg (by with_unfolding_all rfl)
def cutV (xs : List V) (lo hi : Option Int) : List V := (xs.drop (HT.sIx xs.length 0 lo)).take (HT.sIx xs.length xs.length hi - HT.sIx xs.length 0 lo)
theorem cutV_length (xs : List V) (lo hi : Option Int) : (cutV xs lo hi).length ≤ xs.length := by
  unfold cutV
  rw [List.length_take, List.length_drop]
  omega
def rSlT (K : PySem.W.Frag) : V → Option Int → Option Int → Hp → VK → Prop := fun x lo hi H Q => ∃ a xs, x = .ref a ∧ SqT K H a xs ∧
  ¬ (HT.sIx xs.length 0 lo = 0 ∧ HT.sIx xs.length xs.length hi = xs.length) ∧ ∀ p, H p = none → Q (.ref p) (upd H p (.tup (cutV xs lo hi)))
theorem sl_tup : SlR X (rSlT X.K) := by
  intro pins s σ H x v vl vu lo hi sl Q I rx hs pl pu h
  obtain ⟨a, xs, rfl, hx, hw, q⟩ := h
  cases rx
  obtain ⟨its, r, ht, hz⟩ := I.tuple hx
  have hlen : its.toArray.size = xs.length := by rw [List.size_toArray]; exact r.length.symm
  refine ⟨"tuple", _, PyProof.Rows.slot_tuple_getitem.lookup, ht.typeIs, ?_⟩
  refine HT.getItem_tuple_cut ht hs pl pu (by rw [hlen]; exact hw) ?_ (by rw [hlen]; exact hz)
  rw [hlen]
  refine ⟨.ref s.heap.objs.size, _, I.laid (t' := s.toks) (o := .tup (cutV xs lo hi)) (fun b ob q => Heap.get?_push_of_some _ q) (Nat.le_refl _) ?_, rfl, q _ (I.hok.fresh (Nat.le_refl _))⟩
  exact ⟨Nat.le_trans (cutV_length xs lo hi) hz, _, (r.drop (HT.sIx xs.length 0 lo)).take (HT.sIx xs.length xs.length hi - HT.sIx xs.length 0 lo), TupN.new _ _⟩
end
end L2
namespace L2
open PySem PySem.Spec PyProof.Rows
def ixN (n : Nat) (i : Int) : Option Nat := if 0 ≤ i then (if i < n then some i.toNat else none) else if -(n : Int) ≤ i then some (i + n).toNat else none
def atI {α : Type} (xs : List α) (i : Int) : Option α := (ixN xs.length i).bind fun j => xs[j]?
theorem ixN_seq {n : Nat} {i : Int} {j : Nat} (h : ixN n i = some j) : seqIndex? i n = some j ∧ j < n ∧ -(n : Int) ≤ i ∧ i < n := by
  unfold ixN at h
  by_cases h0 : 0 ≤ i
  · rw [if_pos h0] at h
    by_cases h1 : i < n
    · rw [if_pos h1] at h
      have e : i.toNat = j := Option.some.inj h
      exact ⟨by rw [seqIndex_of h0 h1, e], by omega, by omega, h1⟩
    · rw [if_neg h1] at h; cases h
  · rw [if_neg h0] at h
    by_cases h1 : -(n : Int) ≤ i
    · rw [if_pos h1] at h
      have e : (i + n).toNat = j := Option.some.inj h
      exact ⟨by rw [seqIndex_neg (by omega) h1, e], by omega, h1, by omega⟩
    · rw [if_neg h1] at h; cases h
theorem atI_get {α : Type} {xs : List α} {i : Int} {v : α} (h : atI xs i = some v) : ∃ j, seqIndex? i xs.length = some j ∧ xs[j]? = some v ∧ j < xs.length ∧ -(xs.length : Int) ≤ i ∧ i < xs.length := by
  unfold atI at h
  cases e : ixN xs.length i with
  | none => rw [e] at h; cases h
  | some j =>
    rw [e] at h
    obtain ⟨h1, h2, h3, h4⟩ := ixN_seq e
    exact ⟨j, h1, h, h2, h3, h4⟩
theorem atI_nat {α : Type} {xs : List α} {j : Nat} {v : α} (h : xs[j]? = some v) : atI xs (j : Int) = some v := by
  have hj : j < xs.length := (List.getElem?_eq_some_iff.mp h).1
  have e : ixN xs.length (j : Int) = some j := by
    unfold ixN
    rw [if_pos (by omega), if_pos (by omega)]; simp
  unfold atI; rw [e]; exact h
def PlainIx (b : Expr) : Prop := ∀ o i, subscripted b false o i = operate [o, i] (getItem o i)
def IxR (X : Cx) (r : R2) : Prop :=
  ∀ (value slice : Expr) (pins : List (Addr × Obj)) (s : Shared) (σ : St) (H : Hp) (x y : V) (v u : Value) (Q : VK), Inv X pins σ H s → RelV x v → RelV y u → r x y H Q →
    subscripted slice false v u = operate [v, u] (getItem v u) → wpAny (model X.prog X.w) X.A (subscriptTail value slice v u) (EP X pins σ Q) X.xe s
def MtR (X : Cx) (id : String) (r : V → List V → Hp → VK → Prop) : Prop :=
  ∀ (pins : List (Addr × Obj)) (s : Shared) (σ : St) (H : Hp) (x : V) (xs : List V) (v : Value) (us : List Value) (Q : VK), Inv X pins σ H s → RelV x v → Vals xs us → r x xs H Q →
    wpAny (model X.prog X.w) X.A (call (.builtin id) (v :: us)) (EP X pins σ Q) X.xe s
section
variable {X : Cx} {a b : Expr} {ta tb : TE} {pos : Pos}
theorem IxR.or {r r' : R2} (h : IxR X r) (h' : IxR X r') : IxR X (fun x y H Q => r x y H Q ∨ r' x y H Q) := by
  intro value slice pins s σ H x y v u Q I rx ry q hs
  rcases q with q | q
  · exact h value slice pins s σ H x y v u Q I rx ry q hs
  · exact h' value slice pins s σ H x y v u Q I rx ry q hs
theorem MtR.or {id : String} {r r' : V → List V → Hp → VK → Prop} (h : MtR X id r) (h' : MtR X id r') : MtR X id (fun x xs H Q => r x xs H Q ∨ r' x xs H Q) := by
  intro pins s σ H x xs v us Q I rx rs q
  rcases q with q | q
  · exact h pins s σ H x xs v us Q I rx rs q
  · exact h' pins s σ H x xs v us Q I rx rs q
theorem pe_ix {r : R2} (hr : IxR X r) (ha : PE X a ta) (hb : PE X b tb) (hs : PlainIx b) : PE X (.Subscript a b pos) (tOp r ta tb) := by
  intro pins s σ H Q I h
  exact Subscript_ (binT ha hb I h fun v u s2 x y H2 I2 rx ry q => hr a b pins s2 σ H2 x y v u Q I2 rx ry q (hs _ _))
def rIxL (K : PySem.W.Frag) : R2 := fun x y H Q => ∃ p xs i v, x = .ref p ∧ y = .int i ∧ SqL K H p xs ∧ atI xs i = some v ∧ Q v H
def rIxT (K : PySem.W.Frag) : R2 := fun x y H Q => ∃ p xs i v, x = .ref p ∧ y = .int i ∧ SqT K H p xs ∧ atI xs i = some v ∧ Q v H
def rIxS : R2 := fun x y H Q => ∃ z i c, x = .str z ∧ y = .int i ∧ z.length ≤ sizeLine ∧ atI z.cps.toList i = some c ∧ Q (.str ⟨#[c]⟩) H
theorem ix_list : IxR X (rIxL X.K) := by
  intro value slice pins s σ H x y v u Q I rx ry h hs
  obtain ⟨p, xs, i, z, rfl, rfl, hq, he, q⟩ := h
  cases rx
  obtain ⟨t, rfl⟩ := ry
  obtain ⟨its, r, pl, hz⟩ := I.list hq
  obtain ⟨j, h1, h2, h3, h4, h5⟩ := atI_get he
  obtain ⟨w, ew, rw'⟩ := r.get h2
  have hl := r.length
  have hn := line63
  have fin : EP X pins σ Q w s := ⟨z, H, I, rw', q⟩
  by_cases h0 : 0 ≤ i
  · have hj : i.toNat = j := by
      rw [seqIndex_of h0 h5] at h1
      exact Option.some.inj h1
    exact item_listR pl.isList h0 (by omega) (by rw [hj]; simpa using ew) fin hs
  · have hj : (i + (its.toArray.size : Int)).toNat = j := by
      rw [seqIndex_neg (by omega) h4] at h1
      rw [List.size_toArray, ← hl]
      exact Option.some.inj h1
    exact subscriptTail_builtinR (x := w) pl.isList.typeIs slot_list_getitem.lookup
      (wpAny_getItem_list_neg (Q := fun r s' => r = w ∧ EP X pins σ Q r s') pl.isList (by omega) (by rw [List.size_toArray] <;> omega) (by omega) (by rw [hj]; simpa using ew) ⟨rfl, fin⟩) hs
theorem ix_tup : IxR X (rIxT X.K) := by
  intro value slice pins s σ H x y v u Q I rx ry h hs
  obtain ⟨p, xs, i, z, rfl, rfl, hq, he, q⟩ := h
  cases rx
  obtain ⟨t, rfl⟩ := ry
  obtain ⟨its, r, pl, hz⟩ := I.tuple hq
  obtain ⟨j, h1, h2, h3, h4, h5⟩ := atI_get he
  obtain ⟨w, ew, rw'⟩ := r.get h2
  have hl := r.length
  have hn := line63
  have fin : EP X pins σ Q w s := ⟨z, H, I, rw', q⟩
  exact subscriptTail_builtinR (x := w) pl.typeIs slot_tuple_getitem.lookup
    (getItem_tuple (j := j) (Q := fun r s' => r = w ∧ EP X pins σ Q r s') pl (by omega) (by omega) (by rw [List.size_toArray, ← hl]; exact h1) (by simpa using ew) ⟨rfl, fin⟩) hs
theorem ix_str : IxR X rIxS := by
  intro value slice pins s σ H x y v u Q I rx ry h hs
  obtain ⟨z, i, c, rfl, rfl, hz, he, q⟩ := h
  obtain ⟨t, rfl⟩ := rx
  obtain ⟨t', rfl⟩ := ry
  obtain ⟨j, h1, h2, h3, h4, h5⟩ := atI_get he
  have hl : z.cps.toList.length = z.length := by simp [Str.length]
  rw [hl] at h1 h4 h5
  have hn := line63
  exact tail_any (typeIs_str s z t) slot_str_getitem.lookup (getItem_str (c := c) (by
    have e1 : decide (i < -(2 ^ 63 : Int)) = false := decide_eq_false (by omega)
    have e2 : decide (i ≥ 2 ^ 63) = false := decide_eq_false (by omega)
    rw [e1, e2, Bool.or_false]) (by rw [h1]; simpa using h2) ⟨.str ⟨#[c]⟩, H, I.tok _, ⟨_, rfl⟩, q⟩) hs
def rIx (K : PySem.W.Frag) : R2 := fun x y H Q => rIxL K x y H Q ∨ rIxT K x y H Q ∨ rIxS x y H Q
theorem ix_seq : IxR X (rIx X.K) := ix_list.or (ix_tup.or ix_str)
theorem mapSeq_set (its : List Value) (n j : Nat) (u : Value) : Obj.mapSeq (·.setIfInBounds j u) { cls := .type "list", data := .seq its.toArray n } = { cls := .type "list", data := .seq (its.set j u).toArray n } := by
  simp [Obj.mapSeq]
theorem Inv.lst {pins : List (Addr × Obj)} {σ : St} {H : Hp} {s : Shared} {p : Addr} {xs : List V} (I : Inv X pins σ H s) (h : H p = some (.lst xs)) :
    ∃ (its : List Value) (n : Nat), Vals xs its ∧ s.heap.get? p = some { cls := .type "list", data := .seq its.toArray n } ∧ xs.length ≤ sizeLine := by
  obtain ⟨z, its, n, r, e⟩ := I.hok p _ h
  exact ⟨its, n, r, e, z⟩
theorem Inv.lstUpd {pins : List (Addr × Obj)} {σ : St} {H : Hp} {s : Shared} {p : Addr} {xs ys : List V} {its its' : List Value} {n n' : Nat} {f : Obj → Obj} (I : Inv X pins σ H s) (h : H p = some (.lst xs))
    (ho : s.heap.get? p = some { cls := .type "list", data := .seq its.toArray n }) (hf : f { cls := .type "list", data := .seq its.toArray n } = { cls := .type "list", data := .seq its'.toArray n' }) (r : Vals ys its') (hz : ys.length ≤ sizeLine) (t : Nat) :
    Inv X pins σ (upd H p (.lst ys)) { s with heap := s.heap.update p f, toks := t } := by
  have e : (s.heap.update p f).get? p = some { cls := .type "list", data := .seq its'.toArray n' } := by
    rw [Heap.get?_update_self f ho (by rw [hf] <;> rfl), hf]
  refine I.write (x := p) (e := p) (by rw [h]; trivial) (.inl rfl) (fun b u hb q => (Heap.get?_update_other _ _ (Ne.symm hb)).trans q) ⟨_, e⟩ ?_
  exact ⟨hz, its', n', r, e⟩
def rSetL : V → V → V → Hp → (Hp → Prop) → Prop := fun o i v H Q => ∃ p xs k j, o = .ref p ∧ i = .int k ∧ H p = some (.lst xs) ∧ ixN xs.length k = some j ∧ Q (upd H p (.lst (xs.set j v)))
theorem set_list : PSet X rSetL := by
  intro pins s σ H o i v ov iv u Q I ro ri rv h
  obtain ⟨p, xs, k, j, rfl, rfl, hp, hj, q⟩ := h
  cases ro
  obtain ⟨t, rfl⟩ := ri
  obtain ⟨its, n, r, ho, hz⟩ := I.lst hp
  obtain ⟨h1, h2, h3, h4⟩ := ixN_seq hj
  have hl := r.length
  have hn := line63
  have I' : Inv X pins σ (upd H p (.lst (xs.set j v))) { s with heap := s.heap.update p (Obj.mapSeq (·.setIfInBounds j u)) } :=
    I.lstUpd hp ho (mapSeq_set its n j u) (r.set rv j) (by rw [List.length_set]; exact hz) s.toks
  by_cases h0 : 0 ≤ k
  · have hk : k.toNat = j := by
      rw [seqIndex_of h0 h4] at h1
      exact Option.some.inj h1
    exact PySem.W.ki_setAt ho h0 (by omega) (by rw [List.size_toArray, ← hl]; exact h4) (by rw [hk]; exact ⟨_, I', q⟩)
  · have hk : (k + (its.toArray.size : Int)).toNat = j := by
      rw [seqIndex_neg (by omega) h3] at h1
      rw [List.size_toArray, ← hl]
      exact Option.some.inj h1
    exact PySem.W.ki_setBack ho (by omega) (by rw [List.size_toArray, ← hl]; exact h3) (by omega) (by rw [hk]; exact ⟨_, I', q⟩)
theorem slice_bounds (lo hi : Option Int) (n : Nat) : (sliceBounds lo hi none n).1 = ((HT.sIx n 0 lo : Nat) : Int) ∧ (sliceBounds lo hi none n).2.1 = ((HT.sIx n n hi : Nat) : Int) ∧ (sliceBounds lo hi none n).2.2 = 1 := by
  refine ⟨?_, ?_, rfl⟩
  · cases lo with
    | none => simp [sliceBounds, HT.sIx]
    | some i =>
      simp only [sliceBounds, HT.sIx, Option.getD_none, show (1 : Int) > 0 by decide, if_true]
      by_cases h : i < 0
      · simp only [h, if_true] <;> omega
      · simp only [h, if_false] <;> omega
  · cases hi with
    | none => simp [sliceBounds, HT.sIx]
    | some i =>
      simp only [sliceBounds, HT.sIx, Option.getD_none, show (1 : Int) > 0 by decide, if_true]
      by_cases h : i < 0
      · simp only [h, if_true] <;> omega
      · simp only [h, if_false] <;> omega
theorem slicePick_cut (its : List Value) (lo hi : Option Int) : slicePick its.toArray lo hi none = ((its.drop (HT.sIx its.length 0 lo)).take (HT.sIx its.length its.length hi - HT.sIx its.length 0 lo)).toArray := by
  obtain ⟨h1, h2, h3⟩ := slice_bounds lo hi its.toArray.size
  unfold slicePick
  rw [h1, h2, h3]
  simp only [sliceRange_one, pick_run, List.size_toArray] <;> rfl
def rSlL (K : PySem.W.Frag) : V → Option Int → Option Int → Hp → VK → Prop := fun x lo hi H Q => ∃ a xs, x = .ref a ∧ SqL K H a xs ∧ ∀ p, H p = none → Q (.ref p) (upd H p (.lst (cutV xs lo hi)))
theorem sl_list : SlR X (rSlL X.K) := by
  intro pins s σ H x v vl vu lo hi sl Q I rx hs pl pu h
  obtain ⟨a, xs, rfl, hx, q⟩ := h
  cases rx
  obtain ⟨its, r, ht, hz⟩ := I.list hx
  have hlen := r.length
  refine ⟨"list", _, slot_list_getitem.lookup, ht.isList.typeIs, ?_⟩
  refine wpAny_getItem_list_slice ht.isList hs pl pu .none (by simp) ?_ (by rw [List.size_toArray] <;> omega)
  rw [slicePick_cut, ← hlen]
  refine ⟨.ref s.heap.objs.size, _, I.laid (t' := s.toks) (o := .lst (cutV xs lo hi)) (fun b ob q => Heap.get?_push_of_some _ q) (Nat.le_refl _) ?_, rfl, q _ (I.hok.fresh (Nat.le_refl _))⟩
  exact ⟨Nat.le_trans (cutV_length xs lo hi) hz, _, 0, (r.drop (HT.sIx xs.length 0 lo)).take (HT.sIx xs.length xs.length hi - HT.sIx xs.length 0 lo), Heap.get?_push_size _ rfl⟩
def flatV : V → Bool
  | .non => true
  | .bl _ => true
  | .int _ => true
  | .str _ => true
  | _ => false
def eqV : V → V → Bool
  | .non, .non => true
  | .bl a, .bl b => a == b
  | .bl a, .int b => (if a then 1 else 0) == b
  | .int a, .bl b => a == (if b then 1 else 0)
  | .int a, .int b => a == b
  | .str a, .str b => a == b
  | _, _ => false
theorem eqAt_V {A : Around} {s : Shared} {y x : V} {u v : Value} (ry : RelV y u) (rx : RelV x v) (fy : flatV y = true) (fx : flatV x = true) : SeqAt.EqAt A s u v (eqV y x) := by
  cases y with
  | non =>
    cases ry
    cases x with
    | non => cases rx; exact SeqAt.EqAt.same _
    | bl b => cases rx; exact SeqAt.EqAt.none_bool b
    | int b => obtain ⟨t, rfl⟩ := rx; exact SeqAt.EqAt.none_int b t
    | str b => obtain ⟨t, rfl⟩ := rx; exact SeqAt.EqAt.none_str b t
    | _ => exact absurd (show false = true from fx) Bool.false_ne_true
  | bl a =>
    cases ry
    cases x with
    | non => cases rx; exact SeqAt.EqAt.bool_none a
    | bl b => cases rx; exact SeqAt.EqAt.bool_bool a b
    | int b => obtain ⟨t, rfl⟩ := rx; exact SeqAt.EqAt.bool_int a b t
    | str b => obtain ⟨t, rfl⟩ := rx; exact SeqAt.EqAt.bool_str a b t
    | _ => exact absurd (show false = true from fx) Bool.false_ne_true
  | int a =>
    obtain ⟨t', rfl⟩ := ry
    cases x with
    | non => cases rx; exact SeqAt.EqAt.int_none a t'
    | bl b => cases rx; exact SeqAt.EqAt.int_bool a t' b
    | int b => obtain ⟨t, rfl⟩ := rx; exact SeqAt.EqAt.int_int a t' b t
    | str b => obtain ⟨t, rfl⟩ := rx; exact SeqAt.EqAt.int_str a t' b t
    | _ => exact absurd (show false = true from fx) Bool.false_ne_true
  | str a =>
    obtain ⟨t', rfl⟩ := ry
    cases x with
    | non => cases rx; exact SeqAt.EqAt.str_none a t'
    | bl b => cases rx; exact SeqAt.EqAt.str_bool a t' b
    | int b => obtain ⟨t, rfl⟩ := rx; exact SeqAt.EqAt.str_int a t' b t
    | str b => obtain ⟨t, rfl⟩ := rx; exact SeqAt.EqAt.str_str a t' b t
    | _ => exact absurd (show false = true from fx) Bool.false_ne_true
  | _ => exact absurd (show false = true from fy) Bool.false_ne_true
def eqU (x : V) (u : Value) : Bool := match u with
  | .none => eqV .non x
  | .bool b => eqV (.bl b) x
  | .int i _ => eqV (.int i) x
  | .str z _ => eqV (.str z) x
  | _ => false
theorem eqU_of {x y : V} {u : Value} (r : RelV y u) (f : flatV y = true) : eqU x u = eqV y x := by
  cases y with
  | non => cases r; rfl
  | bl b => cases r; rfl
  | int i => obtain ⟨t, rfl⟩ := r; rfl
  | str z => obtain ⟨t, rfl⟩ := r; rfl
  | _ => exact absurd (show false = true from f) Bool.false_ne_true
theorem any_eqU {x : V} : ∀ {xs : List V} {us : List Value}, Vals xs us → xs.all flatV = true → us.any (eqU x) = xs.any fun y => eqV y x
  | _, _, .nil, _ => rfl
  | y :: xs, u :: us, .cons r t, f => by
    rw [List.all_cons, Bool.and_eq_true] at f
    rw [List.any_cons, List.any_cons, eqU_of r f.1, any_eqU t f.2]
theorem mem_eqAt {A : Around} {s : Shared} {x : V} {v : Value} (rx : RelV x v) (fx : flatV x = true) : ∀ {xs : List V} {us : List Value}, Vals xs us → xs.all flatV = true → ∀ u ∈ us, SeqAt.EqAt A s u v (eqU x u)
  | _, _, .nil, _ => fun u hu => by cases hu
  | y :: xs, u :: us, .cons r t, f => fun u' hu => by
    rw [List.all_cons, Bool.and_eq_true] at f
    rcases List.mem_cons.mp hu with rfl | hu
    · rw [eqU_of r f.1]; exact eqAt_V r rx f.1 fx
    · exact mem_eqAt rx fx t f.2 u' hu
def inV (x : V) (xs : List V) : Bool := xs.any fun y => eqV y x
def rIn (K : PySem.W.Frag) (neg : Bool) : R2 := fun x y H Q => ∃ p xs, y = .ref p ∧ (SqL K H p xs ∨ SqT K H p xs) ∧ flatV x = true ∧ xs.all flatV = true ∧ Q (.bl (if neg then !inV x xs else inV x xs)) H
theorem op_in_seq : OpR X (compareOp .In) (rIn X.K false) := by
  intro pins s σ H x y v u Q I rx ry h
  obtain ⟨p, xs, rfl, hq, fx, fs, q⟩ := h
  cases ry
  rcases hq with hq | hq
  · obtain ⟨its, r, pl, hz⟩ := I.list hq
    refine SeqAt.in_listAt (eqU x) pl.isList (fun w hw => mem_eqAt rx fx r fs w (by simpa using hw)) ⟨.bl _, H, I, rfl, ?_⟩
    rw [show its.toArray.any (eqU x) = its.any (eqU x) by simp, any_eqU r fs]
    exact q
  · obtain ⟨its, r, pl, hz⟩ := I.tuple hq
    refine SeqAt.in_tupleAt (eqU x) pl (fun w hw => mem_eqAt rx fx r fs w (by simpa using hw)) ⟨.bl _, H, I, rfl, ?_⟩
    rw [show its.toArray.any (eqU x) = its.any (eqU x) by simp, any_eqU r fs]
    exact q
theorem op_notIn_seq : OpR X (compareOp .NotIn) (rIn X.K true) := by
  intro pins s σ H x y v u Q I rx ry h
  obtain ⟨p, xs, rfl, hq, fx, fs, q⟩ := h
  cases ry
  rcases hq with hq | hq
  · obtain ⟨its, r, pl, hz⟩ := I.list hq
    refine SeqAt.notIn_listAt (eqU x) pl.isList (fun w hw => mem_eqAt rx fx r fs w (by simpa using hw)) ⟨.bl _, H, I, rfl, ?_⟩
    rw [show its.toArray.any (eqU x) = its.any (eqU x) by simp, any_eqU r fs]
    exact q
  · obtain ⟨its, r, pl, hz⟩ := I.tuple hq
    refine SeqAt.notIn_tupleAt (eqU x) pl (fun w hw => mem_eqAt rx fx r fs w (by simpa using hw)) ⟨.bl _, H, I, rfl, ?_⟩
    rw [show its.toArray.any (eqU x) = its.any (eqU x) by simp, any_eqU r fs]
    exact q
theorem call_len_seq : CallR X (.builtin "len") (fun xs H Q => ∃ p ys, xs = [.ref p] ∧ (SqL X.K H p ys ∨ SqT X.K H p ys) ∧ Q (.int ys.length) H) := by
  intro pins s σ H xs us Q I r h
  obtain ⟨p, ys, rfl, hq, q⟩ := h
  obtain ⟨u, rfl, rx⟩ := vals1 r
  cases rx
  have hn := line63
  rcases hq with hq | hq
  · obtain ⟨its, r', pl, hz⟩ := I.list hq
    have hlen := r'.length
    exact Calls.call_len_list pl.isList (by simp only [List.size_toArray] <;> omega) ⟨.int ys.length, H, I.tok _, ⟨s.toks + 1, by rw [List.size_toArray, hlen]⟩, q⟩
  · obtain ⟨its, r', pl, hz⟩ := I.tuple hq
    have hlen := r'.length
    exact len_tuple pl (by simp only [List.size_toArray] <;> omega) ⟨.int ys.length, H, I.tok _, ⟨s.toks + 1, by rw [List.size_toArray, hlen]⟩, q⟩
theorem CallR.or {f : Value} {r r' : List V → Hp → VK → Prop} (h : CallR X f r) (h' : CallR X f r') : CallR X f (fun xs H Q => r xs H Q ∨ r' xs H Q) := by
  intro pins s σ H xs us Q I rs q
  rcases q with q | q
  · exact h pins s σ H xs us Q I rs q
  · exact h' pins s σ H xs us Q I rs q
theorem call_list_of : CallR X (.type "list") (fun xs H Q => ∃ p ys, xs = [.ref p] ∧ (SqL X.K H p ys ∨ SqT X.K H p ys) ∧ ∀ l, H l = none → Q (.ref l) (upd H l (.lst ys))) := by
  intro pins s σ H xs us Q I r h
  obtain ⟨p, ys, rfl, hq, q⟩ := h
  obtain ⟨u, rfl, rx⟩ := vals1 r
  cases rx
  have fin : ∀ (its : List Value), Vals ys its → ys.length ≤ sizeLine → ∀ (h' : Heap) (c' : Nat), (∀ b o', s.heap.get? b = some o' → h'.get? b = some o') →
      h'.get? s.heap.objs.size = some { cls := .type "list", dict := none, data := .seq its.toArray c', slots := #[] } → EP X pins σ Q (.ref s.heap.objs.size) { s with heap := h' } := fun its r' hz h' c' kp e =>
    ⟨.ref s.heap.objs.size, _, I.laid (t' := s.toks) kp (Nat.le_refl _) (show ObjOk X.prog X.w _ h' _ (.lst ys) from ⟨hz, its, c', r', e⟩), rfl, q _ (I.hok.fresh (Nat.le_refl _))⟩
  rcases hq with hq | hq
  · obtain ⟨its, r', pl, hz⟩ := I.list hq
    have hlen := r'.length
    obtain ⟨o, ho, hc, n, hd⟩ := pl.isList
    exact call_list_seq p (.inl rfl) ho hc hd (fun h' c' kp e => fin its r' hz h' c' kp e) (by simp only [List.size_toArray] <;> omega)
  · obtain ⟨its, r', pl, hz⟩ := I.tuple hq
    have hlen := r'.length
    obtain ⟨o, ho, hc, n, hd⟩ := pl
    exact call_list_seq p (.inr rfl) ho hc hd (fun h' c' kp e => fin its r' hz h' c' kp e) (by simp only [List.size_toArray] <;> omega)
theorem call_tuple_of : CallR X (.type "tuple") (fun xs H Q => ∃ p ys, xs = [.ref p] ∧ ((SqL X.K H p ys ∧ ∀ l, H l = none → Q (.ref l) (upd H l (.tup ys))) ∨ (SqT X.K H p ys ∧ Q (.ref p) H))) := by
  intro pins s σ H xs us Q I r h
  obtain ⟨p, ys, rfl, h⟩ := h
  obtain ⟨u, rfl, rx⟩ := vals1 r
  cases rx
  rcases h with ⟨hq, q⟩ | ⟨hq, q⟩
  · obtain ⟨its, r', pl, hz⟩ := I.list hq
    have hlen := r'.length
    refine call_tuple_list pl.isList (fun h' kp => ?_) (by simp only [List.size_toArray] <;> omega)
    have I1 : Inv X pins σ H { s with heap := h' } := I.kept (t' := s.toks) kp
    have I2 : Inv X pins σ (upd H h'.objs.size (.tup ys)) { s with heap := h'.push { cls := .type "tuple", data := .seq its.toArray } } :=
      I1.laid (t' := s.toks) (fun b o e => Heap.get?_push_of_some _ e) (Nat.le_refl _) (show ObjOk X.prog X.w _ _ _ (.tup ys) from ⟨hz, its, r', TupN.new _ _⟩)
    exact ⟨.ref h'.objs.size, _, I2, rfl, q _ (I1.hok.fresh (Nat.le_refl _))⟩
  · obtain ⟨its, r', pl, hz⟩ := I.tuple hq
    exact call_tuple_same pl ⟨.ref p, H, I, rfl, q⟩
def tyV (K : PySem.W.Frag) (T : String) (x : V) (H : Hp) : Prop := match x with
  | .str _ => T = "str"
  | .int _ => T = "int"
  | .ref p => (T = "list" ∧ ∃ xs, SqL K H p xs) ∨ (T = "tuple" ∧ ∃ xs, H p = some (.tup xs)) ∨ (T = "tuple" ∧ ∃ o, K.lookup p = some o ∧ o.cls = .type "tuple" ∧ o.dict = none) ∨
      (T = "dict" ∧ ((∃ kvs, H p = some (.dK kvs)) ∨ ∃ kvs, H p = some (.dT kvs))) ∨ (T = "set" ∧ ∃ S n, H p = some (.set S n))
  | _ => False
theorem tyV_is {pins : List (Addr × Obj)} {σ : St} {H : Hp} {s : Shared} {T : String} {x : V} {v : Value} (I : Inv X pins σ H s) (r : RelV x v) (ty : tyV X.K T x H) :
    s.TypeIs v T ∧ ∀ a, v = .ref a → ∃ ob, s.heap.get? a = some ob ∧ ob.dict = none := by
  cases x with
  | str z =>
    obtain ⟨t, rfl⟩ := r
    cases (show T = "str" from ty)
    exact ⟨typeIs_str s z t, fun _ e => nomatch e⟩
  | int i =>
    obtain ⟨t, rfl⟩ := r
    cases (show T = "int" from ty)
    exact ⟨typeIs_int s i t, fun _ e => nomatch e⟩
  | ref p =>
    cases r
    rcases ty with ⟨rfl, xs, hq⟩ | ⟨rfl, xs, hx⟩ | ⟨rfl, o, hk, hc, hd⟩ | ⟨rfl, hk⟩ | ⟨rfl, S, n, hk⟩
    · obtain ⟨its, _, pl, _⟩ := I.list hq
      refine ⟨pl.isList.typeIs, fun a e => ?_⟩
      cases e
      obtain ⟨o, n, e, c, hd, _⟩ := pl
      exact ⟨o, e, hd⟩
    · obtain ⟨_, _, _, o, e, hd, hc, _⟩ := (show ObjOk X.prog X.w H s.heap p (.tup xs) from I.hok p _ hx)
      refine ⟨⟨o, e, hc⟩, fun a e2 => ?_⟩
      cases e2
      exact ⟨o, e, hd⟩
    · refine ⟨⟨o, I.kIn p o hk, hc⟩, fun a e => ?_⟩
      cases e
      exact ⟨o, I.kIn _ o hk, hd⟩
    · have z : ∃ o, s.heap.get? p = some o ∧ o.ExactDict := by
        rcases hk with ⟨kvs, hk⟩ | ⟨kvs, hk⟩
        · obtain ⟨_, _, _, _, o, _, _, e, ex, _⟩ := I.hok p _ hk
          exact ⟨o, e, ex⟩
        · obtain ⟨_, _, _, _, o, _, _, e, ex, _⟩ := I.hok p _ hk
          exact ⟨o, e, ex⟩
      obtain ⟨o, e, ex⟩ := z
      refine ⟨⟨o, e, ex.1⟩, fun a e2 => ?_⟩
      cases e2
      exact ⟨o, e, ex.2.1⟩
    · obtain ⟨o, _, _, _, e, ex, _⟩ := I.hok p _ hk
      refine ⟨⟨o, e, ex.1⟩, fun a e2 => ?_⟩
      cases e2
      exact ⟨o, e, ex.2.1⟩
  | _ => exact False.elim ty
def tBM (K : PySem.W.Frag) (T : String) (r : V → List V → Hp → VK → Prop) (to : TE) (t : TA) : TE := fun σ H Q => to σ H fun x H1 => tyV K T x H1 ∧ t σ H1 fun xs H2 => r x xs H2 Q
variable {o e : Expr} {es : List Expr} {to : TE} {t : TA} {name : Str} {apos cpos : Pos} {T id : String} {r : V → List V → Hp → VK → Prop}
theorem pe_bm (pa : PlainAttrs T) (slot : Slot T name id) (hty : typeOf (.builtin id) = pure (.type "method_descriptor")) (hm : MtR X id r) (ho : PE X o to) (ha : PA X (e :: es) t)
    (hbase : attributeBase o name X.env (eval o X.env) = eval o X.env := by rfl)
    (hfew : ((backTo cpos (starEach (e :: es) X.env)).all (fun x => !x.1) && (backToKw cpos (keywordEach [] X.env)).all (fun x => x.1.isSome)
      && decide ((e :: es).length + ([] : List Keyword).length + (if ([] : List Keyword).isEmpty then 0 else 1) < 30)) = true := by rfl)
    (hline : (apos.endLine == cpos.line) = true := by rfl) (hs : starEach (e :: es) X.env = (false, eval e X.env) :: starEach es X.env := by rfl) (hplain : (backTo cpos (starEach es X.env)).any (·.1) = false := by rfl) :
    PE X (.Call (.Attribute o name apos) (e :: es) [] cpos) (tBM X.K T r to t) := by
  intro pins s σ H Q I h
  refine wpAny_Call_method_late hbase hfew hline rfl (thn (ho pins s σ H _ I h) fun v s1 ⟨x, H1, I1, r1, ty, q1⟩ => ?_)
  obtain ⟨h1, h2⟩ := tyV_is I1 r1 ty
  refine ⟨T, id, pa, slot, hty, h1, h2, ?_⟩
  have hA := ha cpos pins s1 σ H1 _ I1 q1
  rw [hs] at hA ⊢
  refine Calls.callWith_builtin (by show (false || (backTo cpos (starEach es X.env)).any (·.1)) = false; rw [hplain] <;> rfl) (Calls.evalArgs_plain ?_)
  exact thn hA fun us s2 ⟨vs, H2, I2, r2, q2⟩ => hm pins s2 σ H2 x vs v us Q I2 r1 r2 q2
end
end L2
namespace L2
open PySem PySem.Spec PyProof.Rows
def MtM (X : Cx) (id : String) (r : V → List V → Hp → VK → Prop) : Prop :=
  ∀ (pins : List (Addr × Obj)) (s : Shared) (σ : St) (H : Hp) (x : V) (xs : List V) (v : Value) (us : List Value) (Q : VK), Inv X pins σ H s → RelV x v → Vals xs us → r x xs H Q →
    wpAny (model X.prog X.w) X.A (call (.builtin id) (v :: us)) (EP X pins σ Q) X.xe s
theorem Vals.one : ∀ {x : V} {us : List Value}, Vals [x] us → ∃ u, us = [u] ∧ RelV x u
  | _, _, .cons r .nil => ⟨_, rfl, r⟩
theorem Vals.two : ∀ {x y : V} {us : List Value}, Vals [x, y] us → ∃ u v, us = [u, v] ∧ RelV x u ∧ RelV y v
  | _, _, _, .cons r (.cons q .nil) => ⟨_, _, rfl, r, q⟩
theorem Vals.zero : ∀ {us : List Value}, Vals [] us → us = []
  | _, .nil => rfl
theorem Vals.eraseIdx : ∀ {xs : List V} {us : List Value} (i : Nat), Vals xs us → Vals (xs.eraseIdx i) (us.eraseIdx i)
  | _, _, _, .nil => .nil
  | _, _, 0, .cons _ t => t
  | _, _, i + 1, .cons r t => .cons r (Vals.eraseIdx i t)
theorem Vals.reverse {xs : List V} {us : List Value} (h : Vals xs us) : Vals xs.reverse us.reverse := by
  induction h with
  | nil => exact .nil
  | cons r t ih => rw [List.reverse_cons, List.reverse_cons]; exact Vals.append ih (.cons r .nil)
theorem Vals.rep {xs : List V} {us : List Value} (h : Vals xs us) : ∀ k : Nat, Vals (List.replicate k xs).flatten (List.replicate k us).flatten
  | 0 => .nil
  | k + 1 => by
    rw [List.replicate_succ, List.replicate_succ, List.flatten_cons, List.flatten_cons]
    exact Vals.append h (Vals.rep h k)
theorem len_erase {α : Type} : ∀ (l : List α) (i : Nat), (l.eraseIdx i).length ≤ l.length
  | [], _ => Nat.le_refl _
  | _ :: _, 0 => Nat.le_succ _
  | _ :: r, i + 1 => Nat.succ_le_succ (len_erase r i)
theorem foldl_rep (its : List Value) : ∀ (k : Nat) (acc : List Value),
    List.foldl (fun x1 x2 => x1 ++ x2) acc.toArray (List.replicate k its.toArray) = (acc ++ (List.replicate k its).flatten).toArray
  | 0, acc => by simp
  | k + 1, acc => by
    have e : acc.toArray ++ its.toArray = (acc ++ its).toArray := by simp
    have e2 : (acc ++ its) ++ (List.replicate k its).flatten = acc ++ (List.replicate (k + 1) its).flatten := by
      rw [List.replicate_succ, List.flatten_cons, List.append_assoc]
    rw [← e2, ← foldl_rep its k (acc ++ its), ← e, List.replicate_succ, List.foldl_cons]
section
variable {X : Cx} {pins : List (Addr × Obj)} {σ : St} {H : Hp} {s : Shared} {l b : Addr} {xs ys zs : List V}
theorem Inv.lset {its its' : List Value} {n : Nat} {f : Array Value → Array Value} {t' : Nat} (I : Inv X pins σ H s) (hH : H l = some (.lst xs))
    (e : s.heap.get? l = some { cls := .type "list", data := .seq its.toArray n }) (hf : f its.toArray = its'.toArray) (hv : Vals ys its') (hz : ys.length ≤ sizeLine) :
    Inv X pins σ (upd H l (.lst ys)) { s with heap := s.heap.update l (Obj.mapSeq f), toks := t' } := by
  have q := PySem.IsL.update e f
  rw [hf] at q
  refine I.write (x := l) (e := l) (by rw [hH]; exact trivial) (.inl rfl) (fun b' u hb hu => (Heap.get?_update_other s.heap (Obj.mapSeq f) (Ne.symm hb)).trans hu) ⟨_, q⟩ ?_
  exact ⟨hz, its', _, hv, q⟩
theorem Inv.lnew {its : List Value} {t' : Nat} (I : Inv X pins σ H s) (hv : Vals ys its) (hz : ys.length ≤ sizeLine) :
    Inv X pins σ (upd H s.heap.objs.size (.lst ys)) { s with heap := s.heap.push { cls := .type "list", data := .seq its.toArray }, toks := t' } :=
  I.laid (fun _ _ q => Heap.get?_push_of_some _ q) (Nat.le_refl _) ⟨hz, its, 0, hv, Heap.get?_push_size _ rfl⟩
theorem Inv.fresh (I : Inv X pins σ H s) : H s.heap.objs.size = none := I.hok.fresh (Nat.le_refl _)
theorem Inv.lstM (I : Inv X pins σ H s) (hH : H l = some (.lst xs)) : xs.length ≤ sizeLine ∧ ∃ (its : List Value) (n : Nat), Vals xs its ∧ xs.length = its.length ∧ s.heap.get? l = some { cls := .type "list", data := .seq its.toArray n } := by
  obtain ⟨z, its, n, r, e⟩ := I.hok l _ hH
  exact ⟨z, its, n, r, r.length, e⟩
theorem notLongL {n : Nat} (h : n ≤ sizeLine) : Builtin.List.listTooLong n = false := by
  unfold Builtin.List.listTooLong
  exact decide_eq_false (by omega)
end
section
variable {X : Cx}
def rAppend : V → List V → Hp → VK → Prop := fun x vs H Q => ∃ l xs y, x = .ref l ∧ vs = [y] ∧ H l = some (.lst xs) ∧ xs.length < sizeLine ∧ Q .non (upd H l (.lst (xs ++ [y])))
theorem mt_append : MtM X "list.append" rAppend := by
  intro pins s σ H x vs v us Q I rx rv h
  obtain ⟨l, xs, y, rfl, rfl, hH, hz, q⟩ := h
  cases rx
  obtain ⟨u, rfl, ru⟩ := rv.one
  obtain ⟨z, its, n, r, hl, e⟩ := I.lstM hH
  refine call_meets F.slot_list_append ⟨_, e, rfl⟩ F.entry_list_append (F.args_list_append_2 _ _) (PySem.list_append l its.toArray n u (by rw [List.size_toArray]; omega)) ⟨e, ?_⟩
  refine ⟨.non, _, I.lset (its' := its ++ [u]) hH e (by simp) (r.append (.cons ru .nil)) ?_, rfl, q⟩
  rw [List.length_append, List.length_singleton]
  omega
def rExtend : V → List V → Hp → VK → Prop := fun x vs H Q => ∃ l b xs zs, x = .ref l ∧ vs = [.ref b] ∧ H l = some (.lst xs) ∧ H b = some (.lst zs) ∧ xs.length + zs.length ≤ sizeLine ∧ Q .non (upd H l (.lst (xs ++ zs)))
theorem mt_extend : MtM X "list.extend" rExtend := by
  intro pins s σ H x vs v us Q I rx rv h
  obtain ⟨l, b, xs, zs, rfl, rfl, hH, hB, hz, q⟩ := h
  cases rx
  obtain ⟨u, rfl, ru⟩ := rv.one
  cases ru
  obtain ⟨z, its, n, r, hl, e⟩ := I.lstM hH
  obtain ⟨z2, its2, n2, r2, hl2, e2⟩ := I.lstM hB
  have hsz : its.toArray.size + its2.toArray.size ≤ sizeLine := by rw [List.size_toArray, List.size_toArray]; omega
  have hlong : ¬ (!its.toArray.isEmpty && Builtin.List.listTooLong (its.toArray.size + its2.toArray.size)) = true := by
    rw [notLongL hsz, Bool.and_false]
    exact Bool.false_ne_true
  refine call_meets F.slot_list_extend ⟨_, e, rfl⟩ F.entry_list_extend (F.args_list_extend_2 _ _)
    (AutoSeq1.list_extend_list_list_0 l its.toArray n b its2.toArray n2 hlong (by rw [List.size_toArray]; omega) (by omega)) ⟨e, e2, ?_⟩
  refine ⟨.non, _, I.lset (its' := its ++ its2) hH e (by simp) (r.append r2) ?_, rfl, q⟩
  rw [List.length_append]
  omega
def rPopAt : V → List V → Hp → VK → Prop := fun x vs H Q => ∃ l xs i k y, x = .ref l ∧ vs = [.int i] ∧ H l = some (.lst xs) ∧ -(2 ^ 63) ≤ i ∧ i < 2 ^ 63 ∧ seqIndex? i xs.length = some k ∧ xs[k]? = some y ∧ Q y (upd H l (.lst (xs.eraseIdx k)))
theorem mt_popAt : MtM X "list.pop" rPopAt := by
  intro pins s σ H x vs v us Q I rx rv h
  obtain ⟨l, xs, i, k, y, rfl, rfl, hH, h1, h2, hk, hy, q⟩ := h
  cases rx
  obtain ⟨u, rfl, ru⟩ := rv.one
  obtain ⟨t, rfl⟩ := ru
  obtain ⟨z, its, n, r, hl, e⟩ := I.lstM hH
  obtain ⟨w, hw, rw'⟩ := r.get hy
  refine call_meets F.slot_list_pop ⟨_, e, rfl⟩ F.entry_list_pop (F.args_list_pop_2 _ _)
    (MeetsSeq.list_pop_at l its.toArray n i t k w (fitsIndex_both h1 h2) (by rw [List.size_toArray, ← hl]; exact hk) (by rw [← Array.getElem?_toList]; exact hw) (by rw [List.size_toArray]; omega)) ⟨e, ?_⟩
  refine ⟨y, _, I.lset (its' := its.eraseIdx k) hH e ?_ (r.eraseIdx k) ?_, rw', q⟩
  · show its.toArray.eraseIdxIfInBounds k = (its.eraseIdx k).toArray
    rw [List.eraseIdxIfInBounds_toArray]
  · have := len_erase xs k
    omega
def rCat : R2 := fun x y H Q => ∃ l b xs zs, x = .ref l ∧ y = .ref b ∧ H l = some (.lst xs) ∧ H b = some (.lst zs) ∧ xs.length + zs.length ≤ sizeLine ∧ ∀ p, H p = none → Q (.ref p) (upd H p (.lst (xs ++ zs)))
theorem op_cat : OpR X (binaryOp .Add) rCat := by
  intro pins s σ H x y v u Q I rx ry h
  obtain ⟨l, b, xs, zs, rfl, rfl, hH, hB, hz, q⟩ := h
  cases rx
  cases ry
  obtain ⟨z, its, n, r, hl, e⟩ := I.lstM hH
  obtain ⟨z2, its2, n2, r2, hl2, e2⟩ := I.lstM hB
  refine PySem.P.add_list e e2 ?_ (by rw [List.size_toArray, List.size_toArray]; omega)
  have ea : its.toArray ++ its2.toArray = (its ++ its2).toArray := by simp
  rw [ea]
  exact ⟨.ref _, _, I.lnew (t' := s.toks) (r.append r2) (by rw [List.length_append]; omega), rfl, q _ I.fresh⟩
def rRep : R2 := fun x y H Q => ∃ l k xs, x = .ref l ∧ y = .int k ∧ H l = some (.lst xs) ∧ -(2 ^ 63) ≤ k ∧ k < 2 ^ 63 ∧ xs.length * k.toNat ≤ sizeLine ∧
  ∀ p, H p = none → Q (.ref p) (upd H p (.lst (List.replicate k.toNat xs).flatten))
theorem len_rep {α : Type} (xs : List α) (k : Nat) : (List.replicate k xs).flatten.length = k * xs.length := by
  induction k with
  | zero => simp
  | succ k ih => rw [List.replicate_succ, List.flatten_cons, List.length_append, ih, Nat.succ_mul, Nat.add_comm]
theorem op_rep : OpR X (binaryOp .Mult) rRep := by
  intro pins s σ H x y v u Q I rx ry h
  obtain ⟨l, k, xs, rfl, rfl, hH, h1, h2, hz, q⟩ := h
  cases rx
  obtain ⟨t, rfl⟩ := ry
  obtain ⟨z, its, n, r, hl, e⟩ := I.lstM hH
  have hlen : its.toArray.size * k.toNat ≤ sizeLine := by rw [List.size_toArray, ← hl]; exact hz
  have hcap : ¬ its.toArray.size * k.toNat > (2 ^ 63 - 1) / 8 := by
    have : (sizeLine : Nat) ≤ (2 ^ 63 - 1) / 8 := by decide
    omega
  have hfit : ¬ (!Builtin.List.listFitsIndex k) = true := by
    rw [fitsIndex_both h1 h2]
    exact Bool.false_ne_true
  have hlong : ¬ Builtin.List.listTooLong (its.toArray.size * k.toNat) = true := by
    rw [notLongL hlen]
    exact Bool.false_ne_true
  have hnew : List.foldl (fun x1 x2 => x1 ++ x2) #[] (List.replicate (if its.toArray.isEmpty = true then 0 else k.toNat) its.toArray) = (List.replicate k.toNat its).flatten.toArray := by
    have f0 : ∀ m : Nat, List.foldl (fun x1 x2 => x1 ++ x2) #[] (List.replicate m its.toArray) = (List.replicate m its).flatten.toArray := fun m => by
      have := foldl_rep its m []
      rw [List.nil_append] at this
      exact this
    rw [f0]
    cases its with
    | nil => simp
    | cons a r' => rw [if_neg (by simp)]
  refine wpAny_binaryOp_repeat_ref (T := "list") (U := "int") (by decide) ⟨_, e, rfl⟩ (fun s' => typeIs_int s' k t) noFill_list_mul F.fills_int_mul F.slot_int_rmul repeat_list F.slot_int_index.lookup
    (call_meets F.slot_int_rmul (typeIs_int s k t) F.entry_int_rmul (F.args_int_rmul_2 _ _) (int___rmul___int_list k t l its.toArray n)
      ⟨e, rfl, ⟨_, e, rfl⟩, call_meets F.slot_list_mul ⟨_, e, rfl⟩ F.entry_list_mul (F.args_list_mul_2 _ _) (AutoListH.list___mul___list_int_3 l its.toArray n k t hfit hcap hlong) ⟨e, ?_⟩⟩)
  rw [hnew]
  exact ⟨.ref _, _, I.lnew (t' := s.toks) (r.rep k.toNat) (by rw [len_rep, Nat.mul_comm]; exact hz), rfl, q _ I.fresh⟩
end
section
variable {prog : Program} {w : World} {A : Around} {E : Value → Shared → Prop} {s : Shared}
end
section
variable {X : Cx}
end
end L2
namespace L2
open PySem PySem.Spec PyProof.Rows
theorem Vals.ints : ∀ {ns : List Int} {us : List Value}, Vals (ns.map V.int) us → IntsAre us ns
  | [], us, h => by
    rw [List.map_nil] at h
    cases h
    exact IntsAre.nil
  | n :: ns, us, h => by
    rw [List.map_cons] at h
    cases h with
    | cons r t =>
      obtain ⟨k, rfl⟩ := r
      exact IntsAre.cons n k (Vals.ints t)
theorem vals_of_ints : ∀ {us : List Value} {ns : List Int}, IntsAre us ns → Vals (ns.map V.int) us
  | _, _, .nil => by rw [List.map_nil]; exact Paired.nil
  | _, _, .cons n t h => by rw [List.map_cons]; exact Paired.cons (show RelV (V.int n) (Value.int n t) from ⟨t, rfl⟩) (vals_of_ints h)
theorem Vals.strs : ∀ {xs : List Str} {us : List Value}, Vals (xs.map V.str) us → StrsAre us xs
  | [], us, h => by
    rw [List.map_nil] at h
    cases h
    exact StrsAre.nil
  | x :: xs, us, h => by
    rw [List.map_cons] at h
    cases h with
    | cons r t =>
      obtain ⟨k, rfl⟩ := r
      exact StrsAre.cons x k (Vals.strs t)
theorem Vals.ref1 {a : Addr} {us : List Value} (r : Vals [V.ref a] us) : us = [Value.ref a] := by
  cases r with
  | cons r t =>
    cases t
    cases r
    rfl
section
variable {prog : Program} {w : World} {A : Around} {E : Value → Shared → Prop} {s : Shared} {l : Addr} {its : List Value} {ns : List Int} {Q : Value → Shared → Prop}
end
section
variable {X : Cx}
end
section
variable {X : Cx}
def rIndex (K : PySem.W.Frag) : V → List V → Hp → VK → Prop := fun x xs H Q => ∃ (a : Addr) (ys : List V) (y : V) (j : Nat) (z : V), x = V.ref a ∧ xs = [y] ∧ SqL K H a ys ∧ flatV y = true ∧ ys.all flatV = true ∧ ys[j]? = some z ∧ eqV z y = true ∧
  (∀ (m : Nat) (z' : V), m < j → ys[m]? = some z' → eqV z' y = false) ∧ Q (.int (j : Nat)) H
theorem flat_at {ys : List V} (f : ys.all flatV = true) {j : Nat} {z : V} (h : ys[j]? = some z) : flatV z = true := List.all_eq_true.mp f z (List.mem_of_getElem? h)
theorem mt_index : MtR X "list.index" (rIndex X.K) := by
  intro pins s σ H x xs v us Q I rx rxs h
  obtain ⟨a, ys, y, j, z, rfl, rfl, hs, fy, fys, hz, hzj, hno, q⟩ := h
  cases rx
  cases rxs with
  | cons ry rt =>
    rename_i uy ut
    cases rt
    obtain ⟨its, rv, ⟨⟨cls, dd, data, sl⟩, n, ho, hc, hdn, hd⟩, hlen⟩ := I.list hs
    simp only at hc hd
    subst hc hd
    obtain ⟨u, hu, ru⟩ := rv.get hz
    obtain ⟨hjl, hje⟩ := List.getElem?_eq_some_iff.mp hu
    have hvl := rv.length
    have hj : j < its.toArray.size := by simpa using hjl
    have hsl := sizeLine_eq
    refine call_meets PySem.F.slot_list_index ⟨_, ho, rfl⟩ PySem.F.entry_list_index (PySem.F.args_list_index_2 _ _)
      (SeqAt.list_indexAt a its.toArray n dd sl uy (eqU y) j hj (by omega) ?_ ?_) ⟨ho, fun u' hu' => mem_eqAt ry fy rv fys u' (by simpa using hu'), ?_⟩
    · have e1 : its.toArray[j] = u := by simpa using hje
      rw [e1, eqU_of ru (flat_at fys hz)]
      exact hzj
    · intro m hm hmj
      have hml : m < its.length := by simpa using hm
      have hmy : m < ys.length := by omega
      have hy' : ys[m]? = some ys[m] := List.getElem?_eq_getElem hmy
      obtain ⟨u2, hu2, ru2⟩ := rv.get hy'
      obtain ⟨_, hme⟩ := List.getElem?_eq_some_iff.mp hu2
      have e1 : its.toArray[m] = u2 := by simpa using hme
      rw [e1, eqU_of ru2 (flat_at fys hy')]
      exact hno m _ hmj hy'
    · exact ⟨.int (j : Nat), H, I.tok _, ⟨_, rfl⟩, q⟩
end
section
variable {X : Cx}
end
section
variable {X : Cx}
end
mutual
inductive Dp (K : PySem.W.Frag) (H : Hp) : V → PyData → Prop
  | non : Dp K H .non .none
  | bl (b : Bool) : Dp K H (.bl b) (.bool b)
  | int (i : Int) : Dp K H (.int i) (.int i)
  | str (x : Str) : Dp K H (.str x) (.str x)
  | lst {a : Addr} {xs : List V} {ds : List PyData} : SqL K H a xs → DpAll K H xs ds → Dp K H (.ref a) (.list ds)
  | tup {a : Addr} {xs : List V} {ds : List PyData} : SqT K H a xs → DpAll K H xs ds → Dp K H (.ref a) (.tuple ds)
inductive DpAll (K : PySem.W.Frag) (H : Hp) : List V → List PyData → Prop
  | nil : DpAll K H [] []
  | cons {v : V} {vs : List V} {d : PyData} {ds : List PyData} : Dp K H v d → DpAll K H vs ds → DpAll K H (v :: vs) (d :: ds)
end
section
variable {X : Cx} {pins : List (Addr × Obj)} {σ : St} {H : Hp} {s : Shared}
mutual
theorem Dp.reads (I : Inv X pins σ H s) : ∀ (d : PyData) (v : V) (u : Value), Dp X.K H v d → RelV v u → ∃ as, Reads s.heap u d as
  | .none, _, _, h, r => by
    cases h
    cases r
    exact ⟨_, Reads.none⟩
  | .bool b, _, _, h, r => by
    cases h
    cases r
    exact ⟨_, Reads.bool b⟩
  | .int i, _, _, h, r => by
    cases h
    obtain ⟨t, rfl⟩ := r
    exact ⟨_, Reads.int i t⟩
  | .str x, _, _, h, r => by
    cases h
    obtain ⟨t, rfl⟩ := r
    exact ⟨_, Reads.str x t⟩
  | .list ds, _, _, h, r => by
    cases h with
    | lst hs ha =>
      cases r
      obtain ⟨its, rv, ⟨o, n, ho, hc, _, hd⟩, _⟩ := I.list hs
      obtain ⟨as, hr⟩ := Dp.readsAll I ds _ its ha rv
      exact ⟨_, Reads.list ho hc hd hr⟩
  | .tuple ds, _, _, h, r => by
    cases h with
    | tup hs ha =>
      cases r
      obtain ⟨its, rv, ⟨o, ho, hc, n, hd⟩, _⟩ := I.tuple hs
      obtain ⟨as, hr⟩ := Dp.readsAll I ds _ its ha rv
      exact ⟨_, Reads.tuple ho hc hd hr⟩
  | .dict _, _, _, h, _ => by cases h
theorem Dp.readsAll (I : Inv X pins σ H s) : ∀ (ds : List PyData) (vs : List V) (us : List Value), DpAll X.K H vs ds → Vals vs us → ∃ as, ReadsAll s.heap us ds as
  | [], _, _, h, r => by
    cases h
    cases r
    exact ⟨_, ReadsAll.nil⟩
  | d :: ds, _, _, h, r => by
    cases h with
    | cons h1 h2 =>
      cases r with
      | cons r1 r2 =>
        obtain ⟨as, q1⟩ := Dp.reads I d _ _ h1 r1
        obtain ⟨bs, q2⟩ := Dp.readsAll I ds _ _ h2 r2
        exact ⟨_, ReadsAll.cons q1 q2⟩
end
end
section
variable {X : Cx}
def rNeD (K : PySem.W.Frag) : R2 := fun x y H Q => ∃ d e, Dp K H x d ∧ Dp K H y e ∧ SeqAt.shaped d = true ∧ SeqAt.shaped e = true ∧ Q (.bl (!PyData.eqv d e)) H
theorem op_neD (hu : X.A.units + 64 < cLine) : OpR X (compareOp .NotEq) (rNeD X.K) := by
  intro pins s σ H x y v u Q I rx ry h
  obtain ⟨d, e, hd, he, sd, se, q⟩ := h
  obtain ⟨as, r1⟩ := Dp.reads I d x v hd rx
  obtain ⟨bs, r2⟩ := Dp.reads I e y u he ry
  exact SeqAt.compareNe_shaped r1 r2 sd se hu ⟨.bl _, H, I, rfl, q⟩
end
end L2
namespace L2
open PySem PySem.Spec PyProof.Rows
abbrev CellAt (h : Heap) (c : Addr) (v : Option Value) : Prop := h.IsCell c v
def relS (scope sc : Scope) : Scope :=
  { scope with names := scope.names.map fun (n, k) => if (k == .free && sc.kind == .function && sc.names.lookup n == some .cell) then (n, .cell) else (n, k) }
def cloFrom (cells : List (Str × Addr)) : List (Str × NameKind) → List (Str × Addr) → List (Str × Addr)
  | [], acc => acc
  | (n, k) :: r, acc => if k == .free then cloFrom cells r ((n, (cells.lookup n).getD 0) :: acc) else cloFrom cells r acc
theorem closure_loop (env : Env) (f : Str × NameKind → List (Str × Addr) → Sem (ForInStep (List (Str × Addr))))
    (hf : ∀ n k c, f (n, k) c = if k == .free then (do let a ← cellOf env n; pure (.yield ((n, a) :: c))) else pure (.yield c)) :
    ∀ (names : List (Str × NameKind)) (acc : List (Str × Addr)), (∀ y ∈ names, y.2 = .free → ∃ c, env.cells.lookup y.1 = some c) → forIn names acc f = pure (cloFrom env.cells names acc)
  | [], acc, _ => by rw [List.forIn_nil]; rfl
  | (n, k) :: r, acc, h => by
    rw [List.forIn_cons, hf]
    have ih := fun acc => closure_loop env f hf r acc fun y hy => h y (List.mem_cons_of_mem _ hy)
    unfold cloFrom
    by_cases hk : (k == NameKind.free) = true
    · rw [if_pos hk, if_pos hk]
      obtain ⟨c, hc⟩ := h (n, k) List.mem_cons_self (by simpa using hk)
      have e : cellOf env n = pure c := by unfold cellOf; rw [hc]
      rw [e]
      have e2 : (env.cells.lookup n).getD 0 = c := by rw [hc]; rfl
      rw [e2]
      exact ih _
    · rw [if_neg hk, if_neg hk]
      exact ih _
theorem closure_ok {scope : Scope} {env : Env} (h : ∀ y ∈ scope.names, y.2 = .free → ∃ c, env.cells.lookup y.1 = some c) : closureFor scope env = pure (cloFrom env.cells scope.names []) := by
  simp only [closureFor]
  rw [closure_loop env _ (fun n k c => rfl) scope.names [] h]
  rfl
theorem mem_lookup {α : Type} : ∀ {l : List (Str × α)} {n : Str} {c : α}, (n, c) ∈ l → ∃ c', l.lookup n = some c'
  | (k, v) :: r, n, c, h => by
    rw [List.lookup_cons]
    cases hb : n == k with
    | true => exact ⟨_, rfl⟩
    | false =>
      rcases List.mem_cons.mp h with e | h
      · cases e; simp at hb
      · exact mem_lookup h
theorem cloFrom_mem {cells : List (Str × Addr)} : ∀ {names : List (Str × NameKind)} {acc : List (Str × Addr)} {n : Str} {c : Addr}, (n, c) ∈ cloFrom cells names acc → (n, c) ∈ acc ∨ ((n, .free) ∈ names ∧ c = (cells.lookup n).getD 0)
  | [], _, _, _, h => .inl h
  | (m, k) :: r, acc, n, c, h => by
    unfold cloFrom at h
    split at h
    · rename_i hk
      have hk : k = .free := by simpa using hk
      rcases cloFrom_mem h with h | ⟨h1, h2⟩
      · rcases List.mem_cons.mp h with e | h
        · cases e; exact .inr ⟨hk ▸ List.mem_cons_self, rfl⟩
        · exact .inl h
      · exact .inr ⟨List.mem_cons_of_mem _ h1, h2⟩
    · rcases cloFrom_mem h with h | ⟨h1, h2⟩
      · exact .inl h
      · exact .inr ⟨List.mem_cons_of_mem _ h1, h2⟩
theorem cloFrom_acc {cells : List (Str × Addr)} : ∀ {names : List (Str × NameKind)} {acc : List (Str × Addr)} {p : Str × Addr}, p ∈ acc → p ∈ cloFrom cells names acc
  | [], _, _, h => h
  | (m, k) :: r, acc, p, h => by
    unfold cloFrom
    split
    · exact cloFrom_acc (List.mem_cons_of_mem _ h)
    · exact cloFrom_acc h
theorem cloFrom_has {cells : List (Str × Addr)} : ∀ {names : List (Str × NameKind)} {acc : List (Str × Addr)} {n : Str}, (n, .free) ∈ names → (n, (cells.lookup n).getD 0) ∈ cloFrom cells names acc
  | (m, k) :: r, acc, n, h => by
    unfold cloFrom
    rcases List.mem_cons.mp h with e | h
    · cases e
      exact cloFrom_acc List.mem_cons_self
    · split
      · exact cloFrom_has h
      · exact cloFrom_has h
theorem cells_mem : ∀ {names : List (Str × NameKind)} {h : Heap} {acc : List (Str × Addr)} {x : Str} {c : Addr}, (x, c) ∈ cellsFrom h.objs.size names acc →
    (x, c) ∈ acc ∨ ((x, .cell) ∈ names ∧ h.objs.size ≤ c ∧ CellAt (pushCells h names) c none)
  | [], _, _, _, _, h => .inl h
  | (n, k) :: r, h, acc, x, c, hm => by
    unfold cellsFrom at hm
    unfold pushCells
    split at hm
    · rename_i hk
      rw [if_pos hk]
      have hk : k = .cell := by simpa using hk
      rw [← Heap.size_push h { cls := .type "cell", data := .cell none }] at hm
      rcases cells_mem hm with hm | ⟨h1, h2, h3⟩
      · rcases List.mem_cons.mp hm with e | hm
        · cases e
          exact .inr ⟨hk ▸ List.mem_cons_self, Nat.le_refl _, _, pushCells_keeps r _ _ _ (Heap.get?_push_size _ rfl), rfl⟩
        · exact .inl hm
      · rw [Heap.size_push] at h2
        exact .inr ⟨List.mem_cons_of_mem _ h1, Nat.le_of_succ_le h2, h3⟩
    · rename_i hk
      rw [if_neg hk]
      rcases cells_mem hm with hm | ⟨h1, h2, h3⟩
      · exact .inl hm
      · exact .inr ⟨List.mem_cons_of_mem _ h1, h2, h3⟩
theorem cells_acc : ∀ {names : List (Str × NameKind)} {n : Nat} {acc : List (Str × Addr)} {p : Str × Addr}, p ∈ acc → p ∈ cellsFrom n names acc
  | [], _, _, _, h => h
  | (m, k) :: r, n, acc, p, h => by
    unfold cellsFrom
    split
    · exact cells_acc (List.mem_cons_of_mem _ h)
    · exact cells_acc h
theorem cells_has : ∀ {names : List (Str × NameKind)} {n : Nat} {acc : List (Str × Addr)} {x : Str}, (x, .cell) ∈ names → ∃ c, (x, c) ∈ cellsFrom n names acc
  | (m, k) :: r, n, acc, x, h => by
    unfold cellsFrom
    rcases List.mem_cons.mp h with e | h
    · cases e
      exact ⟨n, cells_acc List.mem_cons_self⟩
    · split
      · exact cells_has h
      · exact cells_has h
theorem cells_inj : ∀ {names : List (Str × NameKind)} {h : Heap} {acc : List (Str × Addr)} {x y : Str} {c : Addr}, (∀ p ∈ acc, p.2 < h.objs.size) → (∀ x y c, (x, c) ∈ acc → (y, c) ∈ acc → x = y) →
    (x, c) ∈ cellsFrom h.objs.size names acc → (y, c) ∈ cellsFrom h.objs.size names acc → x = y
  | [], _, _, _, _, _, _, hi, h1, h2 => hi _ _ _ h1 h2
  | (n, k) :: r, h, acc, x, y, c, hl, hi, h1, h2 => by
    unfold cellsFrom at h1 h2
    split at h1
    · rename_i hk
      rw [if_pos hk] at h2
      rw [← Heap.size_push h { cls := .type "cell", data := .cell none }] at h1 h2
      refine cells_inj (h := h.push _) (fun p hp => ?_) (fun x y c a b => ?_) h1 h2
      · rw [Heap.size_push]
        rcases List.mem_cons.mp hp with rfl | hp
        · exact Nat.lt_succ_self _
        · exact Nat.lt_succ_of_lt (hl p hp)
      · rcases List.mem_cons.mp a with e | a <;> rcases List.mem_cons.mp b with e' | b
        · cases e; cases e'; rfl
        · cases e; exact absurd (hl _ b) (Nat.lt_irrefl _)
        · cases e'; exact absurd (hl _ a) (Nat.lt_irrefl _)
        · exact hi _ _ _ a b
    · rename_i hk
      rw [if_neg hk] at h2
      exact cells_inj hl hi h1 h2
theorem newEnv_comp {M : Model} {A : Around} {E : Value → Shared → Prop} {s : Shared} {scope : Scope} {globals : Addr} {closure : List (Str × Addr)} {qual : Str} {func : Option Addr} {code : Value} {around : Env} {builtins : Addr} {Q : Env → Shared → Prop}
    (h : Q (newEnv scope s.heap.objs.size globals (cellsFrom (s.heap.objs.size + 1) scope.names closure) qual func code (some around) builtins)
      { s with heap := pushCells (s.heap.push { cls := .type "dict", data := .dict #[] }) scope.names }) :
    wpAny M A (newFunctionEnv scope globals closure [] qual func code (some around) builtins) Q E s := by
  simp only [newFunctionEnv, Option.isSome_some, if_true]
  refine wpAny_bind (wpAny_alloc ?_)
  refine wpAny_bind (wpAny_layCells _ (fun n k c => rfl) scope.names closure _ _ ?_)
  rw [show ({ s with heap := s.heap.push { cls := .type "dict", data := .dict #[] } } : Shared).heap.objs.size = s.heap.objs.size + 1 from Heap.size_push ..]
  rw [List.forIn_nil]
  exact wpAny_bind (wpAny_pure (wpAny_pure h))
theorem lookup_relS {sc : Scope} : ∀ {names : List (Str × NameKind)} {x : Str} {k : NameKind},
    (names.map fun (n, k) => if (k == NameKind.free && sc.kind == .function && sc.names.lookup n == some .cell) then (n, NameKind.cell) else (n, k)).lookup x = some k →
    ∃ k', names.lookup x = some k' ∧ (k = k' ∨ (k' = .free ∧ k = .cell))
  | [], _, _, h => by simp at h
  | (n, k₀) :: r, x, k, h => by
    have ih := @lookup_relS sc r x k
    have h' : List.lookup x ((if (k₀ == NameKind.free && sc.kind == .function && sc.names.lookup n == some .cell) = true then (n, NameKind.cell) else (n, k₀)) :: (r.map _)) = some k := h
    cases hx : x == n with
    | true =>
      simp only [List.lookup_cons, hx]
      by_cases hc : (k₀ == NameKind.free && sc.kind == .function && sc.names.lookup n == some .cell) = true
      · rw [if_pos hc] at h'
        simp only [List.lookup_cons, hx] at h'
        cases h'
        simp only [Bool.and_eq_true, beq_iff_eq] at hc
        exact ⟨k₀, rfl, .inr ⟨hc.1.1, rfl⟩⟩
      · rw [if_neg hc] at h'
        simp only [List.lookup_cons, hx] at h'
        cases h'
        exact ⟨_, rfl, .inl rfl⟩
    | false =>
      simp only [List.lookup_cons, hx]
      by_cases hc : (k₀ == NameKind.free && sc.kind == .function && sc.names.lookup n == some .cell) = true
      · rw [if_pos hc] at h'
        simp only [List.lookup_cons, hx] at h'
        exact ih h'
      · rw [if_neg hc] at h'
        simp only [List.lookup_cons, hx] at h'
        exact ih h'
structure BlkOk (N : List Str) (sc scope : Scope) (own : List (Str × Nat)) : Prop where
  kind : scope.kind = .function
  uniq : ∀ y ∈ scope.names, scope.names.lookup y.1 = some y.2
  ix : ∀ p ∈ own, N[p.2]? = some p.1
  free : ∀ y ∈ scope.names, y.2 = .free → sc.names.lookup y.1 = some .cell ∨ sc.names.lookup y.1 = some .free
  own : ∀ y ∈ scope.names, y.2 = .local ∨ y.2 = .cell → y.1 ∈ own.map (·.1) ∨ y.1 ∉ N
def wipe (σ : St) : List Nat → St
  | [] => σ
  | v :: vs => (wipe σ vs).set v none
theorem wipe_length (σ : St) : ∀ vs : List Nat, (wipe σ vs).length = σ.length
  | [] => rfl
  | v :: vs => by unfold wipe; rw [List.length_set, wipe_length σ vs]
theorem wipe_some {σ : St} {i : Nat} {x : V} : ∀ {vs : List Nat}, (wipe σ vs)[i]? = some (some x) → σ[i]? = some (some x) ∧ i ∉ vs
  | [], h => ⟨h, by simp⟩
  | v :: vs, h => by
    unfold wipe at h
    by_cases hi : v = i
    · subst hi
      by_cases hv : v < (wipe σ vs).length
      · rw [List.getElem?_set_self hv] at h; cases h
      · rw [List.getElem?_eq_none (by simpa using hv)] at h; cases h
    · rw [List.getElem?_set_ne hi] at h
      obtain ⟨h1, h2⟩ := wipe_some h
      exact ⟨h1, by simp only [List.mem_cons, not_or]; exact ⟨fun e => hi e.symm, h2⟩⟩
abbrev Cx.blk (X : Cx) (s : Shared) (H : Hp) (scope : Scope) (cenv : Env) (fp : List Addr) : Cx := { X with s_0 := s, H_0 := H, env := cenv, outer := X.stack, ex := fp, fn := fun x => scope.names.lookup x == some .cell, pn := [], xe := fun _ _ => False }
section
variable {X : Cx} {pins : List (Addr × Obj)} {σ : St} {H : Hp} {s : Shared}
theorem block_start {scope : Scope} {own : List (Str × Nat)} {fp : List Addr} (I : Inv X pins σ H s) (ok : BlkOk X.N X.env.scope scope own) (hN : X.N.Nodup) (hfp : ∀ b ∈ fp, FpOk X pins H b ∧ b < s.heap.objs.size) :
    Inv (X.blk s H scope (compEnvC scope (cellsFrom (s.heap.objs.size + 1) scope.names (cloFrom X.env.cells scope.names [])) s.heap.objs.size X.env) fp) [] (wipe σ (own.map (·.2))) H { s with heap := pushCells (s.heap.push { cls := .type "dict", data := .dict #[] }) scope.names } := by
  have hfree : ∀ y ∈ scope.names, y.2 = .free → ∃ c, X.env.cells.lookup y.1 = some c := fun y hy e => by
    rcases ok.free y hy e with k | k
    · exact I.ok.has _ (.inl k)
    · exact I.ok.has _ (.inr k)
  generalize hcenv : compEnvC scope (cellsFrom (s.heap.objs.size + 1) scope.names (cloFrom X.env.cells scope.names [])) s.heap.objs.size X.env = cenv
  have kp : ∀ b o, s.heap.get? b = some o → (pushCells (s.heap.push { cls := .type "dict", data := .dict #[] }) scope.names).get? b = some o := fun b o e => pushCells_keeps _ _ _ _ (Heap.get?_push_of_some _ e)
  have hL : cenv.locals = s.heap.objs.size := by rw [← hcenv]; rfl
  have hcl : cenv.cells = cellsFrom (s.heap.objs.size + 1) scope.names (cloFrom X.env.cells scope.names []) := by rw [← hcenv]; rfl
  have hsc : cenv.scope = relS scope X.env.scope := by rw [← hcenv]; rfl
  rw [← Heap.size_push s.heap { cls := .type "dict", data := .dict #[] }] at hcl
  have cm : ∀ {y c}, (y, c) ∈ cloFrom X.env.cells scope.names [] → X.env.cells.lookup y = some c ∧ c < s.heap.objs.size := fun {y c} hm => by
    rcases cloFrom_mem hm with hm | ⟨h1, rfl⟩
    · cases hm
    · obtain ⟨c, hc⟩ := hfree _ h1 rfl
      rw [hc]
      obtain ⟨w, z⟩ := I.cell _ _ hc
      exact ⟨rfl, z.lt⟩
  have mem : ∀ {y c}, cenv.cells.lookup y = some c → (X.env.cells.lookup y = some c ∧ c < s.heap.objs.size) ∨ (s.heap.objs.size + 1 ≤ c ∧ CellAt (pushCells (s.heap.push { cls := .type "dict", data := .dict #[] }) scope.names) c none) := fun {y c} e => by
    rw [hcl] at e
    rcases cells_mem (PySem.mem_of_lookup e) with hm | ⟨_, h2, h3⟩
    · exact .inl (cm hm)
    · rw [Heap.size_push] at h2; exact .inr ⟨h2, h3⟩
  have look : ∀ {y}, scope.names.lookup y = some .free → ∃ c, cenv.cells.lookup y = some c ∧ X.env.cells.lookup y = some c := fun {y} hl => by
    have hy : (y, NameKind.free) ∈ scope.names := PySem.mem_of_lookup hl
    obtain ⟨c', e'⟩ := mem_lookup (cells_acc (names := scope.names) (n := (s.heap.push { cls := .type "dict", data := .dict #[] }).objs.size) (cloFrom_has (cells := X.env.cells) (acc := []) hy))
    rw [← hcl] at e'
    refine ⟨c', e', ?_⟩
    rw [hcl] at e'
    rcases cells_mem (PySem.mem_of_lookup e') with hm | ⟨h1, _, _⟩
    · exact (cm hm).1
    · have := ok.uniq _ h1
      rw [hl] at this; cases this
  have okB : (X.blk s H scope cenv fp).Ok := by
    refine ⟨I.ok.mod, by show cenv.scope.kind = _; rw [hsc]; exact ok.kind, by show cenv.globals = _; rw [← hcenv]; exact I.ok.glob, by show cenv.builtins = _; rw [← hcenv]; exact I.ok.blt, by show s.heap.objs.size ≤ cenv.locals; rw [hL]; exact Nat.le_refl _,
      fun y z c e1 e2 => ?_, fun y hy => ?_, fun y c z e => ?_, I.ok.hd, I.ok.frames, .inl rfl, fun b hb => ⟨?_, fun y c e z => ?_⟩, I.bs, Nat.le_trans I.ok.bsz I.sz, fun b o e hb => ?_, fun b hb z => ?_, I.stack, I.stkFree⟩
    · have e1 : cenv.cells.lookup y = some c := e1
      have e2 : cenv.cells.lookup z = some c := e2
      rw [hcl] at e1 e2
      refine cells_inj (fun p hp => ?_) (fun y z c a b => I.ok.inj y z c (cm a).1 (cm b).1) (PySem.mem_of_lookup e1) (PySem.mem_of_lookup e2)
      rw [Heap.size_push]
      exact Nat.lt_succ_of_lt (cm (y := p.1) (c := p.2) hp).2
    · show ∃ c, cenv.cells.lookup y = some c
      have key : ∀ k, cenv.kindOf y = some k → (k = .cell ∨ k = .free) → ∃ c, cenv.cells.lookup y = some c := fun k hk hk' => by
        unfold Env.kindOf at hk
        rw [hsc] at hk
        obtain ⟨k', e, r⟩ := lookup_relS hk
        have : k' = .cell ∨ k' = .free := by
          rcases r with rfl | ⟨rfl, _⟩
          · exact hk'
          · exact .inr rfl
        rcases this with rfl | rfl
        · obtain ⟨c, hm⟩ := cells_has (n := (s.heap.push { cls := .type "dict", data := .dict #[] }).objs.size) (acc := cloFrom X.env.cells scope.names []) (PySem.mem_of_lookup e)
          obtain ⟨c', e'⟩ := mem_lookup hm
          exact ⟨c', by rw [hcl]; exact e'⟩
        · obtain ⟨c, h1, _⟩ := look e
          exact ⟨c, h1⟩
      rcases hy with hy | hy
      · exact key _ hy (.inl rfl)
      · exact key _ hy (.inr rfl)
    · have z : (scope.names.lookup y == some NameKind.cell) = true := z
      have z : scope.names.lookup y = some .cell := by simpa using z
      have e : cenv.cells.lookup y = some c := e
      rw [hcl] at e
      rcases cells_mem (PySem.mem_of_lookup e) with hm | ⟨_, h2, _⟩
      · rcases cloFrom_mem hm with hm | ⟨h1, _⟩
        · cases hm
        · have q := ok.uniq _ h1
          rw [z] at q; cases q
      · rw [Heap.size_push] at h2
        exact Nat.le_of_succ_le h2
    · show b ≠ cenv.locals
      rw [hL]; exact Nat.ne_of_lt (hfp b hb).2
    · have e : cenv.cells.lookup y = some c := e
      rcases mem e with ⟨h1, _⟩ | ⟨h1, _⟩
      · exact (hfp b hb).1.2.2.2.2.1 y c h1 z
      · have h2 : s.heap.objs.size + 1 ≤ b := by rw [← z]; exact h1
        exact absurd (Nat.lt_of_lt_of_le (hfp b hb).2 (Nat.le_of_succ_le h2)) (Nat.lt_irrefl _)
    · rcases (hfp b hb).1.2.2.2.1 with z | z
      · exact I.ok.noex b o e z
      · exact absurd (Nat.lt_of_lt_of_le (Heap.lt_size e) (Nat.le_trans I.ok.bsz z)) (Nat.lt_irrefl _)
    · rcases List.mem_cons.mp (I.stkSub b z) with z | z
      · exact (hfp b hb).1.2.1 z
      · exact (hfp b hb).1.2.2.1 z
  refine ⟨okB, rfl, I.bare, Un.kept kp, ⟨fun _ => none, ?_, fun i y av e1 e2 e3 => ?_⟩, fun y c e => ?_, ?_, fun y c e => ?_, fun p hp => ?_, I.hok.kept kp, by rw [wipe_length]; exact I.len⟩
  · show Heap.Ns _ cenv.locals _
    rw [hL]
    exact Heap.Ns.keeps (Heap.Ns.new ..) fun b o e => pushCells_keeps _ _ _ _ e
  · obtain ⟨e2, hne⟩ := wipe_some e2
    have hfr : scope.names.lookup y = some .free ∧ (cenv.kindOf y = some .cell ∨ cenv.kindOf y = some .free) := by
      have key : ∀ k, cenv.scope.names.lookup y = some k → k = .local ∨ k = .cell ∨ k = .free → scope.names.lookup y = some .free ∧ (cenv.kindOf y = some .cell ∨ cenv.kindOf y = some .free) := fun k hk hk' => by
        have hk0 := hk
        rw [hsc] at hk
        obtain ⟨k', e, r⟩ := lookup_relS hk
        have no : ¬ (k' = .local ∨ k' = .cell) := fun hh => by
          rcases ok.own _ (PySem.mem_of_lookup e) hh with e' | e'
          · obtain ⟨p, hp, hpy⟩ := List.mem_map.mp e'
            have e3 := ok.ix p hp
            have : p.1 = y := hpy
            rw [this] at e3
            exact hne (List.mem_map.mpr ⟨p, hp, nodup_ix hN e3 e1⟩)
          · exact e' (List.mem_of_getElem? e1)
        rcases r with rfl | ⟨rfl, rfl⟩
        · rcases hk' with rfl | rfl | rfl
          · exact absurd (.inl rfl) no
          · exact absurd (.inr rfl) no
          · exact ⟨e, .inr hk0⟩
        · exact ⟨e, .inl hk0⟩
      have e3 : Vis cenv.scope y := e3
      rcases e3 with e3 | e3 | e3
      · exact key _ e3 (.inl rfl)
      · exact key _ e3 (.inr (.inl rfl))
      · exact key _ e3 (.inr (.inr rfl))
    obtain ⟨m, hn, hl⟩ := I.loc
    have hvis : Vis X.env.scope y := (ok.free _ (PySem.mem_of_lookup hfr.1) rfl).elim (fun k => .inr (.inl k)) (fun k => .inr (.inr k))
    obtain ⟨w, r, q⟩ := hl i y av e1 e2 hvis
    refine ⟨w, r, .inr ⟨hfr.2, ?_⟩⟩
    obtain ⟨c, h1, h2⟩ := look hfr.1
    rcases q with ⟨k, _⟩ | ⟨_, c', e', z⟩
    · have k : X.env.scope.names.lookup y = some .local := k
      rcases ok.free _ (PySem.mem_of_lookup hfr.1) rfl with k' | k' <;> rw [show X.env.scope.names.lookup y = _ from k'] at k <;> cases k
    · rw [h2] at e'; cases e'
      exact ⟨c, h1, z.keeps kp⟩
  · have e : cenv.cells.lookup y = some c := e
    rcases mem e with ⟨h1, _⟩ | ⟨_, z⟩
    · obtain ⟨w, z⟩ := I.cell y c h1
      exact ⟨w, z.keeps kp⟩
    · exact ⟨_, z⟩
  · show H cenv.locals = none
    rw [hL]; exact I.hok.fresh (Nat.le_refl _)
  · have e : cenv.cells.lookup y = some c := e
    rcases mem e with ⟨h1, _⟩ | ⟨h1, _⟩
    · exact I.freeC y c h1
    · exact I.hok.fresh (Nat.le_of_succ_le h1)
  · exact absurd (show p ∈ ([] : List (Addr × Obj)) ++ [] from hp) (by simp)
theorem app_ok {E : Value → Shared → Prop} {D : Addr} {xs : List V} {y : V} {v : Value} {Q : Value → Shared → Prop} (I : Inv X pins σ H s) (hD : H D = some (.lst xs)) (hz : xs.length < sizeLine) (r : RelV y v)
    (h : ∀ s', Inv X pins σ (upd H D (.lst (xs ++ [y]))) s' → Q .none s') : wpAny (model X.prog X.w) X.A (call (.builtin "list.append") [.ref D, v]) Q E s := by
  obtain ⟨hz', its, n, ri, e⟩ := I.hok D _ hD
  have hl := ri.length
  refine append_at (hsz := by rw [List.size_toArray]; omega) e fun h' sb ho' => ?_
  refine h { s with heap := h' } (I.write (t' := s.toks) (by rw [hD]; trivial) (.inl rfl) (fun b u hb q => (sb.2 b hb).trans q) ⟨_, ho'⟩ ⟨by rw [List.length_append]; exact hz, its ++ [v], n + 1, ri.append (.cons r .nil), ?_⟩)
  rw [ho']
  simp
def PTs (X : Cx) (ifs : List Expr) (t : TT) : Prop :=
  ∀ (pins : List (Addr × Obj)) (s : Shared) (σ : St) (H : Hp) (Q : Bool → Hp → Prop), Inv X pins σ H s → t σ H Q →
    wpAny (model X.prog X.w) X.A (forIn ifs true fun c r => if r = true then do let ok ← isTrue c X.env (eval c X.env); pure (ForInStep.yield ok) else pure (ForInStep.yield r)) (TP X pins σ Q) X.xe s
def tYes : TT := fun _ H Q => Q true H
theorem pts_nil : PTs X [] tYes := fun _ _ _ H _ I h => wpAny_tests_nil ⟨H, I, h⟩
theorem pts_one {c : Expr} {t : TT} (h : PT X c t) : PTs X [c] t := fun pins s σ H Q I hw => wpAny_tests_one (h pins s σ H Q I hw)
end
theorem thnF {α : Type} {t : Sem α} {Q Q' : α → Shared → Prop} {M : Model} {A : Around} {E : Value → Shared → Prop} {s : Shared} (h : wpAny M A t Q (fun _ _ => False) s) (hQ : ∀ a s, Q a s → Q' a s) : wpAny M A t Q' E s := wpAny_mono h hQ fun _ _ z => False.elim z
theorem compLoop_any {prog : Program} {w : World} {A : Around} {R : Result → Shared → Prop} {s : Shared} {elt target iter : Expr} {ifs : List Expr} {scope : Scope} {pos : Pos} {it acc : Value} {env : Env} (I : Nat → Shared → Prop)
    (turn : ∀ n s, I n s → wpAny (model prog w) A (pyNext it) (fun r s₁ => match r with
      | none => R (.ok .next) s₁
      | some v => wpAny (model prog w) A (letOwnedTupleGo target it v) (fun _ s₁' => wpAny (model prog w) A (assign target env v) (fun _ s₂ =>
          wpAny (model prog w) A (forIn ifs true fun c r => if r = true then do let ok ← isTrue c env (eval c env); pure (ForInStep.yield ok) else pure (ForInStep.yield r)) (fun ok s₃ =>
            if ok = true then wpAny (model prog w) A (eval elt env) (fun x s₄ =>
              wpAny (model prog w) A (call (.builtin "list.append") [acc, x]) (fun _ s₅ => ∃ m, m < n ∧ I m s₅) (notedBy (model prog w) A env fun e s' => R (.error e) s') s₄) (notedBy (model prog w) A env fun e s' => R (.error e) s') s₃
            else ∃ m, m < n ∧ I m s₃) (notedBy (model prog w) A env fun e s' => R (.error e) s') s₂) (notedBy (model prog w) A env fun e s' => R (.error e) s') s₁') (notedBy (model prog w) A env fun e s' => R (.error e) s') s₁) (notedBy (model prog w) A env fun e s' => R (.error e) s') s)
    (n : Nat) (h : I n s) :
    codeAny (model prog w) A (.compLoop (.ListComp elt [⟨target, iter, ifs, 0⟩] scope pos) 0 it acc env) R s := by
  refine codeAny_loop rfl I (fun n s hI => ?_) n h
  show wpAny _ A ((compTurn (.ListComp elt [⟨target, iter, ifs, 0⟩] scope pos) 0 it acc env).onRaise (fun x => do noteFrame x env; theTreesLotGoes x)) _ _ s
  refine wpAny_noted ?_
  rw [compTurn_list]
  refine wpAny_bind (wpAny_standAt (wpAny_bind (wpAny_mono (turn n s hI) (fun r s₁ h₁ => ?_) fun _ _ h' => h')))
  cases r with
  | none => exact wpAny_pure h₁
  | some v =>
    refine wpAny_bind (wpAny_mono h₁ (fun _ s₁' h₁' => ?_) fun _ _ h' => h')
    refine wpAny_bind (wpAny_mono h₁' (fun _ s₂ h₂ => wpAny_bind (wpAny_mono h₂ (fun ok s₃ h₃ => ?_) fun _ _ h' => h')) fun _ _ h' => h')
    cases ok with
    | false => exact wpAny_pure ⟨rfl, h₃⟩
    | true =>
      exact wpAny_bind (wpAny_bind (wpAny_mono h₃ (fun x s₄ h₄ => wpAny_bind (wpAny_mono h₄ (fun _ s₅ h₅ => wpAny_pure (wpAny_pure ⟨rfl, h₅⟩)) fun _ _ h' => h')) fun _ _ h' => h'))
section
variable {X : Cx}
def tLc (wi : TI) (g : TG) (tt : TT) (te : TE) (vs : List Nat) : TE := fun σ H Q => wi σ H fun J H1 => ∀ D, H1 D = none → ∃ W : Nat → Nat → Hp → Prop, (∃ m, W 0 m (upd H1 D (.lst []))) ∧ ∀ i m H, W i m H →
  (J.stop i H ∧ Q (.ref D) H) ∨ (J.go i H ∧ ∃ Nx : Hp → Prop, (∀ H', Nx H' → ∃ m', m' < m ∧ W (i + 1) m' H') ∧ ∀ x H', J.yld i H x H' → g x (wipe σ vs) H' fun σ2 H2 => wipe σ2 vs = wipe σ vs ∧ tt σ2 H2 fun b H3 =>
    if b = true then te σ2 H3 fun y H4 => ∃ acc, H4 D = some (.lst acc) ∧ acc.length < sizeLine ∧ Nx (upd H4 D (.lst (acc ++ [y]))) else Nx H3)
theorem lc_core {pins : List (Addr × Obj)} {s : Shared} {σ : St} {H : Hp} {Q : VK} {elt tg iter : Expr} {ifs : List Expr} {scope : Scope} {own : List (Str × Nat)} {pos pos' : Pos} {wi : TI} {g : TG} {tt : TT} {te : TE} {use : Option (Value → Sem Unit)} {Qf : Value → Shared → Prop}
    (hc : X.calm = true) (hN : X.N.Nodup) (I : Inv X pins σ H s) (hi : PI X tg iter wi) (ok : BlkOk X.N X.env.scope scope own)
    (hg : ∀ (s : Shared) (H : Hp) (C : Addr) (cl : List (Str × Addr)) (fp : List Addr), PG (X.blk s H scope (compEnvC scope cl C X.env) fp) tg g) (ht : ∀ (s : Shared) (H : Hp) (C : Addr) (cl : List (Str × Addr)) (fp : List Addr), PTs (X.blk s H scope (compEnvC scope cl C X.env) fp) ifs tt)
    (he : ∀ (s : Shared) (H : Hp) (C : Addr) (cl : List (Str × Addr)) (fp : List Addr), PE (X.blk s H scope (compEnvC scope cl C X.env) fp) elt te) (hs : ∀ x, foldedSetIterable iter X.env x = pure x)
    (h : tLc wi g tt te (own.map (·.2)) σ H Q)
    (hRR : ∀ D C s' m H', Inv X pins σ H' s' → Q (.ref D) H' → s'.heap.Ns C m → FpOk X pins H' C → compPost (model X.prog X.w) X.A X.xe use Qf (.ref D) C (.ok .next) s') :
    wpAny (model X.prog X.w) X.A (comprehension (.ListComp elt [⟨tg, iter, ifs, 0⟩] scope pos) scope X.env pos' (newList []) false (eval iter X.env) use) Qf X.xe s := by
  have hfree : ∀ y ∈ scope.names, y.2 = .free → ∃ c, X.env.cells.lookup y.1 = some c := fun y hy e => by
    rcases ok.free y hy e with k | k
    · exact I.ok.has _ (.inl k)
    · exact I.ok.has _ (.inr k)
  refine wpAny_comprehension_free (use := use) rfl hs (closure_ok hfree) ok.kind (fun y hy e => by rw [ok.uniq y hy, e])
    (thn (hi pins s σ H _ I h) fun xv s1 hx => thn hx fun itv s2 h2 => ?_)
  obtain ⟨it, fp, tn, J, H2, e, I2, T, st2, f2, q⟩ := h2
  subst e
  refine wpAny_newObj_type (newEnv_comp ?_) (by show 0 ≤ sizeLine; decide)
  generalize hD : s2.heap.objs.size = D
  have hDn : H2 D = none := I2.hok.fresh (Nat.le_of_eq hD)
  obtain ⟨W, ⟨m0, w0⟩, turn⟩ := q D hDn
  generalize hs3 : ({ s2 with heap := s2.heap.push { cls := .type "list", data := .seq ([] : List Value).toArray } } : Shared) = s3
  have I3 : Inv X pins σ (upd H2 D (.lst [])) s3 := by
    rw [← hs3]
    refine I2.laid (t' := s2.toks) (fun b o e => Heap.get?_push_of_some _ e) (Nat.le_of_eq hD) ⟨Nat.zero_le _, [], 0, .nil, ?_⟩
    rw [← hD]
    exact Heap.get?_push_size _ rfl
  have h3 : s3.heap = s2.heap.push { cls := .type "list", data := .seq ([] : List Value).toArray } := by rw [← hs3]
  have sz : ∀ b ∈ fp, b < s2.heap.objs.size := fun b hb => by
    obtain ⟨o, e, _⟩ := T.obj _ _ st2 b hb
    exact Heap.lt_size e
  have f3 : ∀ b ∈ fp, FpOk X pins (upd H2 D (.lst [])) b ∧ b < s3.heap.objs.size := fun b hb => by
    have hlt := sz b hb
    refine ⟨⟨?_, (f2 b hb).2⟩, by rw [h3, Heap.size_push]; exact Nat.lt_succ_of_lt hlt⟩
    rw [upd_ne (by rw [← hD]; exact Nat.ne_of_lt hlt)]
    exact (f2 b hb).1
  have st3 : tn 0 s3.heap := T.keep _ _ _ st2 fun b _ o e => by rw [h3]; exact Heap.get?_push_of_some _ e
  have I4 := block_start I3 ok hN f3
  have pg := hg s3 (upd H2 D (.lst [])) s3.heap.objs.size (cellsFrom (s3.heap.objs.size + 1) scope.names (cloFrom X.env.cells scope.names [])) fp
  have pt := ht s3 (upd H2 D (.lst [])) s3.heap.objs.size (cellsFrom (s3.heap.objs.size + 1) scope.names (cloFrom X.env.cells scope.names [])) fp
  have pe := he s3 (upd H2 D (.lst [])) s3.heap.objs.size (cellsFrom (s3.heap.objs.size + 1) scope.names (cloFrom X.env.cells scope.names [])) fp
  show codeAny _ _ (.compStart (.ListComp elt [⟨tg, iter, ifs, 0⟩] scope pos) 0 (.ref it) (.ref D) (compEnvC scope (cellsFrom (s3.heap.objs.size + 1) scope.names (cloFrom X.env.cells scope.names [])) s3.heap.objs.size X.env)) (compPost (model X.prog X.w) X.A X.xe use Qf (.ref D) s3.heap.objs.size) { s3 with heap := pushCells (s3.heap.push { cls := .type "dict", data := .dict #[] }) scope.names }
  have nfp : ∀ b ∈ fp, (upd H2 D (.lst [])) b = none := fun b hb => (f3 b hb).1.1
  generalize hce : compEnvC scope (cellsFrom (s3.heap.objs.size + 1) scope.names (cloFrom X.env.cells scope.names [])) s3.heap.objs.size X.env = ce at I4 pg pt pe ⊢
  have cL : ce.locals = s3.heap.objs.size := by subst hce; rfl
  generalize hH3 : upd H2 D (.lst []) = H3 at I3 I4 pg pt pe w0 nfp f3
  generalize hs4 : ({ s3 with heap := pushCells (s3.heap.push { cls := .type "dict", data := .dict #[] }) scope.names } : Shared) = s4 at I4 ⊢
  have st4 : tn 0 s4.heap := T.keep _ _ _ st3 fun b _ o e => by rw [← hs4]; exact pushCells_keeps _ _ _ _ (Heap.get?_push_of_some _ e)
  have stat : ∀ {σ' : St} {H' : Hp} {s' : Shared}, Inv (X.blk s3 H3 scope ce fp) [] σ' H' s' → (∀ b ∈ fp, H' b = none) → ∀ b ∈ fp, FpOk (X.blk s3 H3 scope ce fp) [] H' b := fun {σ' H' s'} I' hn b hb =>
    ⟨hn b hb, (I'.ok.exf b hb).1, I'.ok.exfs b hb, .inl hb, fun x c e => (I'.ok.exf b hb).2 x c e, fun p hp => absurd (show p ∈ ([] : List (Addr × Obj)) ++ [] from hp) (by simp)⟩
  have loop : codeAny (model X.prog X.w) X.A (.compLoop (.ListComp elt [⟨tg, iter, ifs, 0⟩] scope pos) 0 (.ref it) (.ref D) ce) (compPost (model X.prog X.w) X.A X.xe use Qf (.ref D) s3.heap.objs.size) s4 := by
    refine compLoop_any (fun n s' => ∃ i H', Inv (X.blk s3 H3 scope ce fp) [] (wipe σ (own.map (·.2))) H' s' ∧ tn i s'.heap ∧ (∀ b ∈ fp, H' b = none) ∧ W i n H') ?_ m0 ⟨0, H3, I4, st4, nfp, w0⟩
    rintro n s5 ⟨i, H5, I5, st5, n5, w5⟩
    rcases turn i n H5 w5 with ⟨stop, qq⟩ | ⟨go, Nx, hNx, step⟩
    · have td := T.done (X.blk s3 H3 scope ce fp) rfl rfl rfl hc i [] s5 _ H5 (fun _ _ => False) I5 (stat I5 n5) st5 stop
      refine thnF td fun r s6 ⟨hr, I6⟩ => ?_
      subst hr
      have I7 : Inv X pins σ H5 s6 := I3.call' (ch := fp) I6.os I6.base I6.hok I6.bare fun b hb => ⟨(f3 b hb).1.2.2.2.1, (f3 b hb).1.2.1, (f3 b hb).1.2.2.2.2.1, (f3 b hb).1.2.2.2.2.2⟩
      have nC : H5 s3.heap.objs.size = none := by
        have z : H5 ce.locals = none := I6.free
        rw [cL] at z
        exact z
      obtain ⟨m, hn, _⟩ := I6.loc
      have hn : s6.heap.Ns ce.locals m := hn
      rw [cL] at hn
      exact hRR D s3.heap.objs.size s6 m H5 I7 qq hn (I3.fpOk (Nat.le_refl _) nC)
    · have ti := T.item (X.blk s3 H3 scope ce fp) rfl rfl rfl hc i [] s5 _ H5 (fun _ _ => False) I5 (stat I5 n5) st5 go
      refine thnF ti fun r s6 ⟨u, hr, h6⟩ => ?_
      subst hr
      refine thnF h6 fun _ s7 ⟨x, H7, I7, r7, y7, st7, n7⟩ => ?_
      have I7' := I7.pinned (stat I7 n7) (T.obj _ _ st7)
      refine thnF (pg _ s7 _ H7 x u _ I7' r7 (step x H7 y7)) fun _ s8 ⟨σ8, H8, I8, hw8, q8⟩ => ?_
      refine thnF (pt _ s8 σ8 H8 _ I8 q8) fun b s9 ⟨H9, I9, q9⟩ => ?_
      have fin : ∀ {s' : Shared} {H' : Hp}, Inv (X.blk s3 H3 scope ce fp) ([] ++ pinsAt fp s7.heap) σ8 H' s' → Nx H' → ∃ m, m < n ∧ ∃ i H', Inv (X.blk s3 H3 scope ce fp) [] (wipe σ (own.map (·.2))) H' s' ∧ tn i s'.heap ∧ (∀ b ∈ fp, H' b = none) ∧ W i m H' := fun {s' H'} I' nx => by
        obtain ⟨m', hm, w'⟩ := hNx H' nx
        have pin' : ∀ b ∈ fp, ∀ o, s7.heap.get? b = some o → s'.heap.get? b = some o ∧ H' b = none := fun b hb o e =>
          let z := I'.pin (b, o) (List.mem_append_right _ (List.mem_append_right _ (mem_pinsAt hb e)))
          ⟨z.1, z.2.1⟩
        have hl : (wipe σ (own.map (·.2))).length = σ8.length := by rw [← hw8, wipe_length]
        refine ⟨m', hm, i + 1, H', (I'.unpinned (pins := [])).weak hl (fun j v e => ?_), T.keep _ _ _ st7 fun b hb o e => (pin' b hb o e).1, fun b hb => ?_, w'⟩
        · rw [← hw8] at e
          exact (wipe_some e).1
        · obtain ⟨o, e, _⟩ := T.obj _ _ st7 b hb
          exact (pin' b hb o e).2
      cases b with
      | false =>
        simp only [Bool.false_eq_true, if_false] at q9 ⊢
        exact fin I9 q9
      | true =>
        simp only [if_true] at q9 ⊢
        refine thnF (pe _ s9 σ8 H9 _ I9 q9) fun z s10 ⟨yv, H10, I10, r10, acc, hD10, hz10, nx⟩ => ?_
        exact app_ok (X := X.blk s3 H3 scope ce fp) I10 hD10 hz10 r10 fun s11 I11 => fin I11 nx
  exact codeAny_compStart_list loop (T.self X.A 0 _ _ _ st4 loop)
theorem pe_lc {elt tg iter : Expr} {ifs : List Expr} {scope : Scope} {own : List (Str × Nat)} {pos : Pos} {wi : TI} {g : TG} {tt : TT} {te : TE} (hc : X.calm = true) (hN : X.N.Nodup) (hi : PI X tg iter wi) (ok : BlkOk X.N X.env.scope scope own)
    (hg : ∀ (s : Shared) (H : Hp) (C : Addr) (cl : List (Str × Addr)) (fp : List Addr), PG (X.blk s H scope (compEnvC scope cl C X.env) fp) tg g) (ht : ∀ (s : Shared) (H : Hp) (C : Addr) (cl : List (Str × Addr)) (fp : List Addr), PTs (X.blk s H scope (compEnvC scope cl C X.env) fp) ifs tt)
    (he : ∀ (s : Shared) (H : Hp) (C : Addr) (cl : List (Str × Addr)) (fp : List Addr), PE (X.blk s H scope (compEnvC scope cl C X.env) fp) elt te) (hs : ∀ x, foldedSetIterable iter X.env x = pure x := by intro _; rfl) :
    PE X (.ListComp elt [⟨tg, iter, ifs, 0⟩] scope pos) (tLc wi g tt te (own.map (·.2))) := by
  intro pins s σ H Q I h
  rw [eval_ListComp]
  refine lc_core hc hN I hi ok hg ht he hs h fun D C s' m H' I' q hn f => ⟨m, hn, fun h'' sb => ?_⟩
  obtain ⟨f0, f1, f2, f3, f4, f5⟩ := f
  exact ⟨.ref D, H', I'.turned (t' := s'.toks) (fun b o hb e => (sb.2 b hb).trans e) f0 f1 f3 f4 f5, rfl, q⟩
theorem ps_setLc {i : Nat} {y : Str} {py : Pos} {elt tg iter : Expr} {ifs : List Expr} {scope : Scope} {own : List (Str × Nat)} {pos spos : Pos} {wi : TI} {g : TG} {tt : TT} {te : TE} (hc : X.calm = true) (hN : X.N.Nodup) (hy : X.N[i]? = some y) (hyl : X.env.scope.names.lookup y = some .local)
    (hsw : swapsWith (.ListComp elt [⟨tg, iter, ifs, 0⟩] scope pos) (some (.Name y py)) spos.line X.env = pure true) (hi : PI X tg iter wi) (ok : BlkOk X.N X.env.scope scope own)
    (hg : ∀ (s : Shared) (H : Hp) (C : Addr) (cl : List (Str × Addr)) (fp : List Addr), PG (X.blk s H scope (compEnvC scope cl C X.env) fp) tg g) (ht : ∀ (s : Shared) (H : Hp) (C : Addr) (cl : List (Str × Addr)) (fp : List Addr), PTs (X.blk s H scope (compEnvC scope cl C X.env) fp) ifs tt)
    (he : ∀ (s : Shared) (H : Hp) (C : Addr) (cl : List (Str × Addr)) (fp : List Addr), PE (X.blk s H scope (compEnvC scope cl C X.env) fp) elt te) (hs : ∀ x, foldedSetIterable iter X.env x = pure x := by intro _; rfl) :
    PS X (.Assign [.Name y py] (.ListComp elt [⟨tg, iter, ifs, 0⟩] scope pos) spos) (tAsg (tLc wi g tt te (own.map (·.2))) (gName i)) := by
  intro pins s σ H D I h
  rw [exec_Assign_Name_used _ _ _ _ hsw]
  refine wpAny_bind (wpAny_standAt (wpAny_bind ?_))
  show wpAny _ X.A (do let _ ← comprehension (.ListComp elt [⟨tg, iter, ifs, 0⟩] scope pos) scope X.env (firstIterPos [⟨tg, iter, ifs, 0⟩] pos) (newList []) false (eval iter X.env) (some (assign (.Name y py) X.env))) _ _ s
  have h : tLc wi g tt te (own.map (·.2)) σ H (fun x H1 => gName i x σ H1 D.nx) := h
  refine wpAny_bind (thn (lc_core (Qf := fun _ s' => SP X pins D .next s') hc hN I hi ok hg ht he hs h fun L C s' m H' I' q hn f => ?_) fun _ s' hq => wpAny_pure (wpAny_pure hq))
  show wpAny _ _ (assign (.Name y py) X.env (.ref L)) _ _ _
  refine wpAny_assign_Name (store_ok2 (v := V.ref L) I' hN hy (.inl hyl) rfl (fun s2 I2 ⟨a, sb, ha⟩ => ?_) (.inr hyl))
  obtain ⟨f0, f1, f2, f3, f4, f5⟩ := f
  have haC : C ≠ a := by
    rcases ha with z | z
    · rw [z]; exact f1
    · exact fun e => f4 y a z e.symm
  refine ⟨m, hn.sameBut sb haC, fun h3 sb3 => ?_⟩
  exact ⟨_, H', I2.turned (t' := s2.toks) (fun b o hb e => (sb3.2 b hb).trans e) f0 f1 f3 f4 f5, q⟩
theorem sw_true {elt : Expr} {gs : List Comprehension} {scope : Scope} {pos py : Pos} {y : Str} {l : Nat} {env : Env} (hk : env.scope.kind = .function) (hy : env.scope.names.lookup y = some .local) (hl : (py.line == pos.line) = true)
    (ha : (scope.names.any fun (n, k) => n == y && (k == .local || k == .cell)) = false) : swapsWith (.ListComp elt gs scope pos) (some (.Name y py)) l env = pure true := by
  have ky : env.kindOf y = some .local := hy
  have hb : env.blockKind = .function := by unfold Env.blockKind; rw [hk]; rfl
  unfold swapsWith
  simp only [hb, ky, ha, Expr.pos, hl]
  rfl
end
theorem lc_range {lo : Int} {n : Nat} {g : TG} {tt : TT} {te : TE} {vs : List Nat} {σ : St} {H1 : Hp} {D : Addr} {Qd : Hp → Prop} (Pv : Nat → Hp → Prop) (h0 : Pv 0 (upd H1 D (.lst [])))
    (hs : ∀ i H, i < n → Pv i H → g (.int (lo + i)) (wipe σ vs) H fun σ2 H2 => wipe σ2 vs = wipe σ vs ∧ tt σ2 H2 fun b H3 =>
      if b = true then te σ2 H3 fun y H4 => ∃ acc, H4 D = some (.lst acc) ∧ acc.length < sizeLine ∧ Pv (i + 1) (upd H4 D (.lst (acc ++ [y]))) else Pv (i + 1) H3) (hd : ∀ H, Pv n H → Qd H) :
    ∃ W : Nat → Nat → Hp → Prop, (∃ m, W 0 m (upd H1 D (.lst []))) ∧ ∀ i m H, W i m H →
      ((Itr lo n).stop i H ∧ Qd H) ∨ ((Itr lo n).go i H ∧ ∃ Nx : Hp → Prop, (∀ H', Nx H' → ∃ m', m' < m ∧ W (i + 1) m' H') ∧ ∀ x H', (Itr lo n).yld i H x H' → g x (wipe σ vs) H' fun σ2 H2 => wipe σ2 vs = wipe σ vs ∧ tt σ2 H2 fun b H3 =>
        if b = true then te σ2 H3 fun y H4 => ∃ acc, H4 D = some (.lst acc) ∧ acc.length < sizeLine ∧ Nx (upd H4 D (.lst (acc ++ [y]))) else Nx H3) := by
  refine ⟨fun i m H => m = n - i ∧ i ≤ n ∧ Pv i H, ⟨n, by simp, Nat.zero_le _, h0⟩, ?_⟩
  rintro i m H ⟨rfl, hi, p⟩
  by_cases hlt : i < n
  · refine .inr ⟨hlt, Pv (i + 1), fun H' p' => ⟨n - (i + 1), by omega, rfl, hlt, p'⟩, fun x H' y => ?_⟩
    obtain ⟨e, y⟩ := y
    subst e y
    exact hs i _ hlt p
  · have e : i = n := by omega
    subst e
    exact .inl ⟨Nat.le_refl _, hd H p⟩
theorem lc_list {K : PySem.W.Frag} {a : Addr} {xs : List V} {g : TG} {tt : TT} {te : TE} {vs : List Nat} {σ : St} {H1 : Hp} {D : Addr} {Qd : Hp → Prop} (Pv : Nat → Hp → Prop) (h0 : Pv 0 (upd H1 D (.lst []))) (hl : ∀ i H, i ≤ xs.length → Pv i H → SqL K H a xs)
    (hs : ∀ i x H, xs[i]? = some x → Pv i H → g x (wipe σ vs) H fun σ2 H2 => wipe σ2 vs = wipe σ vs ∧ tt σ2 H2 fun b H3 =>
      if b = true then te σ2 H3 fun y H4 => ∃ acc, H4 D = some (.lst acc) ∧ acc.length < sizeLine ∧ Pv (i + 1) (upd H4 D (.lst (acc ++ [y]))) else Pv (i + 1) H3) (hd : ∀ H, Pv xs.length H → Qd H) :
    ∃ W : Nat → Nat → Hp → Prop, (∃ m, W 0 m (upd H1 D (.lst []))) ∧ ∀ i m H, W i m H →
      ((Itl K a).stop i H ∧ Qd H) ∨ ((Itl K a).go i H ∧ ∃ Nx : Hp → Prop, (∀ H', Nx H' → ∃ m', m' < m ∧ W (i + 1) m' H') ∧ ∀ x H', (Itl K a).yld i H x H' → g x (wipe σ vs) H' fun σ2 H2 => wipe σ2 vs = wipe σ vs ∧ tt σ2 H2 fun b H3 =>
        if b = true then te σ2 H3 fun y H4 => ∃ acc, H4 D = some (.lst acc) ∧ acc.length < sizeLine ∧ Nx (upd H4 D (.lst (acc ++ [y]))) else Nx H3) := by
  refine ⟨fun i m H => m = xs.length - i ∧ i ≤ xs.length ∧ Pv i H, ⟨xs.length, by simp, Nat.zero_le _, h0⟩, ?_⟩
  rintro i m H ⟨rfl, hi, p⟩
  have q := hl i H hi p
  by_cases hlt : i < xs.length
  · refine .inr ⟨⟨xs, xs[i], q, by simp [hlt]⟩, Pv (i + 1), fun H' p' => ⟨xs.length - (i + 1), by omega, rfl, hlt, p'⟩, fun x H' y => ?_⟩
    obtain ⟨e, y⟩ := y
    subst e
    exact hs i x _ (y xs q) p
  · have e : i = xs.length := by omega
    subst e
    exact .inl ⟨⟨xs, q, Nat.le_refl _⟩, hd H p⟩
theorem lc_tup {K : PySem.W.Frag} {a : Addr} {xs : List V} {g : TG} {tt : TT} {te : TE} {vs : List Nat} {σ : St} {H1 : Hp} {D : Addr} {Qd : Hp → Prop} (Pv : Nat → Hp → Prop) (h0 : Pv 0 (upd H1 D (.lst []))) (hl : ∀ i H, i ≤ xs.length → Pv i H → SqT K H a xs)
    (hs : ∀ i x H, xs[i]? = some x → Pv i H → g x (wipe σ vs) H fun σ2 H2 => wipe σ2 vs = wipe σ vs ∧ tt σ2 H2 fun b H3 =>
      if b = true then te σ2 H3 fun y H4 => ∃ acc, H4 D = some (.lst acc) ∧ acc.length < sizeLine ∧ Pv (i + 1) (upd H4 D (.lst (acc ++ [y]))) else Pv (i + 1) H3) (hd : ∀ H, Pv xs.length H → Qd H) :
    ∃ W : Nat → Nat → Hp → Prop, (∃ m, W 0 m (upd H1 D (.lst []))) ∧ ∀ i m H, W i m H →
      ((Itt K a).stop i H ∧ Qd H) ∨ ((Itt K a).go i H ∧ ∃ Nx : Hp → Prop, (∀ H', Nx H' → ∃ m', m' < m ∧ W (i + 1) m' H') ∧ ∀ x H', (Itt K a).yld i H x H' → g x (wipe σ vs) H' fun σ2 H2 => wipe σ2 vs = wipe σ vs ∧ tt σ2 H2 fun b H3 =>
        if b = true then te σ2 H3 fun y H4 => ∃ acc, H4 D = some (.lst acc) ∧ acc.length < sizeLine ∧ Nx (upd H4 D (.lst (acc ++ [y]))) else Nx H3) := by
  refine ⟨fun i m H => m = xs.length - i ∧ i ≤ xs.length ∧ Pv i H, ⟨xs.length, by simp, Nat.zero_le _, h0⟩, ?_⟩
  rintro i m H ⟨rfl, hi, p⟩
  have q := hl i H hi p
  by_cases hlt : i < xs.length
  · refine .inr ⟨⟨xs, xs[i], q, by simp [hlt]⟩, Pv (i + 1), fun H' p' => ⟨xs.length - (i + 1), by omega, rfl, hlt, p'⟩, fun x H' y => ?_⟩
    obtain ⟨e, y⟩ := y
    subst e
    exact hs i x _ (y xs q) p
  · have e : i = xs.length := by omega
    subst e
    exact .inl ⟨⟨xs, q, Nat.le_refl _⟩, hd H p⟩
def blkC (N : List Str) (sc scope : Scope) (own : List (Str × Nat)) : Bool :=
  (match scope.kind with | .function => true | _ => false) && (scope.names.all fun y => decide (scope.names.lookup y.1 = some y.2)) && (own.all fun p => decide (N[p.2]? = some p.1)) &&
    (scope.names.all fun y => match y.2 with
      | .free => (match sc.names.lookup y.1 with | some .cell => true | some .free => true | _ => false)
      | .local => decide (y.1 ∈ own.map (·.1)) || decide (y.1 ∉ N)
      | .cell => decide (y.1 ∈ own.map (·.1)) || decide (y.1 ∉ N)
      | _ => true)
theorem blkOk_by {N : List Str} {sc scope : Scope} {own : List (Str × Nat)} (h : blkC N sc scope own = true) : BlkOk N sc scope own := by
  unfold blkC at h
  simp only [Bool.and_eq_true, List.all_eq_true, decide_eq_true_eq] at h
  obtain ⟨⟨⟨h1, h2⟩, h3⟩, h4⟩ := h
  refine ⟨?_, h2, h3, fun y hy e => ?_, fun y hy e => ?_⟩
  · split at h1
    · assumption
    · cases h1
  · have q := h4 y hy
    simp only [e] at q
    split at q <;> first | exact .inl (by assumption) | exact .inr (by assumption) | cases q
  · have q := h4 y hy
    rcases e with e | e <;> (simp only [e, Bool.or_eq_true, decide_eq_true_eq] at q; exact q)
end L2
namespace L2
open PySem PySem.Spec PyProof.Rows
section
variable {prog : Program} {w : World} {A : Around} {R : Result → Shared → Prop} {s : Shared} {elt t0 i0 t1 i1 : Expr} {ifs0 ifs1 : List Expr} {scope : Scope} {pos : Pos} {it acc : Value} {env : Env}
end
section
variable {X : Cx}
end
end L2
namespace L2
open PySem PySem.Spec PyProof.Rows
section
variable {κ : Type} [DecidableEq κ]
def valV (kvs : List (κ × V)) (k : κ) : Option V := (kvs.find? fun kv => decide (kv.1 = k)).map (·.2)
def putK (kvs : List (κ × V)) (k : κ) (v : V) : List (κ × V) :=
  if (kvs.any fun kv => decide (kv.1 = k)) = true then kvs.map (fun kv => if kv.1 = k then (kv.1, v) else kv) else kvs ++ [(k, v)]
def dropK (kvs : List (κ × V)) (k : κ) : List (κ × V) := kvs.filter fun kv => decide (kv.1 ≠ k)
theorem valV_nil {k : κ} : valV ([] : List (κ × V)) k = none := rfl
theorem valV_pos {p : κ × V} {r : List (κ × V)} {k : κ} (e : p.1 = k) : valV (p :: r) k = some p.2 := by simp [valV, List.find?_cons, e]
theorem valV_neg {p : κ × V} {r : List (κ × V)} {k : κ} (e : ¬ p.1 = k) : valV (p :: r) k = valV r k := by simp [valV, List.find?_cons, e]
theorem valV_any (k : κ) : ∀ kvs : List (κ × V), (kvs.any fun kv => decide (kv.1 = k)) = (valV kvs k).isSome
  | [] => rfl
  | p :: r => by
    rw [List.any_cons]
    by_cases e : p.1 = k
    · simp only [valV_pos e, decide_eq_true e, Bool.true_or, Option.isSome_some]
    · rw [valV_neg e, decide_eq_false e, Bool.false_or]; exact valV_any k r
theorem valV_map (k j : κ) (y : V) : ∀ kvs : List (κ × V), valV (kvs.map fun kv => if kv.1 = k then (kv.1, y) else kv) j = (valV kvs j).map fun x => if j = k then y else x
  | [] => rfl
  | p :: r => by
    have ih := valV_map k j y r
    rw [List.map_cons]
    by_cases h : p.1 = k
    · rw [if_pos h]
      by_cases e : p.1 = j
      · rw [valV_pos (p := (p.1, y)) e, valV_pos e, Option.map_some, if_pos (e.symm.trans h)]
      · rw [valV_neg (p := (p.1, y)) e, valV_neg e, ih]
    · rw [if_neg h]
      by_cases e : p.1 = j
      · rw [valV_pos (p := p) e, valV_pos e, Option.map_some, if_neg (fun z => h (e.trans z))]
      · rw [valV_neg (p := p) e, valV_neg e, ih]
theorem valV_snoc (k j : κ) (y : V) : ∀ kvs : List (κ × V), valV kvs k = none → valV (kvs ++ [(k, y)]) j = if j = k then some y else valV kvs j
  | [], _ => by
    by_cases e : k = j
    · rw [if_pos e.symm]; exact valV_pos (p := (k, y)) e
    · rw [if_neg (fun z => e z.symm)]; exact valV_neg (p := (k, y)) e
  | p :: r, hn => by
    rw [List.cons_append]
    have hk : ¬ p.1 = k := fun z => by rw [valV_pos z] at hn; cases hn
    rw [valV_neg hk] at hn
    have ih := valV_snoc k j y r hn
    by_cases e : p.1 = j
    · rw [valV_pos e, valV_pos e, if_neg (fun z => hk (e.trans z))]
    · rw [valV_neg e, valV_neg e, ih]
theorem valV_put (kvs : List (κ × V)) (k j : κ) (y : V) : valV (putK kvs k y) j = if j = k then some y else valV kvs j := by
  unfold putK
  by_cases a : (kvs.any fun kv => decide (kv.1 = k)) = true
  · rw [if_pos a, valV_map]
    rw [valV_any] at a
    by_cases e : j = k
    · obtain ⟨x, hx⟩ := Option.isSome_iff_exists.mp a
      rw [if_pos e, e, hx, Option.map_some, if_pos rfl]
    · rw [if_neg e]
      cases valV kvs j with
      | none => rfl
      | some x => rw [Option.map_some, if_neg e]
  · rw [if_neg a]
    refine valV_snoc k j y kvs ?_
    rw [valV_any] at a
    cases q : valV kvs k with
    | none => rfl
    | some x => rw [q] at a; exact (a rfl).elim
theorem length_putK (kvs : List (κ × V)) (k : κ) (v : V) : (putK kvs k v).length ≤ kvs.length + 1 := by
  unfold putK
  split
  · rw [List.length_map]; omega
  · rw [List.length_append, List.length_cons, List.length_nil]; omega
theorem putK_new {kvs : List (κ × V)} {k : κ} (v : V) (h : valV kvs k = none) : putK kvs k v = kvs ++ [(k, v)] := by
  unfold putK
  rw [valV_any, h]
  exact if_neg (by decide)
theorem RelO.isSome_eq {o : Option V} {u : Option Value} (r : RelO o u) : o.isSome = u.isSome := by
  cases o with
  | none => cases u with
    | none => rfl
    | some _ => exact (show False from r).elim
  | some _ => cases u with
    | none => exact (show False from r).elim
    | some _ => rfl
theorem RelO.getD {o : Option V} {u : Option Value} {d : V} {d' : Value} (r : RelO o u) (rd : RelV d d') : RelV (o.getD d) (u.getD d') := by
  cases o with
  | none => cases u with
    | none => exact rd
    | some _ => exact (show False from r).elim
  | some _ => cases u with
    | none => exact (show False from r).elim
    | some _ => exact r
theorem KV.val {kvs : List (κ × V)} {vs : List (κ × Value)} (r : KV kvs vs) (k : κ) : RelO (valV kvs k) (valueAt vs k) := by
  unfold KV at r
  induction r with
  | nil => exact True.intro
  | @cons p q ps qs h t ih =>
    obtain ⟨h1, h2⟩ := h
    by_cases e : p.1 = k
    · have e' : q.1 = k := h1.symm.trans e
      have b : valueAt (q :: qs) k = some q.2 := by simp [valueAt, List.find?_cons, e']
      rw [valV_pos e, b]; exact h2
    · have e' : ¬ q.1 = k := fun z => e (h1.trans z)
      have b : valueAt (q :: qs) k = valueAt qs k := by simp [valueAt, List.find?_cons, e']
      rw [valV_neg e, b]; exact ih
theorem KV.any {kvs : List (κ × V)} {vs : List (κ × Value)} (r : KV kvs vs) (k : κ) : (kvs.any fun kv => decide (kv.1 = k)) = vs.any fun kv => decide (kv.1 = k) := by
  unfold KV at r
  induction r with
  | nil => rfl
  | cons h t ih => rw [List.any_cons, List.any_cons, ih, h.1]
theorem KV.repl {kvs : List (κ × V)} {vs : List (κ × Value)} (r : KV kvs vs) (k : κ) {y : V} {u : Value} (ry : RelV y u) :
    KV (kvs.map fun kv => if kv.1 = k then (kv.1, y) else kv) (vs.map fun kv => if kv.1 = k then (kv.1, u) else kv) := by
  unfold KV at r ⊢
  induction r with
  | nil => exact .nil
  | @cons p q ps qs h t ih =>
    rw [List.map_cons, List.map_cons]
    refine .cons ?_ ih
    obtain ⟨h1, h2⟩ := h
    by_cases e : p.1 = k
    · rw [if_pos e, if_pos (h1.symm.trans e)]; exact ⟨h1, ry⟩
    · rw [if_neg e, if_neg (fun z => e (h1.trans z))]; exact ⟨h1, h2⟩
theorem KV.put {kvs : List (κ × V)} {vs : List (κ × Value)} (r : KV kvs vs) (k : κ) {y : V} {u : Value} (ry : RelV y u) : KV (putK kvs k y) (stored vs k u) := by
  unfold putK stored
  rw [r.any k]
  by_cases e : (vs.any fun kv => decide (kv.1 = k)) = true
  · rw [if_pos e, if_pos e]; exact r.repl k ry
  · rw [if_neg e, if_neg e]; exact Paired.snoc r ⟨rfl, ry⟩
theorem KV.drop {kvs : List (κ × V)} {vs : List (κ × Value)} (r : KV kvs vs) (k : κ) : KV (dropK kvs k) (without vs k) := by
  unfold KV at r ⊢
  unfold dropK without
  induction r with
  | nil => exact .nil
  | @cons p q ps qs h t ih =>
    obtain ⟨h1, h2⟩ := h
    rw [List.filter_cons, List.filter_cons]
    by_cases e : p.1 = k
    · have a : ¬ decide (p.1 ≠ k) = true := by simp [e]
      have b : ¬ decide (q.1 ≠ k) = true := by simp [h1.symm.trans e]
      rw [if_neg a, if_neg b]; exact ih
    · have e' : ¬ q.1 = k := fun z => e (h1.trans z)
      have a : decide (p.1 ≠ k) = true := by simp [e]
      have b : decide (q.1 ≠ k) = true := by simp [e']
      rw [if_pos a, if_pos b]; exact .cons ⟨h1, h2⟩ ih
theorem KV.keys {kvs : List (κ × V)} {vs : List (κ × Value)} (r : KV kvs vs) : kvs.map (·.1) = vs.map (·.1) := by
  unfold KV at r
  induction r with
  | nil => rfl
  | cons h t ih => rw [List.map_cons, List.map_cons, ih, h.1]
theorem KV.length {kvs : List (κ × V)} {vs : List (κ × Value)} (r : KV kvs vs) : kvs.length = vs.length := Paired.length r
end
theorem kV_is {P : Program} {w : World} {k : Key} {u : Value} (r : RelV (kV k) u) : (mixKind P w).is k u = true := by
  cases k with
  | inl i => obtain ⟨t, e⟩ := (show ∃ t, u = Value.int i t from r); subst e; exact mixKind_int P w i t
  | inr x => cases x with
    | some x => obtain ⟨t, e⟩ := (show ∃ t, u = Value.str x t from r); subst e; exact mixKind_str P w x t
    | none => obtain rfl := (show u = Value.none from r); rfl
theorem items_are {P : Program} {w : World} : ∀ {ks : List Key} {us : List Value}, Vals (ks.map kV) us → ItemsAre (mixKind P w) ks us
  | [], _, r => by rw [List.map_nil] at r; cases r; exact .nil
  | k :: ks, _, r => by
    rw [List.map_cons] at r
    cases r with
    | cons h t => exact .cons (kV_is h) (items_are t)
abbrev KT (H : Hp) : List (List Key × V) → List (List Key × Addr × Value) → Prop := Paired fun p q => p.1 = q.1 ∧ H q.2.1 = some (.tup (p.1.map kV)) ∧ RelV p.2 q.2.2
theorem KT.val {H : Hp} {kvs : List (List Key × V)} {xs : List (List Key × Addr × Value)} (r : KT H kvs xs) (k : List Key) : RelO (valV kvs k) ((atKey xs k).map (·.2)) := by
  induction r with
  | nil => exact True.intro
  | @cons p q ps qs h t ih =>
    obtain ⟨h1, _, h2⟩ := h
    by_cases e : p.1 = k
    · have e' : q.1 = k := h1.symm.trans e
      have b : atKey (q :: qs) k = some q.2 := by simp [atKey, List.find?_cons, e']
      rw [valV_pos e, b]; exact h2
    · have e' : ¬ q.1 = k := fun z => e (h1.trans z)
      have b : atKey (q :: qs) k = atKey qs k := by simp [atKey, List.find?_cons, e']
      rw [valV_neg e, b]; exact ih
theorem KT.repl {H : Hp} {kvs : List (List Key × V)} {xs : List (List Key × Addr × Value)} (r : KT H kvs xs) (k : List Key) {y : V} {u : Value} (ry : RelV y u) :
    KT H (kvs.map fun kv => if kv.1 = k then (kv.1, y) else kv) (xs.map (putAt k u)) := by
  induction r with
  | nil => exact .nil
  | @cons p q ps qs h t ih =>
    rw [List.map_cons, List.map_cons]
    refine .cons ?_ ih
    obtain ⟨h1, h2, h3⟩ := h
    unfold putAt
    by_cases e : p.1 = k
    · rw [if_pos e, if_pos (h1.symm.trans e)]; exact ⟨h1, h2, ry⟩
    · rw [if_neg e, if_neg (fun z => e (h1.trans z))]; exact ⟨h1, h2, h3⟩
theorem KT.put {H : Hp} {kvs : List (List Key × V)} {xs : List (List Key × Addr × Value)} (r : KT H kvs xs) (k : List Key) {b : Addr} {y : V} {u : Value} (hb : H b = some (.tup (k.map kV))) (ry : RelV y u) :
    KT H (putK kvs k y) (storedH xs k b u) := by
  have e : (kvs.any fun kv => decide (kv.1 = k)) = (atKey xs k).isSome := by
    rw [valV_any, (r.val k).isSome_eq, Option.isSome_map]
  unfold putK storedH
  rw [e]
  by_cases q : (atKey xs k).isSome = true
  · rw [if_pos q, if_pos q]; exact r.repl k ry
  · rw [if_neg q, if_neg q]; exact Paired.snoc r ⟨rfl, hb, ry⟩
theorem KT.keeps {H H' : Hp} {kvs : List (List Key × V)} {xs : List (List Key × Addr × Value)} (r : KT H kvs xs) (ht : ∀ b ys, H b = some (.tup ys) → H' b = some (.tup ys)) : KT H' kvs xs :=
  Paired.mapP r fun _ _ z => ⟨z.1, ht _ _ z.2.1, z.2.2⟩
section
variable {P : Program} {w : World} {H : Hp} {h : Heap} {a : Addr}
theorem rd_of {u : HO} (ok : HOk P w H h) (e : Rd H a u) : ObjOk P w H h a u := e.ok ok
theorem dk_rd {kvs : List (Key × V)} (ok : HOk P w H h) (e : Rd H a (.dK kvs)) : kvs.length ≤ sizeLine ∧ (a == sysModules) = false ∧ ∃ vs, KV kvs vs ∧ h.DictOf (mixKind P w) a vs :=
  show ObjOk P w H h a (.dK kvs) from rd_of ok e
theorem dk_of {kvs : List (Key × V)} (ok : HOk P w H h) (e : H a = some (.dK kvs)) : kvs.length ≤ sizeLine ∧ (a == sysModules) = false ∧ ∃ vs, KV kvs vs ∧ h.DictOf (mixKind P w) a vs := dk_rd ok (.inl e)
theorem key_of {ks : List Key} (ok : HOk P w H h) (e : H a = some (.tup (ks.map kV))) : (tupleKind (mixKind P w)).is h ks a := by
  obtain ⟨_, its, r, o, h1, _, h2, n, h3⟩ := (show ObjOk P w H h a (.tup (ks.map kV)) from ok a _ e)
  exact ⟨o, its.toArray, n, h1, h2, h3, by simpa using items_are r⟩
theorem dt_rd {kvs : List (List Key × V)} (ok : HOk P w H h) (e : Rd H a (.dT kvs)) : kvs.length ≤ sizeLine ∧ (a == sysModules) = false ∧
    ∃ xs, KT H kvs xs ∧ h.DictOfH (tupleKind (mixKind P w)) a xs := by
  obtain ⟨z, y, xs, r, o, es, ep, h1, h2, h3, h4, h5⟩ := (show ObjOk P w H h a (.dT kvs) from rd_of ok e)
  refine ⟨z, y, xs, r, o, es, ep, h1, h2, h3, h4, fun x hx => ?_, h5⟩
  have all : ∀ {l : List (List Key × V)} {m : List (List Key × Addr × Value)}, KT H l m → ∀ x ∈ m, (tupleKind (mixKind P w)).is h x.1 x.2.1 := by
    intro l m q
    induction q with
    | nil => intro x hx; exact nomatch hx
    | @cons p q ps qs hq t ih =>
      intro x hx
      rcases List.mem_cons.mp hx with e | hx
      · subst e
        exact key_of ok (by rw [← hq.1]; exact hq.2.1)
      · exact ih x hx
  exact all r x hx
theorem dt_of {kvs : List (List Key × V)} (ok : HOk P w H h) (e : H a = some (.dT kvs)) : kvs.length ≤ sizeLine ∧ (a == sysModules) = false ∧
    ∃ xs, KT H kvs xs ∧ h.DictOfH (tupleKind (mixKind P w)) a xs := dt_rd ok (.inl e)
end
def DGet (H : Hp) (a : Addr) (y : V) (r : Option V) : Prop :=
  (∃ kvs k, Rd H a (.dK kvs) ∧ y = kV k ∧ r = valV kvs k) ∨ ∃ kvs k b, Rd H a (.dT kvs) ∧ y = .ref b ∧ H b = some (.tup (k.map kV)) ∧ r = valV kvs k
def DPut (H : Hp) (a : Addr) (y v : V) (H' : Hp) : Prop :=
  (∃ kvs k, H a = some (.dK kvs) ∧ y = kV k ∧ kvs.length < sizeLine ∧ H' = upd H a (.dK (putK kvs k v))) ∨
  ∃ kvs k b, H a = some (.dT kvs) ∧ y = .ref b ∧ H b = some (.tup (k.map kV)) ∧ kvs.length < sizeLine ∧ H' = upd H a (.dT (putK kvs k v))
theorem DGet.k {H : Hp} {a : Addr} {kvs : List (Key × V)} {k : Key} (e : H a = some (.dK kvs)) : DGet H a (kV k) (valV kvs k) := .inl ⟨kvs, k, .inl e, rfl, rfl⟩
theorem DGet.t {H : Hp} {a b : Addr} {kvs : List (List Key × V)} {k : List Key} (e : H a = some (.dT kvs)) (eb : H b = some (.tup (k.map kV))) : DGet H a (.ref b) (valV kvs k) := .inr ⟨kvs, k, b, .inl e, rfl, eb, rfl⟩
theorem DPut.k {H : Hp} {a : Addr} {kvs : List (Key × V)} {k : Key} {v : V} (e : H a = some (.dK kvs)) (hl : kvs.length < sizeLine) : DPut H a (kV k) v (upd H a (.dK (putK kvs k v))) := .inl ⟨kvs, k, e, rfl, hl, rfl⟩
theorem DPut.t {H : Hp} {a b : Addr} {kvs : List (List Key × V)} {k : List Key} {v : V} (e : H a = some (.dT kvs)) (eb : H b = some (.tup (k.map kV))) (hl : kvs.length < sizeLine) :
    DPut H a (.ref b) v (upd H a (.dT (putK kvs k v))) := .inr ⟨kvs, k, b, e, rfl, eb, hl, rfl⟩
section
variable {X : Cx} {pins : List (Addr × Obj)} {σ : St} {H : Hp} {s : Shared} {a : Addr} {y v : V} {u r : Value} {o : Option V} {A : Around} {E : Value → Shared → Prop}
theorem Inv.big (I : Inv X pins σ H s) : sysModules < s.heap.objs.size := by
  have h : mainGlobals < s.heap.objs.size := (I.mod.glob.keeps I.bk).lt
  exact Nat.lt_trans (by decide) h
theorem d_getItem {Q : Value → Shared → Prop} (hu : A.units + 1 < cLine) (I : Inv X pins σ H s) (g : DGet H a y (some v)) (ry : RelV y u) (h : ∀ w' s', Inv X pins σ H s' → RelV v w' → Q w' s') :
    wpAny (model X.prog X.w) A (getItem (.ref a) u) Q E s := by
  rcases g with ⟨kvs, k, e, ey, l⟩ | ⟨kvs, k, b, e, ey, eb, l⟩
  · subst ey
    obtain ⟨z, hd, vs, rel, dd⟩ := dk_rd I.hok e
    obtain ⟨w', hw, rw'⟩ := RelO.some_of (v := v) (o := valueAt vs k) (by rw [l]; exact rel.val k)
    exact wpAny_getItem_of (kV_is ry) dd.mapOf hw (h w' _ (I.tok _) rw')
  · subst ey
    cases (show u = Value.ref b from ry)
    obtain ⟨z, hd, xs, rel, dd⟩ := dt_rd I.hok e
    obtain ⟨w', hw, rw'⟩ := RelO.some_of (v := v) (o := (atKey xs k).map (·.2)) (by rw [l]; exact rel.val k)
    obtain ⟨p, hp, hp2⟩ := Option.map_eq_some_iff.mp hw
    refine wpAny_getItem_heap (tupleKind_room_in1 hu) (key_of I.hok eb) dd hp ?_
    rw [hp2]
    exact h w' _ (I.tok _) rw'
theorem d_notIn {Q : Value → Shared → Prop} (hu : A.units + 1 < cLine) (I : Inv X pins σ H s) (g : DGet H a y o) (ry : RelV y u) (h : ∀ s', Inv X pins σ H s' → Q (.bool (!o.isSome)) s') :
    wpAny (model X.prog X.w) A (compareOp .NotIn u (.ref a)) Q E s := by
  rcases g with ⟨kvs, k, e, ey, l⟩ | ⟨kvs, k, b, e, ey, eb, l⟩
  · subst ey
    obtain ⟨z, hd, vs, rel, dd⟩ := dk_rd I.hok e
    refine wpAny_notIn_of (kV_is ry) hd dd.mapOf ?_
    rw [← (rel.val k).isSome_eq, ← l]
    exact h _ (I.tok _)
  · subst ey
    cases (show u = Value.ref b from ry)
    obtain ⟨z, hd, xs, rel, dd⟩ := dt_rd I.hok e
    refine wpAny_notIn_heap (tupleKind_room_in1 hu) (key_of I.hok eb) hd dd ?_
    have q := (rel.val k).isSome_eq
    rw [Option.isSome_map] at q
    rw [← q, ← l]
    exact h _ (I.tok _)
theorem d_write {h' : Heap} {t' : Nat} {ob : HO} (I : Inv X pins σ H s) (mu : Mut (H a)) (hs : Heap.SameBut a s.heap h') (he : ∃ q, h'.get? a = some q) (new : ObjOk X.prog X.w (upd H a ob) h' a ob) :
    Inv X pins σ (upd H a ob) { s with heap := h', toks := t' } :=
  I.write (x := a) (e := a) mu (.inl rfl) (fun b q hb z => (hs.2 b hb).trans z) he new
theorem dk_new {P : Program} {w : World} {H' : Hp} {h' : Heap} {kvs : List (Key × V)} {vs : List (Key × Value)} (z : kvs.length ≤ sizeLine) (hd : (a == sysModules) = false) (rel : KV kvs vs) (dd : h'.DictOf (mixKind P w) a vs) :
    ObjOk P w H' h' a (.dK kvs) := ⟨z, hd, vs, rel, dd⟩
theorem d_setItem {H' : Hp} {Q : Unit → Shared → Prop} (hu : A.units + 1 < cLine) (I : Inv X pins σ H s) (g : DPut H a y v H') (ry : RelV y u) (rv : RelV v r) (h : ∀ s', Inv X pins σ H' s' → Q () s') :
    wpAny (model X.prog X.w) A (setItem (.ref a) u r) Q E s := by
  rcases g with ⟨kvs, k, e, ey, l, eH⟩ | ⟨kvs, k, b, e, ey, eb, l, eH⟩
  · subst ey eH
    obtain ⟨z, hd, vs, rel, dd⟩ := dk_of I.hok e
    have hz : vs.length ≤ sizeLine := by rw [← rel.length]; exact z
    have hl : (putK kvs k v).length ≤ sizeLine := by have := length_putK kvs k v; omega
    refine wpAny_setItem_pairs (hsz := hz) (kV_is ry) dd fun h' dd' hs => h _ ?_
    have he : ∃ q, h'.get? a = some q := let ⟨q, _, _, hq, _⟩ := dd'; ⟨q, hq⟩
    exact d_write I (by rw [e]; exact True.intro) hs he (dk_new hl hd (rel.put k rv) dd')
  · subst ey eH
    cases (show u = Value.ref b from ry)
    obtain ⟨z, hd, xs, rel, dd⟩ := dt_of I.hok e
    have hz : xs.length ≤ sizeLine := by rw [← Paired.length rel]; exact z
    have hl : (putK kvs k v).length ≤ sizeLine := by have := length_putK kvs k v; omega
    refine wpAny_setItem_heap (hsz := hz) (tupleKind_room_in1 hu) (key_of I.hok eb) dd fun h' dd' hs => h _ ?_
    obtain ⟨q, es, ep, hq, h2, h3, h4, _, h5⟩ := dd'
    refine d_write I (by rw [e]; exact True.intro) hs ⟨q, hq⟩ ⟨hl, hd, _, (rel.put k eb rv).keeps fun c ys ec => ?_, q, es, ep, hq, h2, h3, h4, h5⟩
    rw [upd_ne (ne_of ec e (fun z => nomatch z))]
    exact ec
end
section
variable {X : Cx} {pins : List (Addr × Obj)} {σ : St} {H : Hp} {s : Shared} {a : Addr} {kvs : List (Key × V)} {k : Key} {u : Value} {A : Around} {E : Value → Shared → Prop}
theorem d_len {Q : Value → Shared → Prop} (I : Inv X pins σ H s) (e : Rd H a (.dK kvs)) (h : ∀ t s', Inv X pins σ H s' → Q (.int kvs.length t) s') : wpAny (model X.prog X.w) A (call (.builtin "len") [.ref a]) Q E s := by
  obtain ⟨z, hd, vs, rel, dd⟩ := dk_rd I.hok e
  refine call_len_dict hd dd (by rw [← rel.length]; rw [sizeLine_eq] at z; omega) ?_
  rw [← rel.length]
  exact h _ _ (I.tok _)
end
def NoSl (i : Expr) : Prop := ∀ ov iv, subscripted i false ov iv = operate [ov, iv] (getItem ov iv)
theorem subD_of {prog : Program} {w : World} {A : Around} {E : Value → Shared → Prop} {s : Shared} {env : Env} {value slice : Expr} {pos : Pos} {T id : String} {Q : Value → Shared → Prop}
    (hl : typeLookup (.type T) "__getitem__" = pure (some (.builtin id))) (hs : NoSl slice)
    (h : wpAny (model prog w) A (eval value env) (fun o s₁ => wpAny (model prog w) A (eval slice env) (fun i s₂ => s₂.TypeIs o T ∧ wpAny (model prog w) A (getItem o i) Q E s₂) E s₁) E s) :
    wpAny (model prog w) A (eval (.Subscript value slice pos) env) Q E s := by
  refine Subscript_ (wpAny_mono h (fun o s₁ h₁ => wpAny_mono h₁ (fun i s₂ h₂ => ?_) fun _ _ x => x) fun _ _ x => x)
  obtain ⟨hT, h₂⟩ := h₂
  unfold subscriptTail
  refine wpAny_bind ?_
  rw [getitemInPython_of_ne hT.not_modules]
  refine wpAny_bind (wpAny_specialOf hT hl ?_)
  have fin : wpAny (model prog w) A (subscripted slice false o i) (fun r s₃ => wpAny (model prog w) A (letTemporaryGo value o r >>= fun _ => pure r) Q E s₃) E s₂ := by
    rw [hs o i]
    exact wpAny_operating (wpAny_mono h₂ (fun r s₃ h₃ => wpAny_bind (wpAny_letTemporaryGo (wpAny_pure h₃))) fun _ _ x => x)
  first
    | exact wpAny_pure (wpAny_bind fin)
    | exact wpAny_bind (wpAny_pure (wpAny_bind fin))
    | exact wpAny_bind fin
theorem dict_typeIs {X : Cx} {pins : List (Addr × Obj)} {σ : St} {H : Hp} {s : Shared} {a : Addr} {y : V} {o : Option V} (I : Inv X pins σ H s) (g : DGet H a y o) : s.TypeIs (.ref a) "dict" := by
  rcases g with ⟨kvs, k, e, _, _⟩ | ⟨kvs, k, b, e, _, _, _⟩
  · obtain ⟨_, _, vs, _, dd⟩ := dk_rd I.hok e
    exact dd.typeIs
  · obtain ⟨_, _, xs, _, dd⟩ := dt_rd I.hok e
    exact dd.typeIs
def tDGet (td ty : TE) : TE := fun σ H Q => td σ H fun x H1 => ty σ H1 fun y H2 => ∃ a v, x = .ref a ∧ DGet H2 a y (some v) ∧ Q v H2
def tDNotIn (ty td : TE) : TE := fun σ H Q => ty σ H fun y H1 => td σ H1 fun x H2 => ∃ a o, x = .ref a ∧ DGet H2 a y o ∧ Q (.bl (!o.isSome)) H2
def sDPut (td ty tv : TE) : TS := fun D σ H => tv σ H fun v H1 => td σ H1 fun x H2 => ty σ H2 fun y H3 => ∃ a H4, x = .ref a ∧ DPut H3 a y v H4 ∧ D.nx σ H4
section
variable {X : Cx} {o i e value : Expr} {pos pos' tpos : Pos} {td ty tv : TE}
theorem pe_dget (hu : X.A.units + 1 < cLine) (ho : PE X o td) (hi : PE X i ty) (hs : NoSl i) : PE X (.Subscript o i pos) (tDGet td ty) := by
  intro pins s σ H Q I h
  refine subD_of PySem.F.slot_dict_getitem.lookup hs (thn (ho pins s σ H _ I h) fun u s1 ⟨x, H1, I1, rx, q1⟩ => thn (hi pins s1 σ H1 _ I1 q1) fun iv s2 ⟨y, H2, I2, ry, a, v, ex, g, q2⟩ => ?_)
  subst ex
  obtain rfl : u = Value.ref a := rx
  exact ⟨dict_typeIs I2 g, d_getItem hu I2 g ry fun w' s3 I3 rw' => ⟨v, H2, I3, rw', q2⟩⟩
theorem pc_dnotin (hu : X.A.units + 1 < cLine) (hi : PE X i ty) (ho : PE X o td) : PC X .NotIn i o (tDNotIn ty td) := by
  intro pins s σ H Q I h
  refine thn (hi pins s σ H _ I h) fun iv s1 ⟨y, H1, I1, ry, q1⟩ => thn (ho pins s1 σ H1 _ I1 q1) fun u s2 ⟨x, H2, I2, rx, a, ov, ex, g, q2⟩ => ?_
  subst ex
  obtain rfl : u = Value.ref a := rx
  exact d_notIn hu I2 g ry fun s3 I3 => ⟨.bl (!ov.isSome), H2, I3, rfl, q2⟩
theorem ps_dput (hu : X.A.units + 1 < cLine) (ho : PE X o td) (hi : PE X i ty) (hv : PE X value tv) (hs : swapsWith value (some (.Subscript o i pos')) pos.line X.env = pure false) :
    PS X (.Assign [.Subscript o i pos'] value pos) (sDPut td ty tv) := by
  intro pins s σ H D I h
  refine wpAny_Assign_Subscript (thn (hv pins s σ H _ I h) fun r s1 ⟨v, H1, I1, rv, q1⟩ => thn (ho pins s1 σ H1 _ I1 q1) fun u s2 ⟨x, H2, I2, rx, q2⟩ => thn (hi pins s2 σ H2 _ I2 q2) fun iv s3 ⟨y, H3, I3, ry, a, H4, ex, g, q3⟩ => ?_) hs
  subst ex
  obtain rfl : u = Value.ref a := rx
  exact d_setItem hu I3 g ry rv fun s4 I4 => ⟨σ, H4, I4, q3⟩
end
theorem dk_empty {P : Program} {w : World} {H : Hp} (h : Heap) (hb : sysModules < h.objs.size) : ObjOk P w H (h.push { cls := .type "dict", data := .dict #[] }) h.objs.size (.dK []) :=
  ⟨Nat.zero_le _, beq_eq_false_iff_ne.mpr (Ne.symm (Nat.ne_of_lt hb)), [], .nil, Heap.DictOf.new h⟩
def tDNewK : TE := fun _ H Q => ∀ p, H p = none → Q (.ref p) (upd H p (.dK []))
section
variable {X : Cx} {pos : Pos}
theorem pe_dnewK : PE X (.Dict [] [] pos) tDNewK := fun pins s σ H Q I h =>
  wpAny_Dict_empty ⟨.ref s.heap.objs.size, _, I.laid (a := s.heap.objs.size) (o := .dK []) (t' := s.toks) (fun _ _ q => Heap.get?_push_of_some _ q) (Nat.le_refl _) (dk_empty s.heap I.big), rfl, h _ (I.hok.fresh (Nat.le_refl _))⟩
end
def tPairs : List (TE × TE) → St → Hp → (List (V × V) → Hp → Prop) → Prop
  | [], _, H, Q => Q [] H
  | (tk, tv) :: r, σ, H, Q => tk σ H fun x H1 => tv σ H1 fun y H2 => tPairs r σ H2 fun ps H3 => Q ((x, y) :: ps) H3
abbrev VV : List (V × V) → List (Value × Value) → Prop := Paired fun p q => RelV p.1 q.1 ∧ RelV p.2 q.2
def PPs (X : Cx) (pos : Pos) (keys : List (Option Expr)) (values : List Expr) (trs : List (TE × TE)) : Prop :=
  ∀ (pins : List (Addr × Obj)) (s : Shared) (σ : St) (H : Hp) (Q : List (V × V) → Hp → Prop), Inv X pins σ H s → tPairs trs σ H Q →
    wpAny (model X.prog X.w) X.A (evalPairs (pairTrees keys values X.env pos)) (fun vs s' => ∃ ps H', Inv X pins σ H' s' ∧ VV ps vs ∧ Q ps H') X.xe s
theorem pps_nil {X : Cx} {pos : Pos} : PPs X pos [] [] [] := fun pins s σ H Q I h => pairTrees_nil_walk ⟨[], H, I, .nil, h⟩
theorem pps_cons {X : Cx} {pos : Pos} {k v : Expr} {ks : List (Option Expr)} {vs : List Expr} {tk tv : TE} {trs : List (TE × TE)} (hk : PE X k tk) (hv : PE X v tv) (hr : PPs X pos ks vs trs) :
    PPs X pos (some k :: ks) (v :: vs) ((tk, tv) :: trs) := fun pins s σ H Q I h =>
  pairTrees_cons_walk (thn (hk pins s σ H _ I h) fun u s1 ⟨x, H1, I1, rx, q1⟩ => thn (hv pins s1 σ H1 _ I1 q1) fun w2 s2 ⟨y, H2, I2, ry, q2⟩ =>
    thn (hr pins s2 σ H2 _ I2 q2) fun ws s3 ⟨ps, H3, I3, rel, q3⟩ => ⟨(x, y) :: ps, H3, I3, .cons ⟨rx, ry⟩ rel, q3⟩)
def mergeK (kvs more : List (Key × V)) : List (Key × V) := more.foldl (fun acc kv => putK acc kv.1 kv.2) kvs
theorem KV.merge : ∀ {more : List (Key × V)} {rs : List (Key × Value)} {kvs : List (Key × V)} {vs : List (Key × Value)}, KV more rs → KV kvs vs → KV (mergeK kvs more) (merged vs rs) := by
  intro more rs kvs vs r
  unfold KV at r
  induction r generalizing kvs vs with
  | nil => intro q; exact q
  | @cons p q ps qs h t ih =>
    intro r0
    have e : KV (putK kvs p.1 p.2) (stored vs q.1 q.2) := by
      have := r0.put p.1 h.2
      rw [← h.1]; exact this
    exact ih e
theorem length_mergeK : ∀ (more kvs : List (Key × V)), (mergeK kvs more).length ≤ kvs.length + more.length
  | [], kvs => by show kvs.length ≤ kvs.length + 0; omega
  | p :: r, kvs => by
    have h1 := length_mergeK r (putK kvs p.1 p.2)
    have h2 := length_putK kvs p.1 p.2
    show (mergeK (putK kvs p.1 p.2) r).length ≤ _
    rw [List.length_cons]; omega
theorem carries_of {P : Program} {w : World} : ∀ {kvs : List (Key × V)} {ws : List (Value × Value)}, VV (kvs.map fun kv => (kV kv.1, kv.2)) ws → ∃ rs, Carries (mixKind P w) ws rs ∧ KV kvs rs
  | [], _, r => by rw [List.map_nil] at r; cases r; exact ⟨[], True.intro, .nil⟩
  | p :: kvs, _, r => by
    rw [List.map_cons] at r
    cases r with
    | @cons a b as bs h t =>
      obtain ⟨rs, c, q⟩ := carries_of (P := P) (w := w) t
      obtain ⟨b1, b2⟩ := b
      exact ⟨(p.1, b2) :: rs, ⟨kV_is h.1, rfl, c⟩, .cons ⟨rfl, h.2⟩ q⟩
def tDisp (trs : List (TE × TE)) : TE := fun σ H Q => ∀ p, H p = none → tPairs trs σ (upd H p (.dK [])) fun ps H2 => H2 p = some (.dK []) ∧ ∃ kvs : List (Key × V), ps = kvs.map (fun kv => (kV kv.1, kv.2)) ∧ kvs.length ≤ 15 ∧ Q (.ref p) (upd H2 p (.dK (mergeK [] kvs)))
theorem pe_disp {X : Cx} {pos : Pos} {keys : List (Option Expr)} {values : List Expr} {trs : List (TE × TE)} (h : PPs X pos keys values trs) (hall : keys.all (·.isSome) = true) (hl : keys.length = values.length) (h0 : keys ≠ [])
    (h15 : keys.length ≤ 15) : PE X (.Dict keys values pos) (tDisp trs) := by
  intro pins s σ H Q I q
  have hn := I.hok.fresh (Nat.le_refl s.heap.objs.size)
  have I1 := I.laid (a := s.heap.objs.size) (o := .dK []) (h' := s.heap.push { cls := .type "dict", data := .dict #[] }) (t' := s.toks) (fun _ _ q => Heap.get?_push_of_some _ q) (Nat.le_refl _) (dk_empty s.heap I.big)
  refine wpAny_Dict_walk (knd := mixKind X.prog X.w) hall hl h0 h15 (thn (h pins _ σ _ _ I1 (q _ hn)) fun ws s2 ⟨ps, H2, I2, rel, e, kvs, ep, lk, q2⟩ => ?_)
  subst ep
  obtain ⟨rs, c, rk⟩ := carries_of (P := X.prog) (w := X.w) rel
  obtain ⟨z, hd, vs0, r0, dd⟩ := dk_of I2.hok e
  cases r0
  refine ⟨rs, c, dd, fun h' dd' hs => ⟨.ref s.heap.objs.size, _, ?_, rfl, q2⟩⟩
  have hz : (mergeK [] kvs).length ≤ sizeLine := by
    have h1 := length_mergeK kvs []
    rw [List.length_nil] at h1
    rw [sizeLine_eq]; omega
  have he : ∃ q, h'.get? s.heap.objs.size = some q := let ⟨q, _, _, hq, _⟩ := dd'; ⟨q, hq⟩
  exact d_write I2 (by rw [e]; exact True.intro) hs he (dk_new hz hd (rk.merge .nil) dd')
structure M1 (X : Cx) (o : Expr) (m : Str) (apos : Pos) (e : Expr) (cpos : Pos) : Prop where
  base : attributeBase o m X.env (eval o X.env) = eval o X.env
  few : ((backTo cpos (starEach [e] X.env)).all (fun x => !x.1) && (backToKw cpos (keywordEach [] X.env)).all (fun x => x.1.isSome)
    && decide (([e] : List Expr).length + ([] : List Keyword).length + (if ([] : List Keyword).isEmpty then 0 else 1) < 30)) = true
  line : (apos.endLine == cpos.line) = true
  trees : backTo cpos (starEach [e] X.env) = [(false, eval e X.env)]
def IsD (H : Hp) (a : Addr) : Prop := (∃ kvs, Rd H a (.dK kvs)) ∨ ∃ kvs, Rd H a (.dT kvs)
theorem isD_at {X : Cx} {pins : List (Addr × Obj)} {σ : St} {H : Hp} {s : Shared} {a : Addr} (I : Inv X pins σ H s) (d : IsD H a) :
    s.TypeIs (.ref a) "dict" ∧ (∀ b, Value.ref a = .ref b → ∃ ob, s.heap.get? b = some ob ∧ ob.dict = none) ∧ (a == sysModules) = false := by
  rcases d with ⟨kvs, e⟩ | ⟨kvs, e⟩
  · obtain ⟨_, hd, vs, _, dd⟩ := dk_rd I.hok e
    refine ⟨dd.typeIs, fun b q => ?_, hd⟩
    cases q
    obtain ⟨ob, _, _, h1, h2, _⟩ := dd
    exact ⟨ob, h1, h2.2.1⟩
  · obtain ⟨_, hd, xs, _, dd⟩ := dt_rd I.hok e
    refine ⟨dd.typeIs, fun b q => ?_, hd⟩
    cases q
    obtain ⟨ob, _, _, h1, h2, _⟩ := dd
    exact ⟨ob, h1, h2.2.1⟩
section
variable {X : Cx} {pins : List (Addr × Obj)} {σ : St} {H : Hp} {s : Shared} {a : Addr} {y d : V} {u r : Value} {o : Option V} {A : Around} {E : Value → Shared → Prop}
theorem d_get1 {Q : Value → Shared → Prop} (hu : A.units + 1 < cLine) (I : Inv X pins σ H s) (g : DGet H a y o) (ry : RelV y u) (h : ∀ w' s', Inv X pins σ H s' → RelV (o.getD .non) w' → Q w' s') :
    wpAny (model X.prog X.w) A (call (.builtin "dict.get") [.ref a, u]) Q E s := by
  rcases g with ⟨kvs, k, e, ey, l⟩ | ⟨kvs, k, b, e, ey, eb, l⟩
  · subst ey
    obtain ⟨z, hd, vs, rel, dd⟩ := dk_rd I.hok e
    refine call_meetsIn PySem.F.slot_dict_get dd.typeIs PySem.F.entry_dict_get (PySem.F.args_dict_get_2 _ _) (meets_dict_get (mixKind X.prog X.w) a (kV_is ry) hd) ⟨_, dd.mapOf, h _ _ (I.tok _) ?_⟩
    rw [l]
    exact (rel.val k).getD rfl
  · subst ey
    cases (show u = Value.ref b from ry)
    obtain ⟨z, hd, xs, rel, dd⟩ := dt_rd I.hok e
    refine call_meetsIn PySem.F.slot_dict_get dd.typeIs PySem.F.entry_dict_get (PySem.F.args_dict_get_2 _ _) (meetsH_dict_get (tupleKind (mixKind X.prog X.w)) a b hd) ⟨tupleKind_room_in1 hu, k, xs, key_of I.hok eb, dd, h _ _ (I.tok _) ?_⟩
    rw [l]
    exact (rel.val k).getD rfl
end
def tDGet1 (td ty : TE) : TE := fun σ H Q => td σ H fun x H1 => ∃ a, x = .ref a ∧ IsD H1 a ∧ ty σ H1 fun y H2 => ∃ o, DGet H2 a y o ∧ Q (o.getD .non) H2
section
variable {X : Cx} {o e f : Expr} {apos cpos : Pos} {td ty tx : TE}
theorem pe_dget1 (hu : X.A.units + 1 < cLine) (ho : PE X o td) (he : PE X e ty) (m : M1 X o "get" apos e cpos) : PE X (.Call (.Attribute o "get" apos) [e] [] cpos) (tDGet1 td ty) := by
  intro pins s σ H Q I h
  refine wpAny_Call_method m.base m.few m.line PySem.F.plainAttrs_dict PySem.F.slot_dict_get PySem.F.type_dict_get (thn (ho pins s σ H _ I h) fun u s1 ⟨x, H1, I1, rx, a, ex, d, q1⟩ => ?_)
  subst ex
  obtain rfl : u = Value.ref a := rx
  obtain ⟨t1, t2, _⟩ := isD_at I1 d
  refine ⟨t1, t2, ?_⟩
  rw [m.trees]
  refine Calls.callWith_builtin rfl (Calls.evalArgs_plain (Calls.spliced_cons (thn (he pins s1 σ H1 _ I1 q1) fun iv s2 ⟨y, H2, I2, ry, ov, g, q2⟩ => Calls.spliced_nil ?_)))
  exact d_get1 hu I2 g ry fun w' s3 I3 rw' => ⟨_, H2, I3, rw', q2⟩
end
section
variable {X : Cx} {pins : List (Addr × Obj)} {σ : St} {H : Hp} {s : Shared} {a : Addr} {kvs : List (Key × V)} {A : Around} {E : Value → Shared → Prop}
end
section
variable {X : Cx} {pins : List (Addr × Obj)} {σ : St} {H : Hp} {s : Shared} {a : Addr} {y : V} {u : Value} {A : Around} {E : Value → Shared → Prop}
end
end L2
namespace L2
open PySem PySem.Spec PyProof.Rows
theorem list_keys_none : typeLookup (.type "list") "keys" = pure none := am_miss_of_fast (by first | decide +kernel | rfl)
theorem ud_entry : entryFor table "dict.update.loop" = some Builtin.«dict.update.loop» := entryFor_of_tree (by kernel_rfl)
theorem ud_plain : plainId "dict.update.loop" = true := by decide +kernel
section
variable {prog : Program} {w : World} {A : Around} {E : Value → Shared → Prop}
theorem miss_list {s : Shared} {a : Addr} {o : Obj} {xs : Array Value} {k : Nat} {Q : Option Value → Shared → Prop} (hx : s.heap.get? a = some o) (hc : o.cls = .type "list") (hdat : o.data = .seq xs k) (hd : o.dict = none) (hA : A.handled = none)
    (h : ∀ h' tk, (∀ b ob, s.heap.get? b = some ob → h'.get? b = some ob) → Q none { s with heap := h', toks := tk }) : wpAny (model prog w) A (getAttr? (.ref a) "keys") Q E s := by
  obtain ⟨c, dct, dat, sl⟩ := o
  simp only at hc hdat hd
  subst hc hdat hd
  obtain ⟨hp, g, d, tk, os⟩ := s
  have hT : ∀ tk', (⟨hp, g, d, tk', os⟩ : Shared).TypeIs (.ref a) "list" := fun _ => ⟨_, hx, rfl⟩
  have hmiss := list_keys_none
  have hname : (["__module__", "__name__", "__qualname__", "__doc__", "__annotations__"] : List Str).contains "keys" = false := by decide +kernel
  have hsz : ("keys" : Str).length + 100 ≤ sizeLine := by first | size_fits | decide +kernel
  have f1 := sub_AttributeError
  have f3 := PySem.F.slot_list_getattribute.lookup
  have f4 := PySem.F.slot_list_getattribute.bind (.ref a)
  have f5 := am_list_getattr_none
  unfold getAttr? getAttrBy? getAttrBy
  repeat (any_goals (first | assumption | exact hT _ | ((with_reducible show wpAny _ _ (call (Value.builtin "list.__getattribute__") _ _) _ _ _); refine call_meets PySem.F.slot_list_getattribute (hT _) am_entry_list_getattribute (PySem.F.args_list_getattribute_2 _ _) (meets_getattribute_miss_list a xs k sl "keys" _ hmiss hname hsz) ⟨hx, hA, fun h' tk' e hx' => ?_⟩) | wp_step))
  obtain ⟨t', u', he⟩ := hx'.there
  show wpAny _ _ (getattributeRaised _ _ _ _ _ _ _) _ _ _
  unfold getattributeRaised
  repeat (any_goals (first | assumption | wp_step))
  all_goals first | exact h _ _ hx'.keeps | (dsimp only; repeat (any_goals (first | assumption | exact h _ _ hx'.keeps | wp_step)))
theorem upd_loop {R : Result → Shared → Prop} {S I l : Addr} {items : Array Value} {res : Value} (hh : A.handled = none) (hlI : l ≠ I) (hSI : S ≠ I) (hSl : S ≠ l) :
    ∀ (rest : List (Key × Value)) (i : Nat) (acc : List (Key × Value)) (ix : Int) (t : Tok) (s : Shared), items.size = i + rest.length → acc.length + rest.length ≤ sizeLine →
      (∀ (j : Nat) (q : Key × Value), rest[j]? = some q → ∃ (b : Addr) (u : Value), items[i + j]? = some (.ref b) ∧ b ≠ S ∧ b ≠ I ∧ IsTup s.heap b #[u, q.2] ∧ keyIs q.1 u = true) →
      s.heap.IsListIter I l i → s.heap.IsList l items → s.heap.DictOf (mixKind prog w) S acc →
      (∀ h' tk, h'.DictOf (mixKind prog w) S (merged acc rest) → (∀ b o, b ≠ S → b ≠ I → s.heap.get? b = some o → h'.get? b = some o) → R (.ok (.ret res)) { s with heap := h', toks := tk }) →
      codeAny (model prog w) A (.builtin "dict.update.loop" ⟨[.ref S, .ref I, .int ix t, res], []⟩) R s
  | [], i, acc, ix, t, s, hsz, hln, ht, hit, hl, hm, hR => by
    refine codeAny_builtin ud_entry ?_
    rw [Around.under_plainId ud_plain _]
    show wpAny _ A.in1 (pyNext (.ref I) >>= _) _ _ s
    refine wpAny_bind (wpAny_pyNext_list_end (A := A.in1) hh hit hl (by first | exact Array.getElem?_eq_none (Nat.le_of_eq hsz) | (simp at hsz; simp; omega)) fun h' he => ?_)
    show wpAny _ A.in1 (Builtin.Dict.addKeywords S [] >>= _) _ _ _
    refine wpAny_bind (wpAny_pure (wpAny_pure ?_))
    exact hR h' s.toks (hm.extBut he hSI) fun b o _ hb e => he b o hb e
  | q :: rest, i, acc, ix, t, s, hsz, hln, ht, hit, hl, hm, hR => by
    obtain ⟨b, u, hb, hbS, hbI, htup, hk⟩ := ht 0 q rfl
    rw [List.length_cons] at hsz hln
    refine codeAny_builtin ud_entry ?_
    rw [Around.under_plainId ud_plain _]
    show wpAny _ A.in1 (pyNext (.ref I) >>= _) _ _ s
    refine wpAny_bind (wpAny_pyNext_list_item (x := .ref b) hit hl (by simpa using hb) fun h1 hit1 hs1 => ?_)
    have ht1 : IsTup h1 b #[u, q.2] := htup.extBut hs1.extBut hbI
    have hl1 : h1.IsList l items := hl.extBut hs1.extBut hlI
    have hm1 : h1.DictOf (mixKind prog w) S acc := hm.extBut hs1.extBut hSI
    obtain ⟨o, ho, hc, n, hd⟩ := id ht1
    show wpAny _ A.in1 (holding [Value.ref b] _ >>= _) _ _ _
    refine wpAny_bind (wpAny_holding ?_)
    refine wpAny_bind (wpAny_tryCatch ?_)
    unfold Builtin.Dict.pairItems
    refine wpAny_bind (wpAny_typeOf (T := "tuple") ⟨o, ho, hc⟩ ?_)
    rw [if_pos (by first | decide | rfl | simp)]
    refine wpAny_bind (wpAny_seqItems ho hd (wpAny_pure ?_))
    show wpAny _ A.in1 (holding [u, q.2] (dictSet S u q.2)) _ _ _
    refine wpAny_holding (wpAny_dictSet_pairs (knd := mixKind prog w) (k := q.1) hk hm1 (fun h2 hm2 hs2 => ?_) (by omega))
    refine wpAny_pure ⟨plainId_quiet ud_plain _, upd_loop (items := items) hh hlI hSI hSl rest (i + 1) (stored acc q.1 q.2) (ix + 1) 0 _ (show items.size = i + 1 + rest.length by omega) ?_ (fun j q' e => ?_) ?_ ?_ hm2 fun h' tk hd' k => ?_⟩
    · have z := stored_length_le acc q.1 q.2
      omega
    · obtain ⟨b', u', hb', hbS', hbI', htup', hk'⟩ := ht (j + 1) q' (by simpa using e)
      refine ⟨b', u', ?_, hbS', hbI', (htup'.extBut hs1.extBut hbI').extBut hs2.extBut hbS', hk'⟩
      rw [show i + 1 + j = i + (j + 1) by omega]
      exact hb'
    · exact hit1.at fun o' e => hs2.extBut I o' (Ne.symm hSI) e
    · exact hl1.extBut hs2.extBut (Ne.symm hSl)
    · exact hR h' tk hd' fun c oc h3 h4 e => k c oc h3 h4 (hs2.extBut c oc h3 (hs1.extBut c oc h4 e))
theorem call_dict_pairs {s : Shared} {l : Addr} {ol : Obj} {items : Array Value} {n : Nat} {prs : List (Key × Value)} {Q : Value → Shared → Prop} (hh : A.handled = none) (hl : s.heap.get? l = some ol) (hc : ol.cls = .type "list") (hd : ol.dict = none)
    (hdat : ol.data = .seq items n) (hsz : items.size = prs.length) (hln : prs.length ≤ sizeLine)
    (ht : ∀ (j : Nat) (q : Key × Value), prs[j]? = some q → ∃ (b : Addr) (u : Value), items[j]? = some (.ref b) ∧ IsTup s.heap b #[u, q.2] ∧ keyIs q.1 u = true)
    (h : ∀ h' tk, h'.DictOf (mixKind prog w) s.heap.objs.size (merged [] prs) → (∀ b o, s.heap.get? b = some o → h'.get? b = some o) → Q (.ref s.heap.objs.size) { s with heap := h', toks := tk }) :
    wpAny (model prog w) A (call (.type "dict") [.ref l]) Q E s := by
  refine callType_codes (Q₁ := fun obj s₁ => obj = .ref s.heap.objs.size ∧ s₁ = { s with heap := s.heap.push { cls := .type "dict", data := .dict #[] } }) PySem.F.kt_called_dict (PySem.F.kt_typeCall_dict_1 _) PySem.F.entry_dict_init (kt_code_dict_new _ ⟨rfl, rfl⟩) ?_
  rintro obj s₁ ⟨rfl, rfl⟩
  have hnew : (s.heap.push { cls := .type "dict", data := .dict #[] }).DictOf (mixKind prog w) s.heap.objs.size [] := Heap.DictOf.new s.heap
  have k0 : ∀ b o, s.heap.get? b = some o → (s.heap.push { cls := .type "dict", data := .dict #[] }).get? b = some o := fun b o e => Heap.get?_push_of_some _ e
  refine ⟨hnew.typeIs, PySem.F.args_dict_init_2 _ _, ?_⟩
  unfold Builtin.«dict.__init__»
  refine wpAny_bind ?_
  unfold Builtin.Dict.selfAndRest
  refine wpAny_bind (wpAny_notOrdered_dict hnew.typeIs ?_)
  show wpAny _ _ (pure (s.heap.objs.size, [Value.ref l])) _ _ _
  refine wpAny_pure ?_
  show wpAny _ _ (Builtin.Dict.updateFrom "dict.__init__" s.heap.objs.size (.ref l) [] .none) _ _ _
  unfold Builtin.Dict.updateFrom
  refine wpAny_bind (wpAny_typeOf (T := "list") ⟨ol, k0 _ _ hl, hc⟩ ?_)
  rw [if_pos (by first | decide | rfl | simp)]
  refine wpAny_bind (miss_list (k0 _ _ hl) hc hdat hd hh fun h1 tk1 hk1 => ?_)
  rw [if_pos (show (none : Option Value).isNone = true from rfl)]
  refine wpAny_bind (wpAny_rule ?_)
  have hl1 : h1.IsList l items := ⟨ol, hk1 _ _ (k0 _ _ hl), hc, n, hdat⟩
  have hS1 : s.heap.objs.size < h1.objs.size := by
    have e : (s.heap.push { cls := .type "dict", data := .dict #[] }).get? s.heap.objs.size = some { cls := .type "dict", data := .dict #[] } := Heap.get?_push_size _ rfl
    exact Heap.lt_size (hk1 _ _ e)
  refine wpAny_bind (wpAny_pyIter_list hl1 ?_)
  have k2 : ∀ b o, h1.get? b = some o → (h1.push { cls := .type "list_iterator", data := .fields #[.ref l, .int 0 0] }).get? b = some o := fun b o e => Heap.get?_push_of_some _ e
  have hlt : l < s.heap.objs.size := Heap.lt_size hl
  have key := upd_loop (prog := prog) (w := w) (A := A.in1) (R := wants (fun r s₂ => r = .none ∧ Q (.ref s.heap.objs.size) s₂) E) (S := s.heap.objs.size) (I := h1.objs.size) (l := l) (items := items) (res := Value.none) hh
    (Nat.ne_of_lt (Nat.lt_trans hlt hS1)) (Nat.ne_of_lt hS1) (Nat.ne_of_gt hlt) prs 0 [] 0 0
    { s with heap := h1.push { cls := .type "list_iterator", data := .fields #[.ref l, .int 0 0] }, toks := tk1 } (by rw [hsz, Nat.zero_add]) (by rw [List.length_nil, Nat.zero_add]; exact hln)
    (fun j q e => by
      obtain ⟨b, u, e1, e2, e3⟩ := ht j q e
      have hb : b < s.heap.objs.size := e2.lt
      exact ⟨b, u, by rw [Nat.zero_add]; exact e1, Nat.ne_of_lt hb, Nat.ne_of_lt (Nat.lt_trans hb hS1), e2.keeps fun c o z => k2 _ _ (hk1 _ _ (k0 _ _ z)), e3⟩)
    ⟨_, Heap.get?_push_size _ rfl, rfl, rfl⟩ (hl1.at fun o e => k2 _ _ e) ((hnew.at fun o e => hk1 _ _ e).at fun o e => k2 _ _ e)
    (fun h' tk hd' k => ⟨rfl, h h' tk hd' fun b o e => k b o (Nat.ne_of_lt (Heap.lt_size e)) (Nat.ne_of_lt (Nat.lt_trans (Heap.lt_size e) hS1)) (k2 _ _ (hk1 _ _ (k0 _ _ e)))⟩)
  first
    | exact wpAny_pure ⟨plainId_quiet ud_plain _, key⟩
    | exact wpAny_bind (wpAny_pure (wpAny_pure ⟨plainId_quiet ud_plain _, key⟩))
end
section
variable {X : Cx}
theorem pairs_of {pins : List (Addr × Obj)} {σ : St} {H : Hp} {s : Shared} (I : Inv X pins σ H s) : ∀ {ps : List Addr} {kvs : List (Key × V)}, Paired (fun p kv => SqT X.K H p [kV kv.1, kv.2]) ps kvs →
    ∃ prs : List (Key × Value), KV kvs prs ∧ prs.length = ps.length ∧ ∀ (j : Nat) (q : Key × Value), prs[j]? = some q → ∃ (b : Addr) (u : Value), ps[j]? = some b ∧ IsTup s.heap b #[u, q.2] ∧ keyIs q.1 u = true
  | _, _, .nil => ⟨[], .nil, rfl, fun j q e => by simp at e⟩
  | _, _, .cons (a := p) (b := kv) h t => by
    obtain ⟨prs, r, hl, hp⟩ := pairs_of I t
    obtain ⟨its, rv, ht, _⟩ := I.tuple h
    obtain ⟨u, y, ei, ru, ry⟩ := vals2 rv
    subst ei
    refine ⟨(kv.1, y) :: prs, .cons ⟨rfl, ry⟩ r, by rw [List.length_cons, List.length_cons, hl], fun j q e => ?_⟩
    cases j with
    | zero =>
      have e' : (kv.1, y) = q := Option.some.inj e
      subst e'
      exact ⟨p, u, rfl, ht, kV_is (P := X.prog) (w := X.w) ru⟩
    | succ j =>
      obtain ⟨b, u', e1, e2, e3⟩ := hp j q (by simpa using e)
      exact ⟨b, u', by simpa using e1, e2, e3⟩
theorem refs_at : ∀ {ps : List Addr} {us : List Value}, Vals (ps.map V.ref) us → us = ps.map Value.ref
  | [], us, r => by
    rw [List.map_nil] at r
    cases r
    rfl
  | p :: ps, us, r => by
    rw [List.map_cons] at r
    cases r with
    | cons h t =>
      cases h
      rw [List.map_cons, ← refs_at t]
theorem call_dictP (hcalm : X.calm = true) : CallR X (.type "dict") (fun xs H Q => ∃ (a : Addr) (ps : List Addr) (kvs : List (Key × V)), xs = [.ref a] ∧ SqL X.K H a (ps.map V.ref) ∧ Paired (fun p kv => SqT X.K H p [kV kv.1, kv.2]) ps kvs ∧
    ∀ p, H p = none → Q (.ref p) (upd H p (.dK (mergeK [] kvs)))) := by
  intro pins s σ H xs us Q I r q
  obtain ⟨a, ps, kvs, ex, hq, hp, q⟩ := q
  subst ex
  obtain ⟨u, eu, rx⟩ := vals1 r
  subst eu
  cases rx
  obtain ⟨its, rv, pl, hz⟩ := I.list hq
  have ei := refs_at rv
  subst ei
  rw [List.length_map] at hz
  obtain ⟨prs, rel, hl, hpr⟩ := pairs_of I hp
  obtain ⟨o, n, ho, hc, hd, hdat⟩ := pl
  refine call_dict_pairs (prs := prs) (I.ok.hd hcalm) ho hc hd hdat (by simp [hl]) (by rw [hl]; exact hz) (fun j q' e => ?_) fun h' tk hd' k => ?_
  · obtain ⟨b, u, e1, e2, e3⟩ := hpr j q' e
    exact ⟨b, u, by simp [e1], e2, e3⟩
  · have hm : (s.heap.objs.size == sysModules) = false := beq_eq_false_iff_ne.mpr (Nat.ne_of_gt I.big)
    have hlen : (mergeK [] kvs).length ≤ sizeLine := by
      refine Nat.le_trans (length_mergeK kvs []) ?_
      rw [List.length_nil, Nat.zero_add, rel.length, hl]
      exact hz
    exact ⟨.ref s.heap.objs.size, upd H s.heap.objs.size (.dK (mergeK [] kvs)), I.laid (t' := tk) k (Nat.le_refl _) (show ObjOk X.prog X.w _ _ _ (.dK (mergeK [] kvs)) from ⟨hlen, hm, merged [] prs, KV.merge rel .nil, hd'⟩), rfl, q _ (I.hok.fresh (Nat.le_refl _))⟩
end
end L2
namespace L2
open PySem PySem.Spec PyProof.Rows
section
variable {X : Cx} {pins : List (Addr × Obj)} {σ : St} {H : Hp} {s : Shared} {h' : Heap}
theorem Inv.turnedNew {t' : Nat} {ch : List Addr} {T : Addr} {ob : HO} (I : Inv X pins σ H s) (k : ∀ b o, b ∉ ch → s.heap.get? b = some o → h'.get? b = some o) (hf : ∀ b ∈ ch, FpOk X pins H b) (hT : s.heap.objs.size ≤ T)
    (new : ObjOk X.prog X.w (upd H T ob) h' T ob) : Inv X pins σ (upd H T ob) { s with heap := h', toks := t' } := by
  have hn : H T = none := I.hok.fresh hT
  have nit : ∀ b u, H b = some u → b ∉ ch := fun b u e z => by
    have q := (hf b z).1
    rw [q] at e; cases e
  refine I.step (g' := s.gens) (d' := s.drawn) (ch := ch) (fun b hb => ⟨(hf b hb).2.2.2.1, (hf b hb).2.1, (hf b hb).2.2.2.2.1, (hf b hb).2.2.2.2.2⟩) (fun b o _ _ hc e _ => k b o hc e) (fun b o _ _ hc e _ => ⟨o.slots, k b o hc e⟩)
    (fun b o _ e n => ?_) (fun b o hc e => ⟨o, k b o hc e⟩) (fun b xs e => ?_) (fun b o u e => ?_) (fun b ps e => ⟨#[], ?_⟩) (fun m hm => ?_) (fun b u e => ?_) I.bare
  · rw [upd_ne (Nat.ne_of_lt (Nat.lt_of_lt_of_le (Heap.lt_size e) hT))]; exact n
  · rw [upd_ne (ne_of_none e hn)]; exact e
  · rw [upd_ne (ne_of_none e hn)]; exact e
  · rw [upd_ne (ne_of_none e hn), e]; simp
  · obtain ⟨o, es, ep, ho, r⟩ := hm
    exact ⟨o, es, ep, k _ o (fun z => (hf _ z).2.1 rfl) ho, r⟩
  · by_cases hb : b = T
    · subst hb
      rw [upd_same] at e
      cases e
      exact new
    · rw [upd_ne hb] at e
      refine (I.hok b u e).stay (fun c v hc q => k c v ?_ q) (fun c q => by rw [upd_ne (ne_of_none q hn)]; exact q) fun c xs q => by rw [upd_ne (ne_of_none q hn)]; exact q
      rcases hc with z | z
      · rw [z]; exact nit b u e
      · exact nit c _ z
theorem Inv.lock {d : Addr} {u : HO} (I : Inv X pins σ H s) (h : H d = some u) (mu : Mut (some u)) : ∃ od, Inv X pins σ (upd H d (.frz od u)) s := by
  have x := I.hok d u h
  have ex : ∃ od, s.heap.get? d = some od := by
    cases u with
    | lst xs => obtain ⟨_, _, _, _, e⟩ := x; exact ⟨_, e⟩
    | dK kvs => obtain ⟨_, _, _, _, o, _, _, e, _⟩ := x; exact ⟨o, e⟩
    | dT kvs => obtain ⟨_, _, _, _, o, _, _, e, _⟩ := x; exact ⟨o, e⟩
    | set S n => obtain ⟨o, _, _, _, e, _⟩ := x; exact ⟨o, e⟩
    | ins C dx fs => obtain ⟨_, _, _, e, _⟩ := x; exact ⟨_, e⟩
    | ext φ => obtain ⟨_, ⟨_, e⟩, _⟩ := x; exact ⟨_, e⟩
    | _ => exact False.elim mu
  obtain ⟨od, e⟩ := ex
  have new : ObjOk X.prog X.w (upd H d (.frz od u)) s.heap d (.frz od u) := by
    refine ⟨e, x.stay (fun b v _ q => q) (fun b q => ?_) fun b xs q => ?_⟩
    · rw [upd_ne (fun z => by rw [z, h] at q; cases q; exact mu)]; exact q
    · rw [upd_ne (fun z => by rw [z, h] at q; cases q; exact mu)]; exact q
  exact ⟨od, I.write (x := d) (e := d) (t' := s.toks) (h' := s.heap) (by rw [h]; exact mu) (.inl rfl) (fun b v _ q => q) ⟨od, e⟩ new⟩
theorem Inv.nofrz {d : Addr} {u : HO} (I : Inv X pins σ H s) (h : H d = some u) (mu : Mut (some u)) : ∀ o' u', X.H_0 d ≠ some (.frz o' u') := fun o' u' e => by
  have q := I.base.frzs d o' u' e
  rw [h] at q
  cases q
  exact mu
theorem Inv.unlock {d : Addr} {od : Obj} {u : HO} (I : Inv X pins σ H s) (h : H d = some (.frz od u)) (hn : ∀ o' u', X.H_0 d ≠ some (.frz o' u')) : Inv X pins σ (upd H d u) s := by
  have neH : ∀ b o, H b = some o → (∀ o' u', o ≠ .frz o' u') → b ≠ d := fun b o e hne z => by
    rw [z, h] at e
    cases e
    exact hne _ _ rfl
  have neN : ∀ b, H b = none → b ≠ d := fun b e z => by rw [z, h] at e; cases e
  refine ⟨I.ok, I.os, I.bare, ⟨I.base.keep, I.base.slot, fun b o e n hx => ?_, I.base.there, fun b xs e => ?_, fun b o x e => ?_, fun b ps e => ?_⟩, I.loc, I.cell, ?_, fun x c e => ?_, fun p hp => ?_, fun b o e => ?_, I.len⟩
  · rw [upd_ne (neN b (I.base.free b o e n hx))]; exact I.base.free b o e n hx
  · have q := I.base.tups b xs e
    rw [upd_ne (neH b _ q (fun _ _ z => nomatch z))]; exact q
  · have q := I.base.frzs b o x e
    rw [upd_ne (fun z => by rw [z] at e; exact hn _ _ e)]; exact q
  · obtain ⟨m, q⟩ := I.base.tbls b ps e
    exact ⟨m, by rw [upd_ne (neH b _ q (fun _ _ z => nomatch z))]; exact q⟩
  · rw [upd_ne (neN _ I.free)]; exact I.free
  · rw [upd_ne (neN c (I.freeC x c e))]; exact I.freeC x c e
  · obtain ⟨e, n, r⟩ := I.pin p hp
    exact ⟨e, by rw [upd_ne (neN _ n)]; exact n, r⟩
  · by_cases hb : b = d
    · rw [hb, upd_same] at e
      cases e
      rw [hb]
      obtain ⟨_, x⟩ := I.hok d _ h
      exact x.stay (fun c v _ q => q) (fun c q => by rw [upd_ne (neH c _ q (fun _ _ z => nomatch z))]; exact q) fun c xs q => by rw [upd_ne (neH c _ q (fun _ _ z => nomatch z))]; exact q
    · rw [upd_ne hb] at e
      exact (I.hok b o e).stay (fun c v _ q => q) (fun c q => by rw [upd_ne (neH c _ q (fun _ _ z => nomatch z))]; exact q) fun c xs q => by rw [upd_ne (neH c _ q (fun _ _ z => nomatch z))]; exact q
end
def tLock (t : TS) : TS := fun D σ H => ∃ d u, H d = some u ∧ Mut (some u) ∧ ∀ od, t ⟨fun σ' H' => H' d = some (.frz od u) ∧ D.nx σ' (upd H' d u), fun v H' => H' d = some (.frz od u) ∧ D.rt v (upd H' d u), fun σ' H' => H' d = some (.frz od u) ∧ D.bk σ' (upd H' d u), fun σ' H' => H' d = some (.frz od u) ∧ D.ct σ' (upd H' d u)⟩ σ (upd H d (.frz od u))
section
variable {X : Cx}
theorem ps_lock {st : Stmt} {t : TS} (h : PS X st t) : PS X st (tLock t) := by
  intro pins s σ H D I hw
  obtain ⟨d, u, hd, mu, hw⟩ := hw
  obtain ⟨od, I1⟩ := I.lock hd mu
  refine thn (h pins s σ _ _ I1 (hw od)) fun f s1 q => ?_
  cases f with
  | next => obtain ⟨σ', H', I2, e, q⟩ := q; exact ⟨σ', _, I2.unlock e (I.nofrz hd mu), q⟩
  | brk => obtain ⟨σ', H', I2, e, q⟩ := q; exact ⟨σ', _, I2.unlock e (I.nofrz hd mu), q⟩
  | cont => obtain ⟨σ', H', I2, e, q⟩ := q; exact ⟨σ', _, I2.unlock e (I.nofrz hd mu), q⟩
  | ret v => obtain ⟨x, σ', H', I2, r, e, q⟩ := q; exact ⟨x, σ', _, I2.unlock e (I.nofrz hd mu), r, q⟩
theorem pi_one {tg : Expr} {pins : List (Addr × Obj)} {σ : St} {H : Hp} {s : Shared} {R : It → Hp → Prop} {J : It} {tn : Nat → Heap → Prop} {tk : Nat} (I : Inv X pins σ H s) (o : Obj)
    (T : Turn X.prog X.w X.K tg J [s.heap.objs.size] s.heap.objs.size tn) (st : tn 0 (s.heap.push o)) (q : R J H) : PIE X pins σ tg R (.ref s.heap.objs.size) { s with heap := s.heap.push o, toks := tk } := by
  refine ⟨s.heap.objs.size, [s.heap.objs.size], tn, J, H, rfl, I.kept fun b ob e => Heap.get?_push_of_some _ e, T, st, fun b hb => ?_, q⟩
  have e : b = s.heap.objs.size := by simpa using hb
  subst e
  exact I.fpOk (Nat.le_refl _) (I.hok.fresh (Nat.le_refl _))
end
def RgC (i j c : Int) (n : Nat) : Prop := c ≠ 0 ∧ c.natAbs < 1073741824 ∧ Builtin.Range.small i j c = true ∧ Builtin.Range.rangeSize i j c = n
theorem RgC.neg {i j : Int} (ha : -(2 ^ 62) ≤ i) (ha' : i < 2 ^ 62) (hb : -(2 ^ 62) ≤ j) (hb' : j < 2 ^ 62) : RgC i j (-1) (i - j).toNat :=
  ⟨by decide, by decide, PySem.W.small_down ha ha' hb hb', PySem.W.rangeSize_downNat i j⟩
section
variable {X : Cx} {tg : Expr}
end
section
variable {X : Cx} {tg : Expr}
end
section
variable {prog : Program} {w : World} {A : Around} {E : Value → Shared → Prop} {s : Shared}
theorem iter_keys {d : Addr} {o : Obj} {es : Array DictEntry} {ep : Nat} {Q : Value → Shared → Prop} (hd : (d == sysModules) = false) (ho : s.heap.get? d = some o) (hc : o.ExactDict) (hdat : o.data = .dict es ep)
    (hQ : Q (.ref s.heap.objs.size) { s with heap := s.heap.push { cls := .type "dict_keyiterator", data := .fields #[.ref d, .int 0 0, .int es.size 0, .int ep 0] } }) :
    wpAny (model prog w) A (pyIter (.ref d)) Q E s := by
  have hT : s.TypeIs (.ref d) "dict" := ⟨o, ho, hc.1⟩
  refine wpAny_pyIter_slot hT F.slot_dict_iter (wpAny_call_entry F.slot_dict_iter hT F.entry_dict_iter ?_ (F.args_dict_iter_1 _))
  unfold Builtin.«dict.__iter__»
  refine wpAny_bind ?_
  unfold Builtin.Dict.dictSlotNone
  refine wpAny_bind (wpAny_notOrdered_dict hT ?_)
  show wpAny _ _ (pure (Value.ref d)) _ _ s
  refine wpAny_pure ?_
  show wpAny _ _ (Builtin.Dict.showsAll d >>= _) _ _ s
  unfold Builtin.Dict.showsAll
  rw [if_neg (by rw [hd]; exact Bool.false_ne_true)]
  refine wpAny_bind (wpAny_pure ?_)
  refine wpAny_bind (wpAny_dictEntries ho hdat ?_)
  refine wpAny_bind (wpAny_dictEpoch ho hdat ?_)
  refine wpAny_bind (wpAny_newObj_type (wpAny_pure ⟨_, rfl, "dict_keyiterator", _, ⟨_, Heap.get?_push_size _ rfl, rfl⟩, F.slot_dict_keyiterator_next.lookup, ?_⟩))
  simpa [rawInt] using hQ
theorem next_key_item {it d : Addr} {i n ep : Nat} {od : Obj} {es : Array DictEntry} {en : DictEntry} {Q : Option Value → Shared → Prop} (hit : s.heap.IsKeyIter it d i n ep) (hod : s.heap.get? d = some od) (hdd : od.data = .dict es ep)
    (hsz : es.size = n) (hx : es[i]? = some en) (hQ : ∀ h', h'.IsKeyIter it d (i + 1) n ep → Heap.SameBut it s.heap h' → Q (some en.key) { s with heap := h' }) : wpAny (model prog w) A (pyNext (.ref it)) Q E s := by
  obtain ⟨o, ho, hc, hd⟩ := id hit
  unfold pyNext
  refine wpAny_bind (wpAny_attempt (wpAny_callSpecial?_slot (name := Str.ofString "__next__") hit.typeIs F.slot_dict_keyiterator_next
    (wpAny_call_entry F.slot_dict_keyiterator_next hit.typeIs F.entry_dict_keyiterator_next ?_ (F.args_dict_keyiterator_next_1 _))))
  refine wpAny_bind (wpAny_pure ?_)
  refine wpAny_bind ?_
  refine wpAny_bind ?_
  first | refine wpAny_bind (wpAny_typeNameOfWhole_keyiter hit.typeIs (wpAny_pure ?_)) | refine wpAny_bind (wpAny_typeNameOf_keyiter hit.typeIs (wpAny_pure ?_))
  refine wpAny_bind (wpAny_fieldsOf ho hd ?_)
  have hown : Builtin.Dict_items.ownsTuple "dict_keyiterator" = false := by decide
  simp only [hown, Bool.false_eq_true, if_false]
  show wpAny _ _ (if (Value.ref d == Value.none) = true then _ else _) _ _ s
  rw [if_neg (show ¬ ((Value.ref d == Value.none) = true) from Bool.false_ne_true)]
  refine wpAny_bind (wpAny_pure ?_)
  refine wpAny_bind (wpAny_dictEntries hod hdd ?_)
  rw [if_neg (by rw [hsz]; simp)]
  refine wpAny_bind (wpAny_pure ?_)
  refine wpAny_bind (wpAny_dictEpoch hod hdd ?_)
  rw [if_neg (by simp)]
  refine wpAny_pure ?_
  obtain ⟨hlt', hen⟩ := Array.getElem?_eq_some_iff.mp hx
  simp only [show ¬ ((i : Int) < 0) from by omega, if_false, Int.toNat_natCast, Array.getElem?_eq_getElem hlt']
  refine wpAny_bind ?_
  first | refine wpAny_bind (wpAny_typeNameOfWhole_keyiter hit.typeIs (wpAny_pure ?_)) | refine wpAny_bind (wpAny_typeNameOf_keyiter hit.typeIs (wpAny_pure ?_))
  refine wpAny_bind (wpAny_isOneOf_keyiter hit.typeIs ?_)
  show wpAny _ _ (setField (.ref it) 1 (rawInt ((i : Int) + 1)) >>= _) _ _ s
  refine wpAny_bind (wpAny_setField ho hd (by simp) ?_)
  have hit' : (s.heap.update it (Obj.mapFields (·.setIfInBounds 1 (rawInt ((i : Int) + 1))))).IsKeyIter it d (i + 1) n ep :=
    ⟨_, Heap.get?_update_self _ ho (Obj.isFreed_of_fields (Obj.data_mapFields hd _)), (Obj.cls_mapFields ..).trans hc, by rw [Obj.data_mapFields hd]; simp [rawInt]⟩
  refine wpAny_bind (wpAny_holding ?_)
  refine wpAny_bind (wpAny_isOneOf_keyiter (s := { s with heap := s.heap.update it (Obj.mapFields (·.setIfInBounds 1 (rawInt ((i : Int) + 1)))) }) hit'.typeIs ?_)
  show wpAny _ _ (pure es[i].key) _ _ _
  rw [hen]
  exact wpAny_pure (wpAny_pure ⟨_, rfl, wpAny_pure (hQ _ hit' (Heap.SameBut.update ..))⟩)
theorem next_key_end {it d : Addr} {i n ep : Nat} {od : Obj} {es : Array DictEntry} {Q : Option Value → Shared → Prop} (hh : A.handled = none) (hit : s.heap.IsKeyIter it d i n ep) (hod : s.heap.get? d = some od) (hdd : od.data = .dict es ep)
    (hsz : es.size = n) (hge : n ≤ i) (hQ : ∀ h', Heap.ExtBut it s.heap h' → Q none { s with heap := h' }) : wpAny (model prog w) A (pyNext (.ref it)) Q E s := by
  obtain ⟨o, ho, hc, hd⟩ := id hit
  unfold pyNext
  refine wpAny_bind (wpAny_attempt (wpAny_callSpecial?_slot (name := Str.ofString "__next__") hit.typeIs F.slot_dict_keyiterator_next
    (wpAny_call_entry F.slot_dict_keyiterator_next hit.typeIs F.entry_dict_keyiterator_next ?_ (F.args_dict_keyiterator_next_1 _))))
  refine wpAny_bind (wpAny_pure ?_)
  refine wpAny_bind ?_
  refine wpAny_bind ?_
  first | refine wpAny_bind (wpAny_typeNameOfWhole_keyiter hit.typeIs (wpAny_pure ?_)) | refine wpAny_bind (wpAny_typeNameOf_keyiter hit.typeIs (wpAny_pure ?_))
  refine wpAny_bind (wpAny_fieldsOf ho hd ?_)
  have hown : Builtin.Dict_items.ownsTuple "dict_keyiterator" = false := by decide
  simp only [hown, Bool.false_eq_true, if_false]
  show wpAny _ _ (if (Value.ref d == Value.none) = true then _ else _) _ _ s
  rw [if_neg (show ¬ ((Value.ref d == Value.none) = true) from Bool.false_ne_true)]
  refine wpAny_bind (wpAny_pure ?_)
  refine wpAny_bind (wpAny_dictEntries hod hdd ?_)
  rw [if_neg (by rw [hsz]; simp)]
  refine wpAny_bind (wpAny_pure ?_)
  refine wpAny_bind (wpAny_dictEpoch hod hdd ?_)
  rw [if_neg (by simp)]
  refine wpAny_pure ?_
  have hge' : es.size ≤ i := by rw [hsz]; exact hge
  simp only [show ¬ ((i : Int) < 0) from by omega, if_false, Int.toNat_natCast, Array.getElem?_eq_none hge']
  refine wpAny_bind ?_
  first | refine wpAny_bind (wpAny_typeNameOfWhole_keyiter hit.typeIs (wpAny_pure ?_)) | refine wpAny_bind (wpAny_typeNameOf_keyiter hit.typeIs (wpAny_pure ?_))
  show wpAny _ _ (setField (.ref it) 0 .none >>= _) _ _ s
  refine wpAny_bind (wpAny_setField ho hd (by simp) ?_)
  show wpAny _ _ (newExc (.type "StopIteration") [] >>= _) _ _ _
  refine wpAny_bind ?_
  simp only [newExc, newTuple]
  refine wpAny_bind (wpAny_newObj_type ?_ (by size_fits))
  refine wpAny_bind (m := firstArgMember _ _) (wpAny_of_eq (a := Value.none) (by first | rfl | (simp only [firstArgMember]; rfl)) ?_)
  refine wpAny_newObj_type ?_ (by size_fits)
  simp only [raiseNew]
  refine wpAny_bind (wpAny_handled ?_)
  rw [show A.in1.handled = none from hh]
  refine wpAny_bind (wpAny_pure (wpAny_throw ?_))
  refine wpAny_bind (wpAny_isInstance (T := "StopIteration") (b := true) ⟨_, Heap.get?_push_size _ rfl, rfl⟩ isSubtype_stop ?_)
  exact wpAny_pure (hQ _ (((Heap.SameBut.update ..).extBut.push _).push _))
end
theorem kv_get {κ : Type} {kvs : List (κ × V)} {vs : List (κ × Value)} (h : KV kvs vs) : ∀ {i : Nat} {k : κ} {v : V}, kvs[i]? = some (k, v) → ∃ u, vs[i]? = some (k, u) ∧ RelV v u := by
  unfold KV at h
  induction h with
  | nil => intro i k v e; simp at e
  | @cons a b l₁ l₂ r t ih =>
    intro i k v e
    cases i with
    | zero =>
      simp only [List.getElem?_cons_zero, Option.some.injEq] at e
      subst e
      refine ⟨b.2, ?_, r.2⟩
      simp only [List.getElem?_cons_zero]
      exact congrArg some (Prod.ext r.1.symm rfl)
    | succ j =>
      simp only [List.getElem?_cons_succ] at e ⊢
      exact ih e
theorem paired_get {α β : Type} {G : α → β → Prop} {l₁ : List α} {l₂ : List β} (h : Paired G l₁ l₂) : ∀ {i : Nat} {a : α}, l₁[i]? = some a → ∃ b, l₂[i]? = some b ∧ G a b := by
  induction h with
  | nil => intro i a e; simp at e
  | @cons a b l₁ l₂ r t ih =>
    intro i a' e
    cases i with
    | zero =>
      simp only [List.getElem?_cons_zero, Option.some.injEq] at e
      subst e
      exact ⟨b, rfl, r⟩
    | succ j =>
      simp only [List.getElem?_cons_succ] at e ⊢
      exact ih e
theorem relV_key {k : Key} {u : Value} (h : keyIs k u = true) : RelV (kV k) u := by
  rcases keyIs_shape h with ⟨i, t, rfl, rfl⟩ | ⟨x, t, rfl, rfl⟩ | ⟨rfl, rfl⟩
  · exact ⟨t, rfl⟩
  · exact ⟨t, rfl⟩
  · rfl
section
variable {X : Cx} {pins : List (Addr × Obj)} {σ : St} {H : Hp} {s : Shared} {d : Addr} {o : Obj}
theorem Inv.frzK {kvs : List (Key × V)} (I : Inv X pins σ H s) (h : H d = some (.frz o (.dK kvs))) :
    (d == sysModules) = false ∧ s.heap.get? d = some o ∧ o.ExactDict ∧ ∃ (es : Array DictEntry) (ep : Nat) (vs : List (Key × Value)), o.data = .dict es ep ∧ es.size = kvs.length ∧ KV kvs vs ∧ s.heap.DictAt (mixKind X.prog X.w) d vs ep := by
  obtain ⟨hd, z, hs, vs, kv, o', es, ep, ho, hx, hdt, r⟩ := I.hok d _ h
  rw [hd] at ho
  cases ho
  refine ⟨hs, hd, hx, es, ep, vs, hdt, ?_, kv, o, es, hd, hx, hdt, r⟩
  have l1 := r.2.1.length
  have l2 : kvs.length = vs.length := Paired.length kv
  rw [Array.length_toList] at l1
  omega
theorem Inv.frzT {kvs : List (List Key × V)} (I : Inv X pins σ H s) (h : H d = some (.frz o (.dT kvs))) :
    (d == sysModules) = false ∧ s.heap.get? d = some o ∧ o.ExactDict ∧ ∃ (es : Array DictEntry) (ep : Nat), o.data = .dict es ep ∧ es.size = kvs.length ∧
      ∀ (i : Nat) (k : List Key) (v : V), kvs[i]? = some (k, v) → ∃ (en : DictEntry) (q : Addr), es[i]? = some en ∧ en.key = .ref q ∧ H q = some (.tup (k.map kV)) := by
  obtain ⟨hd, z, hs, xs, pr, o', es, ep, ho, hx, hdt, he, _⟩ := I.hok d _ h
  rw [hd] at ho
  cases ho
  refine ⟨hs, hd, hx, es, ep, hdt, ?_, fun i k v e => ?_⟩
  · have l1 : es.size = xs.length := size_of_entries he
    have l2 : kvs.length = xs.length := Paired.length pr
    omega
  · obtain ⟨b, hb, e1, e2, _⟩ := paired_get pr e
    have q := entry_at he i
    rw [hb] at q
    exact ⟨_, b.2.1, q, rfl, e2⟩
end
def Itk (d : Addr) (o : Obj) (kvs : List (Key × V)) : It :=
  ⟨fun i H => H d = some (.frz o (.dK kvs)) ∧ i < kvs.length, fun i H x H' => H' = H ∧ ∃ k v, kvs[i]? = some (k, v) ∧ x = kV k, fun i H => H d = some (.frz o (.dK kvs)) ∧ kvs.length ≤ i⟩
def Itkt (d : Addr) (o : Obj) (kvs : List (List Key × V)) : It :=
  ⟨fun i H => H d = some (.frz o (.dT kvs)) ∧ i < kvs.length, fun i H x H' => H' = H ∧ ∃ (k : List Key) (v : V) (q : Addr), kvs[i]? = some (k, v) ∧ x = .ref q ∧ H q = some (.tup (k.map kV)), fun i H => H d = some (.frz o (.dT kvs)) ∧ kvs.length ≤ i⟩
theorem dict_ep {o : Obj} {es es' : Array DictEntry} {ep ep' : Nat} (h : o.data = .dict es ep) (h' : o.data = .dict es' ep') : es' = es ∧ ep' = ep := by
  rw [h] at h'
  cases h'
  exact ⟨rfl, rfl⟩
section
variable {P : Program} {w : World} {K : PySem.W.Frag} {tg : Expr} {d : Addr} {o : Obj} {es : Array DictEntry} {ep : Nat}
theorem turn_keys {kvs : List (Key × V)} (it : Addr) (hod : o.data = .dict es ep) : Turn P w K tg (Itk d o kvs) [it] it (fun i h => h.IsKeyIter it d i kvs.length ep) where
  mem := by simp
  obj := fun i h st b hb => by
    have e : b = it := by simpa using hb
    subst e
    obtain ⟨oi, e, c, dd⟩ := st
    exact ⟨oi, e, fun v z => by rw [dd] at z; cases z⟩
  keep := fun i h h' st k => st.at fun oi e => k it (by simp) oi e
  item := by
    intro X hP hw hK hc i pins s σ H E I hf st hg
    subst hP hw hK
    obtain ⟨hd, hi⟩ := hg
    obtain ⟨f0, f1, f2, f3, f4, f5⟩ := hf it (by simp)
    obtain ⟨hs, hgd, hx, es', ep', vs, hdt, hsz, kv, hm⟩ := I.frzK hd
    obtain ⟨rfl, rfl⟩ := dict_ep hod hdt
    obtain ⟨⟨k, v⟩, hkv⟩ : ∃ p, kvs[i]? = some p := ⟨kvs[i], List.getElem?_eq_getElem hi⟩
    obtain ⟨u, hu, ru⟩ := kv_get kv hkv
    have hl : kvs.length = vs.length := Paired.length kv
    rw [hl] at st
    refine wpAny_pyNext_dict_item st hm hu fun key h' hkey st' sb => ?_
    have I1 : Inv X pins σ H { s with heap := h' } := I.turned (t' := s.toks) (fun b ob hb e => (sb.2 b hb).trans e) f0 f1 f3 f4 f5
    obtain ⟨oi, e, c, dd⟩ := id st'
    refine ⟨key, rfl, go_of (s := { s with heap := h' }) e c dd (by decide) ⟨kV k, H, I1, relV_key (show keyIs k key = true from hkey), ⟨rfl, k, v, hkv, rfl⟩, ?_, fun b hb => (hf b hb).1⟩⟩
    show h'.IsKeyIter it d (i + 1) kvs.length _
    rw [hl]
    exact st'
  done := by
    intro X hP hw hK hc i pins s σ H E I hf st hg
    subst hP hw hK
    obtain ⟨hd, hi⟩ := hg
    obtain ⟨f0, f1, f2, f3, f4, f5⟩ := hf it (by simp)
    obtain ⟨hs, hgd, hx, es', ep', vs, hdt, hsz, kv, hm⟩ := I.frzK hd
    obtain ⟨rfl, rfl⟩ := dict_ep hod hdt
    exact next_key_end (I.ok.hd hc) st hgd hdt hsz hi fun h' eb => ⟨rfl, I.turned (t' := s.toks) (fun b ob hb e => eb b ob hb e) f0 f1 f3 f4 f5⟩
  self := fun A i s Q E st h => wpAny_pyIter_keyiter st h
theorem turn_keysT {kvs : List (List Key × V)} (it : Addr) (hod : o.data = .dict es ep) : Turn P w K tg (Itkt d o kvs) [it] it (fun i h => h.IsKeyIter it d i kvs.length ep) where
  mem := by simp
  obj := fun i h st b hb => by
    have e : b = it := by simpa using hb
    subst e
    obtain ⟨oi, e, c, dd⟩ := st
    exact ⟨oi, e, fun v z => by rw [dd] at z; cases z⟩
  keep := fun i h h' st k => st.at fun oi e => k it (by simp) oi e
  item := by
    intro X hP hw hK hc i pins s σ H E I hf st hg
    subst hP hw hK
    obtain ⟨hd, hi⟩ := hg
    obtain ⟨f0, f1, f2, f3, f4, f5⟩ := hf it (by simp)
    obtain ⟨hs, hgd, hx, es', ep', hdt, hsz, ent⟩ := I.frzT hd
    obtain ⟨rfl, rfl⟩ := dict_ep hod hdt
    obtain ⟨⟨k, v⟩, hkv⟩ : ∃ p, kvs[i]? = some p := ⟨kvs[i], List.getElem?_eq_getElem hi⟩
    obtain ⟨en, q, hen, hkey, hq⟩ := ent i k v hkv
    refine next_key_item st hgd hdt hsz hen fun h' st' sb => ?_
    have I1 : Inv X pins σ H { s with heap := h' } := I.turned (t' := s.toks) (fun b ob hb e => (sb.2 b hb).trans e) f0 f1 f3 f4 f5
    obtain ⟨oi, e, c, dd⟩ := id st'
    exact ⟨en.key, rfl, go_of (s := { s with heap := h' }) e c dd (by decide) ⟨.ref q, H, I1, hkey, ⟨rfl, k, v, q, hkv, rfl, hq⟩, st', fun b hb => (hf b hb).1⟩⟩
  done := by
    intro X hP hw hK hc i pins s σ H E I hf st hg
    subst hP hw hK
    obtain ⟨hd, hi⟩ := hg
    obtain ⟨f0, f1, f2, f3, f4, f5⟩ := hf it (by simp)
    obtain ⟨hs, hgd, hx, es', ep', hdt, hsz, ent⟩ := I.frzT hd
    obtain ⟨rfl, rfl⟩ := dict_ep hod hdt
    exact next_key_end (I.ok.hd hc) st hgd hdt hsz hi fun h' eb => ⟨rfl, I.turned (t' := s.toks) (fun b ob hb e => eb b ob hb e) f0 f1 f3 f4 f5⟩
  self := fun A i s Q E st h => by
    refine wpAny_pyIter_slot st.typeIs F.slot_dict_keyiterator_iter (wpAny_call_entry F.slot_dict_keyiterator_iter st.typeIs F.entry_dict_keyiterator_iter ?_ (F.args_dict_keyiterator_iter_1 _))
    show wpAny _ _ (ret (.ref it)) _ _ s
    exact wpAny_pure ⟨_, rfl, "dict_keyiterator", _, st.typeIs, F.slot_dict_keyiterator_next.lookup, h⟩
end
def iKeys (td : TE) : TI := fun σ H R => td σ H fun x H1 => ∃ d o, x = .ref d ∧ ((∃ kvs, H1 d = some (.frz o (.dK kvs)) ∧ R (Itk d o kvs) H1) ∨ ∃ kvs, H1 d = some (.frz o (.dT kvs)) ∧ R (Itkt d o kvs) H1)
section
variable {X : Cx} {tg e : Expr} {td : TE} {apos cpos : Pos}
theorem pi_keys (he : PE X e td) : PI X tg e (iKeys td) := by
  intro pins s σ H R I h
  refine thn (he pins s σ H _ I h) fun u s1 ⟨x, H1, I1, rx, d, o, ex, q⟩ => ?_
  subst ex
  obtain rfl : u = Value.ref d := rx
  rcases q with ⟨kvs, hd, q⟩ | ⟨kvs, hd, q⟩
  · obtain ⟨hs, hgd, hx, es, ep, vs, hdt, hsz, kv, hm⟩ := I1.frzK hd
    refine iter_keys hs hgd hx hdt (pi_one (tk := s1.toks) I1 _ (turn_keys _ hdt) ⟨_, Heap.get?_push_size _ rfl, rfl, ?_⟩ q)
    rw [hsz] <;> rfl
  · obtain ⟨hs, hgd, hx, es, ep, hdt, hsz, ent⟩ := I1.frzT hd
    refine iter_keys hs hgd hx hdt (pi_one (tk := s1.toks) I1 _ (turn_keysT _ hdt) ⟨_, Heap.get?_push_size _ rfl, rfl, ?_⟩ q)
    rw [hsz] <;> rfl
end
end L2
section
namespace Bits
open PySem PyProof.Rows
end Bits
end
section
namespace TL
open PySem PySem.Builtin PySem.Builtin.Str PySem.StrLaws
abbrev tl (x : Str) : List Nat := x.cps.toList
def pre (S l : List Nat) : Bool := l.take S.length == S
def par (S : List Nat) : List Nat → List Nat → Option (List Nat × List Nat)
  | _, [] => none
  | acc, c :: r => if pre S (c :: r) = true then some (acc, (c :: r).drop S.length) else par S (acc ++ [c]) r
end TL
end
namespace L2
open PySem PySem.Spec PyProof.Rows
theorem strs_of_vals : ∀ {ys : List Str} {us : List Value}, Vals (ys.map V.str) us → StrsAre us ys
  | [], _, .nil => .nil
  | y :: ys, _, .cons r t => by
    obtain ⟨k, rfl⟩ := r
    exact .cons y k (strs_of_vals t)
section
variable {X : Cx} {pins : List (Addr × Obj)} {σ : St} {H : Hp} {s : Shared} {Q : VK}
end
section
variable {X : Cx}
theorem mt_join : MtR X "str.join" (fun x xs H Q => ∃ a p, ∃ ys : List Str, x = .str a ∧ xs = [.ref p] ∧ (SqL X.K H p (ys.map V.str) ∨ SqT X.K H p (ys.map V.str)) ∧
    (ys.map (·.length)).sum + ys.length * a.length ≤ 16777216 ∧ Q (.str (Txt.join a ys)) H) := by
  intro pins s σ H x xs v us Q I rx rs h
  obtain ⟨a, p, ys, rfl, rfl, hp, hz, h⟩ := h
  obtain ⟨t, rfl⟩ := rx
  cases rs with
  | cons r1 rs =>
    cases rs
    cases r1
    rcases hp with hp | hp
    · obtain ⟨its, r, ⟨o, n, ho, hc, _, hd⟩, _⟩ := I.list hp
      exact PyProof.Rows.join_list (items := its.toArray) ⟨o, ho, hc, n, hd⟩ (by rw [List.toList_toArray]; exact strs_of_vals r) hz fun t' k => ⟨.str _, H, I.tok k, ⟨t', rfl⟩, h⟩
    · obtain ⟨its, r, ht, _⟩ := I.tuple hp
      exact PyProof.Rows.join_tuple (items := its.toArray) ht (by rw [List.toList_toArray]; exact strs_of_vals r) hz fun t' k => ⟨.str _, H, I.tok k, ⟨t', rfl⟩, h⟩
end
section
variable {X : Cx} {o e : Expr} {to te : TE}
def tM1 (r : V → List V → Hp → VK → Prop) (to te : TE) : TE := fun σ H Q => to σ H fun x H1 => (∃ a, x = .str a) ∧ te σ H1 fun y H2 => r x [y] H2 Q
theorem pe_m1 {id : String} {name : Str} {apos pos : Pos} {r : V → List V → Hp → VK → Prop} (slot : Slot "str" name id) (ty : typeOf (.builtin id) = pure (.type "method_descriptor")) (rule : MtR X id r) (ho : PE X o to) (he : PE X e te)
    (hs : starEach [e] X.env = [(false, eval e X.env)] := by rfl) (hbase : attributeBase o name X.env (eval o X.env) = eval o X.env := by rfl) (hline : (apos.endLine == pos.line) = true := by rfl) :
    PE X (.Call (.Attribute o name apos) [e] [] pos) (tM1 r to te) := by
  intro pins s σ H Q I h
  refine PySem.Call_method1 hbase hs hline (thn (ho pins s σ H _ I h) fun v s1 ⟨x, H1, I1, r1, q1⟩ => ?_)
  obtain ⟨⟨a, rfl⟩, q1⟩ := q1
  obtain ⟨t, rfl⟩ := _root_.id r1
  refine ⟨"str", _, F.plainAttrs_str, slot, ty, typeIs_str _ _ _, (fun _ e => nomatch e), Calls.callWith_builtin rfl (Calls.evalArgs_plain (Calls.spliced_cons ?_))⟩
  exact thn (he pins s1 σ H1 _ I1 q1) fun u s2 ⟨y, H2, I2, r2, q2⟩ => Calls.spliced_nil (rule pins s2 σ H2 _ [y] _ [u] Q I2 r1 (.cons r2 .nil) q2)
theorem pe_join {apos pos : Pos} (ho : PE X o to) (he : PE X e te) (hs : starEach [e] X.env = [(false, eval e X.env)] := by rfl) (hbase : attributeBase o "join" X.env (eval o X.env) = eval o X.env := by rfl) (hline : (apos.endLine == pos.line) = true := by rfl) :
    PE X (.Call (.Attribute o "join" apos) [e] [] pos) (tM1 (fun x xs H Q => ∃ a p, ∃ ys : List Str, x = .str a ∧ xs = [.ref p] ∧ (SqL X.K H p (ys.map V.str) ∨ SqT X.K H p (ys.map V.str)) ∧
      (ys.map (·.length)).sum + ys.length * a.length ≤ 16777216 ∧ Q (.str (Txt.join a ys)) H) to te) :=
  pe_m1 F.slot_str_join F.type_str_join mt_join ho he hs hbase hline
end
end L2
namespace L2
open PySem PySem.Spec PyProof.Rows
section
variable {X : Cx}
end
end L2
namespace Att
open PySem PySem.W PySem.Calls PyProof.Rows
theorem ints_of_wellAll {P : Params} {h : Heap} : ∀ (ns : List Int) (vs : List Value), WellAll P h vs (ns.map WData.int) → IntsAre vs ns := by
  intro ns
  induction ns with
  | nil =>
    intro vs w
    rw [List.map_nil] at w
    cases w
    exact .nil
  | cons n ns ih =>
    intro vs w
    rw [List.map_cons] at w
    cases w with
    | cons a b =>
      cases a
      exact .cons _ _ (ih _ b)
theorem script_of {l : OpenLaw} {n : Nat} (hn : l.most = some n) {P : Params} {h : Heap} {args : List WData} {vals : List Value}
    (hpre : l.row.toRowW.claim.pre args = true) (hwl : WellAll P h vals args) :
    ∃ a vs ns, vals = [Value.ref a] ∧ args = [WData.list (ns.map WData.int)] ∧ h.get? a = some { cls := .type "list", data := .seq vs.toArray } ∧ IntsAre vs ns ∧ ns.length ≤ n := by
  have hsh : WShape.hasAll [] args [.list .int] = true := (pre_splitW hpre).1
  have hc : l.pre.holds [] { args := args } = true := (pre_splitW hpre).2
  obtain ⟨d, r, rfl, h1, h2⟩ := hasAllW_cons hsh
  obtain rfl := hasAllW_nil h2
  obtain ⟨xs, rfl, h3⟩ := hasW_list h1
  obtain ⟨ns, rfl⟩ := items_int h3
  have hlen : ns.length ≤ n := by
    unfold OpenLaw.pre at hc
    have h4 : (WTm.not (.lt (.lit (.int (n : Int))) (.len (.arg 0)))).holds [] { args := [.list (ns.map .int)] } = true := by
      have h4 := (holds_andW hc).1
      rw [hn] at h4
      exact h4
    have h5 := condW_of h4 (w_not (w_lt w_lit (w_len_list (w_arg rfl))))
    rw [List.length_map] at h5
    refine Nat.le_of_not_lt fun q => ?_
    have q' : (n : Int) < ((ns.length : Nat) : Int) := by omega
    first
      | (rw [decide_eq_true q'] at h5; exact absurd h5 (by decide))
      | (simp at h5; omega)
  cases hwl with
  | cons w1 w2 =>
    cases w2
    cases w1 with
    | list ho hall => exact ⟨_, _, ns, rfl, rfl, ho, ints_of_wellAll ns _ hall, hlen⟩
theorem post_true (l : OpenLaw) (args : List WData) : l.row.toRowW.claim.post args (.bool true) args = true :=
  postW_of (r := l.row.toRowW) (X := (true == true))
    (show WShape.has [] (.bool true) .bool = true by first | rfl | decide | simp [WShape.has, WShape.arms, WShape.armsAll])
    (show (WTm.eq .res (.lit (.bool true))).value [] { args := args, res := some (.bool true), after := args } = some (.bool (true == true)) from w_eq_bool (w_res rfl) w_lit) rfl
theorem attach_call {l : OpenLaw} {n : Nat} {q : Program} {loose : List Str} {XP : (Str → Option Value) → Heap → Prop} {YP : World → Heap → Prop} {d : DefRec}
    (hn : l.most = some n) (hdf : d.params.defaults = [])
    (call : ∀ (w : World) (s₀ s₁ : Shared) (mg mb : Str → Option Value) (fa : Addr) (o : Obj) (pm cd doc : Value) (a : Addr) (vs : List Value) (ns : List Int),
      Ground q loose [] XP w s₀ mg mb s₁.heap → YP w s₁.heap →
      s₁.heap.get? fa = some o → o.data = .func (docDef d.name d.params d.body d.scope pm cd doc) → s₁.heap.CodeRec cd d.name → mg d.name = some (.ref fa) →
      s₁.heap.get? a = some { cls := .type "list", data := .seq vs.toArray } → IntsAre vs ns → ns.length ≤ n → s₁.gens = #[] →
      codeAny (model l.prog w) callerA (.call (.ref fa) ⟨[.ref a], []⟩) (fun r s' => r = .ok (.ret (.bool true)) ∧ OldK s₁.heap s'.heap ∧ s'.os = s₁.os ∧ AllBare s'.gens) s₁) :
    WalkO q loose XP YP l.row.toRowW d [] (fun f vs => PySem.call f vs) := by
  intro w s₀ s₁ mg mb G Y fa o pm cd doc dV kV ho hd hcd hD hmg hg args vals as hpre hlay hrd hwl hlo
  obtain rfl : dV = .none := Dflts.none hD hdf
  obtain rfl : kV = .none := Dflts.noKw hD
  obtain ⟨a, vs, ns, rfl, rfl, hobj, hints, hlen⟩ := script_of hn hpre hwl
  refine enter_call (codeAny_mono (call w s₀ s₁ mg mb fa o pm cd doc a vs ns G Y ho (fd_plain hd) hcd hmg hobj hints hlen hg) fun r s' hq => ?_)
  obtain ⟨rfl, h2, h3, h4⟩ := hq
  exact ⟨.inl ⟨.bool true, .bool true, [], rfl, fun _ => rfl, .bool true, post_true l _, fun _ => ⟨List.Pairwise.nil, fun _ hm => (nomatch hm)⟩⟩, h2, h3, h4⟩
section
variable {prog : Program} {w : World} {A : Around} {E : Value → Shared → Prop} {s : Shared} {K : Frag}
end
end Att
namespace L2
open PySem PySem.Spec PyProof.Rows
theorem vals_ints : ∀ {vs : List Value} {ns : List Int}, IntsAre vs ns → Vals (ns.map V.int) vs
  | _, _, .nil => .nil
  | _, _, .cons n t h => .cons ⟨t, rfl⟩ (vals_ints h)
def Only (H : Hp) : Prop := ∀ b, H b = none ∨ ∃ o xs, H b = some (.frz o (.lst xs))
theorem law_call {P : Program} {w : World} {K : PySem.W.Frag} {mg mb : Str → Option Value} {CX : CXT} {k : Nat} {fa a : Addr} {fd : FuncData} {x : Str} {sp : Sp} {s₁ : Shared} {vs : List Value} {ns : List Int}
    (KX : K.In s₁.heap) (hns : s₁.heap.Ns mainGlobals mg) (hb : s₁.heap.Ns builtinsNs mb) (hbb : ∀ x : Str, x ≠ "__name__" → mb x = bootBuiltins x) (hlim : s₁.heap.NoLimit) (hg : s₁.gens = #[])
    (ha : s₁.heap.get? a = some { cls := .type "list", data := .seq vs.toArray }) (hi : IntsAre vs ns) (hl : ns.length ≤ sizeLine) (hr : Room k callerA)
    (F : ∀ base : Heap, K.In base → base.Ns mainGlobals mg → FnOk P w K mg base CX k fa fd [x] sp) (hbind : ∀ (s : Shared) (u : Value), BindsTo s fd ⟨[u], []⟩ [(x, u)])
    (hsp : ∀ H : Hp, Only H → SqL K H a (ns.map V.int) → sp [.ref a] H (fun v _ => v = .bl true) fun _ _ _ => False)
    (hCX : ∀ H e s', CX [] H s₁ (fun _ _ _ => False) e s' → False) :
    codeAny (model P w) callerA (.call (.ref fa) ⟨[.ref a], []⟩) (fun r s' => r = .ok (.ret (.bool true)) ∧ OldK s₁.heap s'.heap ∧ s'.os = s₁.os ∧ AllBare s'.gens) s₁ := by
  have rv := vals_ints hi
  have lenV := hi.length
  have core : ∀ H : Hp, Only H → SqL K H a (ns.map V.int) → HOk P w H s₁.heap → (∀ b, H b ≠ none → b = a) → (H a ≠ none → K.lookup a = none) →
      codeAny (model P w) callerA (.call (.ref fa) ⟨[.ref a], []⟩) (fun r s' => r = .ok (.ret (.bool true)) ∧ OldK s₁.heap s'.heap ∧ s'.os = s₁.os ∧ AllBare s'.gens) s₁ := by
    intro H hO hS hok hA hK
    have base_of : ∀ {b : Addr} {o : Obj}, s₁.heap.get? b = some o → H b = none → (hidT s₁.heap H).get? b = some o := fun e n => hidT_get e n
    have noA : ∀ {b : Addr} {o : Obj} {es : Array DictEntry} {ep : Nat}, s₁.heap.get? b = some o → o.data = .dict es ep → H b = none := fun {b o es ep} e d => by
      cases q : H b with
      | none => rfl
      | some u =>
        have e' : b = a := hA b (by rw [q]; simp)
        subst e'
        rw [ha] at e; cases e
        have d' : Data.seq vs.toArray _ = Data.dict es ep := d
        cases d'
    have nsK : ∀ {b : Addr} {m : Str → Option Value}, s₁.heap.Ns b m → (hidT s₁.heap H).Ns b m := fun {b m} ⟨o, es, ep, e, d, r⟩ => ⟨o, es, ep, base_of e (noA e d), d, r⟩
    have hKb : K.In (hidT s₁.heap H) := fun b o e => base_of (KX b o e) (by
      cases q : H b with
      | none => rfl
      | some u =>
        have e' : b = a := hA b (by rw [q]; simp)
        subst e'
        rw [hK (by rw [q]; simp)] at e; cases e)
    have hM : Mod K mg (hidT s₁.heap H) := ⟨hKb, nsK hns, ⟨mb, nsK hb, hbb⟩, let ⟨mc, h1, h2⟩ := hlim; ⟨mc, nsK h1, h2⟩⟩
    have e0 : Env0 P w K mg (hidT s₁.heap H) callerA [] s₁ H := ⟨rfl, hM, fun b o e => of_hidT e, Nat.le_of_eq (hidT_size _ _), trivial, fun b hb => absurd (show b ∈ ([] : List Addr) from hb) (by simp), hok, .of_eq hg⟩
    refine codeAny_mono ((F _ hKb (nsK hns)).run callerA [] s₁ H ⟨[.ref a], []⟩ [.ref a] [.ref a] _ _ hr e0 (hbind s₁ (.ref a)) (.cons rfl .nil) (hsp H hO hS)) fun r s' h => ?_
    cases r with
    | error e => exact (hCX H e s' h).elim
    | ok fl =>
      cases fl with
      | next => exact False.elim h
      | brk => exact False.elim h
      | cont => exact False.elim h
      | ret u =>
        obtain ⟨v, H', os, bare, un, hok', r', q⟩ := h
        have q' : v = .bl true := q
        subst q'
        obtain rfl : u = Value.bool true := r'
        refine ⟨rfl, OldK.of_keep fun b o e => ?_, os, bare⟩
        cases q : H b with
        | none => exact un.keep b o e q (by intro z; exact absurd (show b ∈ ([] : List Addr) from z) (by simp)) (by simp)
        | some u =>
          rcases hO b with z | ⟨ob, xs, z⟩
          · rw [q] at z; cases z
          · have z2 := un.frzs b ob _ z
            obtain ⟨e1, _⟩ := hok b _ z
            obtain ⟨e2, _⟩ := hok' b _ z2
            rw [e] at e1; cases e1
            exact e2
  cases hk : K.lookup a with
  | some o =>
    have e := KX a o hk
    rw [ha] at e
    cases e
    refine core (fun _ => none) (fun _ => .inl rfl) (.inr ⟨_, vs.toArray, _, hk, rfl, rfl, rfl, by rw [List.size_toArray, lenV]; exact hl, by simpa using rv⟩) (fun b u z => by have z' : (none : Option HO) = some u := z; cases z') (fun b z => absurd rfl z) fun z => absurd rfl z
  | none =>
    refine core (fun b => if b = a then some (.frz { cls := .type "list", data := .seq vs.toArray } (.lst (ns.map V.int))) else none) (fun b => ?_) (.inl (.inr ⟨{ cls := .type "list", data := .seq vs.toArray }, if_pos rfl⟩)) (fun b u z => ?_) (fun b z => ?_) fun _ => hk
    · by_cases hb : b = a
      · exact .inr ⟨_, _, if_pos hb⟩
      · exact .inl (if_neg hb)
    · by_cases hb : b = a
      · have z' := (if_pos hb).symm.trans z
        cases z'
        subst hb
        exact ⟨ha, by rw [List.length_map]; exact hl, vs, _, rv, ha⟩
      · have z' := (if_neg hb).symm.trans z
        cases z'
    · by_cases hb : b = a
      · exact hb
      · exact absurd (if_neg hb) z
end L2
namespace L2
open PySem PySem.Spec PyProof.Rows
theorem walk_of {l : PySem.W.OpenLaw} {n k : Nat} {q : Program} {loose : List Str} {XP : (Str → Option Value) → Heap → Prop} {YP : World → Heap → Prop} {d : DefRec} {K : Params → PySem.W.Frag} {CX : World → CXT} {sp : World → Sp} {x : Str}
    (hn : l.most = some n) (hn2 : n ≤ sizeLine) (hdf : d.params.defaults = []) (hr : Room k callerA)
    (hY : ∀ (w : World) (h : Heap), YP w h → (K w.params).In h)
    (F : ∀ (w : World) (mg : Str → Option Value) (fa : Addr) (h : Heap), (K w.params).In h → h.Ns mainGlobals mg → mg d.name = some (.ref fa) →
      ∃ fd : FuncData, (∀ (s : Shared) (u : Value), BindsTo s fd ⟨[u], []⟩ [(x, u)]) ∧
        ∀ base : Heap, (K w.params).In base → base.Ns mainGlobals mg → FnOk l.prog w (K w.params) mg base (CX w) k fa fd [x] (sp w))
    (hsp : ∀ (w : World) (H : Hp) (a : Addr) (ns : List Int), ns.length ≤ n → Only H → SqL (K w.params) H a (ns.map V.int) → sp w [.ref a] H (fun v _ => v = .bl true) fun _ _ _ => False)
    (hCX : ∀ (w : World) (H : Hp) (s : Shared) (e : Value) (s' : Shared), CX w [] H s (fun _ _ _ => False) e s' → False) :
    PySem.W.WalkO q loose XP YP l.row.toRowW d [] (fun f vs => PySem.call f vs) := by
  refine Att.attach_call hn hdf fun w s₀ s₁ mg mb fa o pm cd doc a vs ns G Y ho hd hcd hmg hobj hints hlen hg => ?_
  have KX := hY w _ Y
  obtain ⟨fd, hb, hF⟩ := F w mg fa _ KX G.T.g hmg
  exact law_call KX G.T.g G.T.b G.T.builtins G.T.nolimit hg hobj hints (Nat.le_trans hlen hn2) hr hF hb (fun H hO hS => hsp w H a ns hlen hO hS) fun H e s' => hCX w H s₁ e s'
end L2
namespace L2
open PySem PySem.Spec PyProof.Rows
def inClass (s : Stmt) (j : Nat) : Stmt := match s with
  | .ClassDef _ _ _ body _ _ _ _ _ _ _ => body.getD j (.Pass ⟨0, 0, 0, 0⟩)
  | _ => .Pass ⟨0, 0, 0, 0⟩
def defArgs (s : Stmt) : Arguments := match s with
  | .FunctionDef _ a _ _ _ _ _ _ _ _ => a
  | _ => { posonlyargs := [], args := [], vararg := none, kwonlyargs := [], kw_defaults := [], kwarg := none, defaults := [] }
def defBody (s : Stmt) : List Stmt := match s with
  | .FunctionDef _ _ b _ _ _ _ _ _ _ => b
  | _ => []
def defScope (s : Stmt) : Scope := match s with
  | .FunctionDef _ _ _ _ _ _ sc _ _ _ => sc
  | _ => { kind := .function, names := [], isGenerator := false, isCoroutine := false }
abbrev CX0 : CXT := fun _ _ _ _ _ _ => False
abbrev E0 : XK := fun _ _ _ => False
theorem pass0 {X : Cx} : Passes CX0 X E0 := fun _ _ _ _ _ _ _ h => h.elim
structure Fun (K : PySem.W.Frag) (x qual : Str) (st : Stmt) (f : Addr) (fd : FuncData) : Prop where
  ex : ∃ (oc : Value) (od : Option Addr) (kV doc pm : Value) (an : Option Addr) (cdv ct : Value) (osl : Array (Option Value)),
    fd = PySem.W.fnOf x qual (defArgs st) (defBody st) (defScope st) .none kV doc pm an cdv ct ∧ K.lookup f = some ⟨oc, od, .func fd, osl⟩ ∧ PySem.W.codeIn K cdv qual = true
  kp : PySem.W.keepIn K (.ref f) = true
section
variable {P : Program} {w : World} {K : PySem.W.Frag} {mg : Str → Option Value} {base : Heap}
theorem Fun.ok {x qual : Str} {st : Stmt} {f : Addr} {fd : FuncData} {N ps : List Str} {k : Nat} {sp : Sp} (F : Fun K x qual st f fd) (S : FnScope N ps (defScope st)) (len : ∀ vs H Q E, sp vs H Q E → vs.length = ps.length)
    (hbody : ∀ (cdv : Value) (A : Around) (outer : List Env) (s : Shared) (H : Hp) (vs : List V) (Q : VK) (E : XK), Room k (A.deeper (envOfC qual (defScope st) s.heap.objs.size f cdv)) → sp vs H Q E →
      ∃ t, PSs (cxOf CX0 P w K mg base N qual (defScope st) f cdv A outer s H E).nox (defBody st) t ∧ t { nx := fun _ H' => Q .non H', rt := Q } (start N vs) H) : FnOk P w K mg base CX0 (k + 1) f fd ps sp := by
  obtain ⟨oc, od, kV, doc, pm, an, cdv, ct, osl, rfl, lk, hcd⟩ := F.ex
  refine fn_of lk hcd S len fun A outer s H vs Q E hr hsp => ?_
  obtain ⟨t, h, q⟩ := hbody cdv A outer s H vs Q E hr hsp
  exact ⟨t, h.nox, q⟩
theorem Fun.binds {x qual : Str} {st : Stmt} {f : Addr} {fd : FuncData} {ps : List Str} (F : Fun K x qual st f fd)
    (h : ∀ (kV doc pm : Value) (an : Option Addr) (cdv ct : Value) (us : List Value), us.length = ps.length → bindArgs (PySem.W.fnOf x qual (defArgs st) (defBody st) (defScope st) .none kV doc pm an cdv ct) ⟨us, []⟩ = pure (ps.zip us)) : Binds K fd ps [] := by
  obtain ⟨oc, od, kV, doc, pm, an, cdv, ct, osl, rfl, lk, hcd⟩ := F.ex
  exact .all (h kV doc pm an cdv ct)
theorem fun_mk {x qual : Str} {st : Stmt} {f : Addr} {oc : Value} {od an : Option Addr} {osl : Array (Option Value)} {kV doc pm cdv ct : Value} (l : K.lookup f = some ⟨oc, od, .func (PySem.W.fnOf x qual (defArgs st) (defBody st) (defScope st) .none kV doc pm an cdv ct), osl⟩)
    (c : PySem.W.codeIn K cdv qual = true) (k : PySem.W.keepIn K (.ref f) = true) : Fun K x qual st f (PySem.W.fnOf x qual (defArgs st) (defBody st) (defScope st) .none kV doc pm an cdv ct) := ⟨⟨oc, od, kV, doc, pm, an, cdv, ct, osl, rfl, l, c⟩, k⟩
end
theorem hu_of {A : Around} {k : Nat} (hr : Room k A) : A.units + 1 < cLine := Nat.lt_of_le_of_lt (Nat.add_le_add_left (by decide : 1 ≤ 64) _) hr.units
theorem small1000 {n : Nat} (h : n ≤ 1000) : n < sizeLine := Nat.lt_of_le_of_lt h (by decide)
section
variable {X : Cx}
theorem pv (i : Nat) {x : Str} {pos : Pos} (hN : X.N[i]? = some x := by rfl) (hv : Vis X.env.scope x := by first | exact Or.inl rfl | exact Or.inr (Or.inl rfl) | exact Or.inr (Or.inr rfl)) (hd : (x == ("__debug__" : Str)) = false := by decide)
    (hcd : (x == ("__classdict__" : Str)) = false := by decide) : PE X (.Name x pos) (tVar i) := pe_var hN hv hd hcd
theorem call_lenD : CallR X (.builtin "len") (fun xs H Q => ∃ a kvs, xs = [V.ref a] ∧ H a = some (.dK kvs) ∧ Q (.int kvs.length) H) := by
  intro pins s σ H xs us Q I r h
  obtain ⟨a, kvs, rfl, ha, q⟩ := h
  obtain ⟨u, rfl, ru⟩ := vals1 r
  cases ru
  exact d_len I (.inl ha) fun t s' I' => ⟨.int kvs.length, H, I', ⟨t, rfl⟩, q⟩
end
theorem ite2 {c A B : Prop} [Decidable c] (h1 : c → A) (h2 : ¬ c → B) : if c then A else B := by
  by_cases h : c
  · rw [if_pos h]
    exact h1 h
  · rw [if_neg h]
    exact h2 h
def Same (H H' : Hp) : Prop := ∀ b o, H b = some o → H' b = some o
theorem Same.refl (H : Hp) : Same H H := fun _ _ h => h
theorem Same.trans {H H1 H2 : Hp} (a : Same H H1) (b : Same H1 H2) : Same H H2 := fun c o h => b c o (a c o h)
theorem Same.free {H H' : Hp} (e : Same H H') {l : Addr} (h : H' l = Option.none) : H l = Option.none := by
  cases q : H l with
  | none => rfl
  | some o =>
    rw [e l o q] at h
    cases h
theorem Same.seq {K : PySem.W.Frag} {H H' : Hp} {a : Addr} {xs : List V} (e : Same H H') (h : SqL K H a xs) : SqL K H' a xs := by
  rcases h with (h | ⟨o, h⟩) | h
  · exact .inl (.inl (e _ _ h))
  · exact .inl (.inr ⟨o, e _ _ h⟩)
  · exact .inr h
section
variable {κ : Type} [DecidableEq κ]
theorem valV_in {kvs : List (κ × V)} {k : κ} {v : V} (h : valV kvs k = some v) : k ∈ kvs.map (·.1) := by
  have q : (kvs.any fun kv => decide (kv.1 = k)) = true := by
    rw [valV_any, h]
    all_goals rfl
  obtain ⟨p, hp, e⟩ := List.any_eq_true.mp q
  exact List.mem_map.mpr ⟨p, hp, of_decide_eq_true e⟩
end
end L2
set_option Elab.async false
set_option linter.all false
set_option maxRecDepth 100000
namespace L2
open PySem PySem.Spec PyProof.Rows
inductive Kd where
  | int | bool | non | str | tup | lst
  deriving DecidableEq
def Kd.nm : Kd → String
  | .int => "int" | .bool => "bool" | .non => "NoneType" | .str => "str" | .tup => "tuple" | .lst => "list"
def isiT : Kd → Kd → Bool
  | .int, .int => true | .bool, .int => true | .bool, .bool => true | .str, .str => true | .tup, .tup => true | .lst, .lst => true | .non, .non => true
  | _, _ => false
def KindV (K : PySem.W.Frag) (H : Hp) : V → Kd → Prop
  | .int _, k => k = .int
  | .bl _, k => k = .bool
  | .non, k => k = .non
  | .str _, k => k = .str
  | .ref p, k => (k = .tup ∧ ∃ xs, SqT K H p xs) ∨ (k = .lst ∧ ∃ xs, SqL K H p xs)
  | _, _ => False
def rIsi (K : PySem.W.Frag) (T : Kd) : List V → Hp → VK → Prop := fun vs H Q => ∃ x k, vs = [x, .ty T.nm] ∧ KindV K H x k ∧ Q (.bl (isiT k T)) H
section
variable {X : Cx}
theorem isi_tup {pins : List (Addr × Obj)} {σ : St} {H : Hp} {s : Shared} {p : Addr} {xs : List V} (I : Inv X pins σ H s) (h : SqT X.K H p xs) : ∃ o, s.heap.get? p = some o ∧ o.cls = .type "tuple" := by
  obtain ⟨_, _, ⟨o, ho, hc, _⟩, _⟩ := I.tuple h
  exact ⟨o, ho, hc⟩
theorem isi_lst {pins : List (Addr × Obj)} {σ : St} {H : Hp} {s : Shared} {p : Addr} {xs : List V} (I : Inv X pins σ H s) (h : SqL X.K H p xs) : ∃ o, s.heap.get? p = some o ∧ o.cls = .type "list" := by
  obtain ⟨_, _, ⟨o, n, ho, hc, _⟩, _⟩ := I.list h
  exact ⟨o, ho, hc⟩
theorem call_isi_tup : CallR X (.builtin "isinstance") (rIsi X.K .tup) := by
  intro pins s σ H xs us Q I r h
  obtain ⟨x, k, rfl, hk, q⟩ := h
  obtain ⟨u, v, rfl, ru, rv⟩ := r.two
  cases rv
  have fin : ∀ t', EP X pins σ Q (.bool (isiT k .tup)) { s with toks := t' } := fun t' => ⟨.bl _, H, I.tok t', rfl, q⟩
  cases x with
  | int i => obtain ⟨t, rfl⟩ := ru; cases (show k = .int from hk); exact IsiPair.int_tuple (fin _)
  | bl b => cases ru; cases (show k = .bool from hk); exact IsiPair.bool_tuple (fin _)
  | non => cases ru; cases (show k = .non from hk); exact IsiPair.NoneType_tuple (fin _)
  | str z => obtain ⟨t, rfl⟩ := ru; cases (show k = .str from hk); exact IsiPair.str_tuple (fin _)
  | ref p =>
    cases ru
    rcases hk with ⟨rfl, ys, hs⟩ | ⟨rfl, ys, hs⟩
    · obtain ⟨o, ho, hc⟩ := isi_tup I hs; exact IsiPair.tuple_tuple ho hc (fin _)
    · obtain ⟨o, ho, hc⟩ := isi_lst I hs; exact IsiPair.list_tuple ho hc (fin _)
  | _ => exact False.elim hk
theorem insert_list (its : List Value) (k : Nat) (y : Value) : (its.toArray.extract 0 k).push y ++ its.toArray.extract k = (its.take k ++ y :: its.drop k).toArray := by
  apply Array.ext'
  simp
  rw [List.take_of_length_le (by rw [List.length_drop]; exact Nat.le_refl _)]
def rInsert : V → List V → Hp → VK → Prop := fun x vs H Q => ∃ l xs i y, x = .ref l ∧ vs = [.int i, y] ∧ H l = some (.lst xs) ∧ 0 ≤ i ∧ i ≤ xs.length ∧ xs.length < sizeLine ∧
  Q .non (upd H l (.lst (xs.take i.toNat ++ y :: xs.drop i.toNat)))
theorem mt_insert : MtM X "list.insert" rInsert := by
  intro pins s σ H x vs v us Q I rx rv h
  obtain ⟨l, xs, i, y, rfl, rfl, hH, h0, h1, hz, q⟩ := h
  cases rx
  obtain ⟨u, w', rfl, ⟨t, rfl⟩, ru⟩ := rv.two
  obtain ⟨z, its, n, r, hl, e⟩ := I.lstM hH
  have h63 := line63
  have hfit : ¬ (!Builtin.List.listFitsIndex i) = true := by
    rw [fitsIndex_both (by omega) (by omega)]
    exact Bool.false_ne_true
  refine call_meets F.slot_list_insert ⟨_, e, rfl⟩ F.entry_list_insert (F.args_list_insert_3 _ _ _) (AutoSeq1.list_insert_list_int_val_1 l its.toArray n i t w' hfit (by rw [List.size_toArray]; omega)) ⟨e, ?_⟩
  refine ⟨.non, _, I.lset (its' := its.take i.toNat ++ w' :: its.drop i.toNat) hH e ?_ (Vals.append (r.take _) (.cons ru (r.drop _))) ?_, rfl, q⟩
  · have hk : (if i < 0 then (i + (its.toArray.size : Int)).toNat else min i.toNat its.toArray.size) = i.toNat := by
      rw [if_neg (by omega), List.size_toArray]; omega
    show (its.toArray.extract 0 (if i < 0 then (i + (its.toArray.size : Int)).toNat else min i.toNat its.toArray.size)).push w' ++ its.toArray.extract (if i < 0 then (i + (its.toArray.size : Int)).toNat else min i.toNat its.toArray.size) = _
    rw [hk]
    exact insert_list its i.toNat w'
  · rw [List.length_append, List.length_cons, List.length_take, List.length_drop]
    omega
def rRange1 : List V → Hp → VK → Prop := fun vs H Q => ∃ j : Int, vs = [.int j] ∧ ∀ p, H p = none → Q (.ref p) (upd H p (.rng 0 j))
theorem call_range1 : CallR X (.type "range") rRange1 := by
  intro pins s σ H xs us Q I r h
  obtain ⟨j, rfl, q⟩ := h
  obtain ⟨u, rfl, t, rfl⟩ := r.one
  refine call_range_1 ⟨.ref s.heap.objs.size, _, I.laid (o := .rng 0 j) (fun b ob e => Heap.get?_push_of_some _ e) (Nat.le_refl _) ?_, rfl, q _ (I.hok.fresh (Nat.le_refl _))⟩
  exact ⟨_, _, _, Heap.get?_push_size _ rfl⟩
def intsTo (lo : Int) (n : Nat) : List V := (List.range n).map fun i => V.int (lo + (i : Nat))
theorem intsTo_length (lo : Int) (n : Nat) : (intsTo lo n).length = n := by simp [intsTo]
theorem paired_of_get {α β : Type} {F : α → β → Prop} : ∀ {l₁ : List α} {l₂ : List β}, l₁.length = l₂.length → (∀ (i : Nat) a b, l₁[i]? = some a → l₂[i]? = some b → F a b) → Paired F l₁ l₂
  | [], [], _, _ => .nil
  | [], _ :: _, h, _ => by simp at h
  | _ :: _, [], h, _ => by simp at h
  | a :: l₁, b :: l₂, h, k => .cons (k 0 a b rfl rfl) (paired_of_get (by simpa using h) fun i a b ha hb => k (i + 1) a b (by simpa using ha) (by simpa using hb))
def rListRng : List V → Hp → VK → Prop := fun vs H Q => ∃ p lo hi, vs = [.ref p] ∧ H p = some (.rng lo hi) ∧ -(2 ^ 62) ≤ lo ∧ lo < 2 ^ 62 ∧ -(2 ^ 62) ≤ hi ∧ hi < 2 ^ 62 ∧ (hi - lo).toNat ≤ sizeLine ∧
  ∀ l, H l = none → Q (.ref l) (upd H l (.lst (intsTo lo (hi - lo).toNat)))
theorem call_list_rng (hc : X.calm = true) : CallR X (.type "list") rListRng := by
  intro pins s σ H xs us Q I r h
  obtain ⟨p, lo, hi, rfl, hp, h1, h2, h3, h4, hz, q⟩ := h
  rw [Vals.ref1 r]
  obtain ⟨t, u, v, hr⟩ : ∃ t u v, s.heap.get? p = some { cls := .type "range", data := .fields #[.int lo t, .int hi u, .int 1 v] } := I.hok p _ hp
  have hsz : sizeLine = 16777216 := sizeLine_eq
  refine call_list_range (n := (hi - lo).toNat) (I.ok.hd hc) hr (small_one h1 h2 h3 h4) (by rw [rangeSize_one]; split <;> omega) (by rw [hsz] at hz; exact hz) fun h' tk acc' c' hk hS' hacc => ?_
  obtain ⟨hl, hg⟩ := hacc
  refine ⟨.ref s.heap.objs.size, _, I.laid (o := .lst (intsTo lo (hi - lo).toNat)) hk (Nat.le_refl _) ?_, rfl, q _ (I.hok.fresh (Nat.le_refl _))⟩
  refine ⟨by rw [intsTo_length]; exact hz, acc'.toList, c', ?_, by simpa using hS'⟩
  refine paired_of_get (by rw [intsTo_length]; simp [hl]) fun i a b ha hb => ?_
  obtain ⟨t', e⟩ := hg i b (by simpa using hb)
  have hi' : i < (hi - lo).toNat := by
    have := (List.getElem?_eq_some_iff.mp ha).1
    rwa [intsTo_length] at this
  have ha' : V.int (lo + (i : Nat)) = a := by
    simp only [intsTo, List.getElem?_map, List.getElem?_range hi', Option.map_some] at ha
    exact Option.some.inj ha
  subst ha'
  exact ⟨t', by rw [e, Int.mul_one]⟩
section
variable {prog : Program} {w : World} {A : Around} {E : Value → Shared → Prop} {s : Shared}
theorem nextOf_tup_item {it l : Addr} {i : Nat} {items} {x : Value} {Q : Value → Shared → Prop} (hit : s.heap.IsTupleIter it l i) (hl : s.heap.IsTuple l items) (hx : items[i]? = some x)
    (hQ : ∀ h', h'.IsTupleIter it l (i + 1) → Heap.SameBut it s.heap h' → Q x { s with heap := h' }) : wpAny (model prog w) A (Builtin.SmallTypes.nextOf (.ref it)) Q E s := by
  obtain ⟨o, ho, hc, hd⟩ := id hit; obtain ⟨ol, hol, _, nl, hdl⟩ := hl
  unfold Builtin.SmallTypes.nextOf
  refine wpAny_bind (wpAny_callSpecial?_slot (name := Str.ofString "__next__") hit.typeIs F.slot_tuple_iterator_next (wpAny_call_entry F.slot_tuple_iterator_next hit.typeIs F.entry_tuple_iterator_next ?_ (F.args_tuple_iterator_next_1 _)))
  show wpAny _ _ (field (.ref it) 0 >>= _) _ _ s; refine wpAny_bind (wpAny_field ho hd (x := .ref l) rfl ?_)
  show wpAny _ _ (if (Value.ref l == Value.none) = true then _ else _) _ _ s; rw [if_neg (show ¬ ((Value.ref l == Value.none) = true) from Bool.false_ne_true)]
  show wpAny _ _ (field (.ref it) 1 >>= _) _ _ s; refine wpAny_bind (wpAny_field ho hd (x := .int i 0) rfl ?_)
  show wpAny _ _ (seqItems? (.ref l) >>= _) _ _ s; refine wpAny_bind (wpAny_seqItems hol hdl ?_)
  simp only [Int.toNat_natCast, hx]
  refine wpAny_bind (wpAny_setField ho hd (by simp) (wpAny_pure ⟨x, rfl, wpAny_pure (hQ _ ?_ (Heap.SameBut.update ..))⟩)); exact ⟨_, Heap.get?_update_self _ ho (Obj.isFreed_of_fields (Obj.data_mapFields hd _)), (Obj.cls_mapFields ..).trans hc, by rw [Obj.data_mapFields hd]; simp [rawInt]⟩
theorem nextOf_tup_end {it l : Addr} {i : Nat} {items} {Q : Value → Shared → Prop} (hh : A.handled = none) (hit : s.heap.IsTupleIter it l i) (hl : s.heap.IsTuple l items) (hx : items[i]? = none)
    (hE : ∀ h' e, Heap.ExtBut it s.heap h' → (∃ o, h'.get? e = some o ∧ o.cls = .type "StopIteration") → E (.ref e) { s with heap := h' }) : wpAny (model prog w) A (Builtin.SmallTypes.nextOf (.ref it)) Q E s := by
  obtain ⟨o, ho, hc, hd⟩ := id hit; obtain ⟨ol, hol, _, nl, hdl⟩ := hl
  unfold Builtin.SmallTypes.nextOf
  refine wpAny_bind (wpAny_callSpecial?_slot (name := Str.ofString "__next__") hit.typeIs F.slot_tuple_iterator_next (wpAny_call_entry F.slot_tuple_iterator_next hit.typeIs F.entry_tuple_iterator_next ?_ (F.args_tuple_iterator_next_1 _)))
  show wpAny _ _ (field (.ref it) 0 >>= _) _ _ s; refine wpAny_bind (wpAny_field ho hd (x := .ref l) rfl ?_)
  show wpAny _ _ (if (Value.ref l == Value.none) = true then _ else _) _ _ s; rw [if_neg (show ¬ ((Value.ref l == Value.none) = true) from Bool.false_ne_true)]
  show wpAny _ _ (field (.ref it) 1 >>= _) _ _ s; refine wpAny_bind (wpAny_field ho hd (x := .int i 0) rfl ?_)
  show wpAny _ _ (seqItems? (.ref l) >>= _) _ _ s; refine wpAny_bind (wpAny_seqItems hol hdl ?_)
  simp only [Int.toNat_natCast, hx]; refine wpAny_bind (wpAny_rule (wpAny_bind (wpAny_setField ho hd (by simp) ?_)))
  show wpAny _ _ (newExc (.type "StopIteration") [] >>= _) _ _ _; refine wpAny_bind ?_
  simp only [newExc, newTuple]; refine wpAny_bind (wpAny_newObj_type ?_ (by size_fits))
  refine wpAny_bind (m := firstArgMember _ _) (wpAny_of_eq (a := Value.none) (by first | rfl | (simp only [firstArgMember]; rfl)) ?_); refine wpAny_newObj_type ?_ (by size_fits)
  simp only [raiseNew]; refine wpAny_bind (wpAny_handled ?_); (first | rw [show A.in1.handled = none from hh] | rw [hh]); refine wpAny_bind (wpAny_pure (wpAny_throw ?_))
  exact hE _ _ (((Heap.SameBut.update ..).extBut.push _).push _) ⟨_, Heap.get?_push_size _ rfl, rfl⟩
theorem draws_tup (hh : A.handled = none) (it l : Addr) (hne : l ≠ it) (items : Array Value) :
    Draws prog w A it [it, l] items.size (fun i v => items[i]? = some v) (fun i h => h.IsTupleIter it l i ∧ h.IsTuple l items) where
  live := fun _ _ st => by obtain ⟨⟨o, ho, _⟩, _⟩ := st; exact ⟨o, ho⟩
  frame := fun _ _ _ st hk => ⟨st.1.at fun o e => hk it (by simp) o e, by obtain ⟨_, ⟨o, ho, r⟩⟩ := st; exact ⟨o, hk l (by simp) o ho, r⟩⟩
  item := fun i s Q E hi st hQ => by
    refine nextOf_tup_item st.1 st.2 (x := items[i]) (by simp [hi]) fun h' hit' hs' => hQ _ h' s.toks (by simp [hi]) ⟨hit', ?_⟩ hs'
    obtain ⟨_, ⟨o, ho, r⟩⟩ := st
    exact ⟨o, (hs'.2 l hne).trans ho, r⟩
  done := fun s Q E st hE => nextOf_tup_end hh st.1 st.2 (by simp) hE
open AutoSeq1 (wpAny_loadPart') in
theorem meets_enum_tup (l : Addr) (items : Array Value) (n : Nat) (dct : Option Addr) (sl : Array (Option Value)) :
    Meets (Builtin.«enumerate.__new__» ⟨[.type "enumerate", .ref l], []⟩) (fun _ R s => s.heap.get? l = some { cls := .type "tuple", dict := dct, data := .seq items n, slots := sl } ∧
      R (.ok (.ret (.ref (s.heap.push { cls := .type "tuple_iterator", data := .fields #[.ref l, .int 0 0] }).objs.size)))
        { s with heap := (s.heap.push { cls := .type "tuple_iterator", data := .fields #[.ref l, .int 0 0] }).push { cls := .type "enumerate", data := .fields #[.none, .bool false, .ref s.heap.objs.size, rawInt 0, .none, .none] } }) :=
  .of_wp fun prog w A R s h => by
    obtain ⟨hp, g, d, tk, os⟩ := s; obtain ⟨hl, h⟩ := h
    have hsub := sub_enumerate; have hL : Heap.IsTuple (Shared.heap ⟨hp, g, d, tk, os⟩) l items := ⟨_, hl, rfl, n, rfl⟩
    wp_walk using wpAny_loadPart' hl
    refine wpAny_stack_any fun st => wpAny_pure ?_
    split
    · rename_i c _ _ _ _ _
      cases (c == Value.type "enumerate") <;> (wp_walk using wpAny_loadPart' hl, wpAny_pyIter_tuple hL; exact ⟨_, rfl, h⟩)
    · wp_walk using wpAny_loadPart' hl, wpAny_pyIter_tuple hL; exact ⟨_, rfl, h⟩
theorem call_enum_tup {l : Addr} {items : Array Value} {Q : Value → Shared → Prop} (hL : s.heap.IsTuple l items)
    (h : ∀ h', IsEnum h' (s.heap.objs.size + 1) s.heap.objs.size 0 .none → h'.IsTupleIter s.heap.objs.size l 0 → h'.objs.size = s.heap.objs.size + 2 → (∀ b o, s.heap.get? b = some o → h'.get? b = some o) → Q (.ref (s.heap.objs.size + 1)) { s with heap := h' }) :
    wpAny (model prog w) A (call (.type "enumerate") [.ref l]) Q E s := by
  obtain ⟨⟨c, dct, dt, sl⟩, hl, hc, n, hd⟩ := hL
  replace hc : c = .type "tuple" := hc
  replace hd : dt = .seq items n := hd
  subst hc hd
  refine callType_new F.called_enumerate (by decide) (F.typeCall_enumerate_1 _) (F.newCall_enumerate_1 _) (fun obj => F.args_object_init_2 obj _) F.entry_enumerate_new (meets_enum_tup l items n dct sl) ⟨hl, ?_⟩
  have hz : (s.heap.push { cls := .type "tuple_iterator", data := .fields #[.ref l, .int 0 0] }).objs.size = s.heap.objs.size + 1 := Heap.size_push ..
  show _ ∧ _
  rw [hz]
  have he : IsEnum ((s.heap.push { cls := .type "tuple_iterator", data := .fields #[.ref l, .int 0 0] }).push { cls := .type "enumerate", data := .fields #[.none, .bool false, .ref s.heap.objs.size, rawInt 0, .none, .none] }) (s.heap.objs.size + 1) s.heap.objs.size 0 .none := by
    have := Heap.get?_push_size (s.heap.push { cls := .type "tuple_iterator", data := .fields #[.ref l, .int 0 0] }) (o := { cls := .type "enumerate", data := .fields #[.none, .bool false, .ref s.heap.objs.size, rawInt 0, .none, .none] }) rfl
    rw [hz] at this; exact this
  refine ⟨⟨_, he, rfl⟩, h _ he ⟨_, Heap.get?_push_of_some _ (Heap.get?_push_size _ rfl), rfl, rfl⟩ (by rw [Heap.size_push, hz]) fun b o x => Heap.get?_push_of_some _ (Heap.get?_push_of_some _ x)⟩
end
def IteT (K : PySem.W.Frag) (a : Addr) : It :=
  ⟨fun i H => ∃ (xs : List V) (x : V), SqT K H a xs ∧ xs[i]? = some x, fun i H v H' => ∃ T x, v = .ref T ∧ H T = none ∧ H' = upd H T (.tup [.int (i : Nat), x]) ∧ ∀ xs, SqT K H a xs → xs[i]? = some x, fun i H => ∃ xs : List V, SqT K H a xs ∧ xs.length ≤ i⟩
theorem turn_enumT {P : Program} {w : World} {K : PySem.W.Frag} {elts : List Expr} {kk : Nat} {tpos : Pos} (a e it : Addr) :
    Turn P w K (.Tuple elts kk tpos) (IteT K a) [e, it] e (fun i h => (∃ old, IsEnum h e it ((i : Nat) : Int) old) ∧ h.IsTupleIter it a i ∧ e ≠ it ∧ a ≠ it ∧ a ≠ e) where
  mem := by simp
  obj := fun i h st b hb => by
    obtain ⟨⟨old, he⟩, ⟨o, ho, hc, hd⟩, _⟩ := st
    have e' : b = e ∨ b = it := by simpa using hb
    rcases e' with z | z
    · rw [z]; exact ⟨_, he, fun v q => nomatch q⟩
    · rw [z]; exact ⟨o, ho, fun v q => by rw [hd] at q; cases q⟩
  keep := fun i h h' st k => by
    obtain ⟨⟨old, he⟩, hi, hne⟩ := st
    exact ⟨⟨old, k e (by simp) _ he⟩, hi.at fun o q => k it (by simp) o q, hne⟩
  item := by
    intro X hP hw hK hc i pins s σ H E I hf st hg
    subst hP hw hK
    obtain ⟨⟨old, he⟩, hit, hne, hai, hae⟩ := st
    obtain ⟨xs, x, hq, hx⟩ := hg
    obtain ⟨its, rv, p, hz⟩ := I.tuple hq
    obtain ⟨u, hu, ru⟩ := rv.get hx
    have hel : e < s.heap.objs.size := Heap.lt_size he
    have hil : it < s.heap.objs.size := by obtain ⟨_, q, _⟩ := hit; exact Heap.lt_size q
    have hil' : i < its.toArray.size := by simpa using (List.getElem?_eq_some_iff.mp hu).1
    refine wpAny_pyNext_enum_itemD (draws_tup (A := X.A.in1) (I.ok.hd hc) it a hai its.toArray) he ⟨hit, p⟩ hil' hne (by simp [hne, Ne.symm hae]) fun x' h' tk hx' ho hit' hT hsz hk => ?_
    have ex : x' = u := by
      have e1 : its[i]? = some x' := by simpa using hx'
      rw [hu] at e1
      exact (Option.some.inj e1).symm
    subst ex
    refine ⟨_, rfl, wpAny_letOwnedTupleGo_enum (s := { s with heap := h', toks := tk + 1 }) ho fun h'' he' sb => ?_⟩
    have hT2 : h''.get? s.heap.objs.size = some { cls := .type "tuple", data := .seq #[.int i tk, x'] } := (sb.2 _ (Nat.ne_of_gt hel)).trans hT
    have new : ObjOk X.prog X.w (upd H s.heap.objs.size (.tup [.int (i : Nat), x])) h'' s.heap.objs.size (.tup [.int (i : Nat), x]) :=
      ⟨by show 2 ≤ sizeLine; decide, [.int i tk, x'], .cons ⟨_, rfl⟩ (.cons ru .nil), ⟨_, hT2, rfl, rfl, _, rfl⟩⟩
    have I1 : Inv X pins σ (upd H s.heap.objs.size (.tup [.int (i : Nat), x])) { s with heap := h'', toks := tk + 1 } :=
      I.turnedNew (ch := [e, it]) (fun b ob hb q => (sb.2 b (fun z => hb (by simp [z]))).trans (hk b ob (fun z => hb (by simp [z])) (fun z => hb (by simp [z])) q)) hf (Nat.le_refl _) new
    refine ⟨.ref s.heap.objs.size, _, I1, rfl, ⟨_, x, rfl, I.hok.fresh (Nat.le_refl _), rfl, fun ys hy => by rw [I.tuple_inj hy hq]; exact hx⟩, ⟨⟨x', ?_⟩, hit'.1.at fun o q => (sb.2 it (Ne.symm hne)).trans q, hne, hai, hae⟩, fun b hb => ?_⟩
    · have e1 : ((i + 1 : Nat) : Int) = (i : Int) + 1 := by omega
      rw [e1]; exact he'
    · have hb' : b < s.heap.objs.size := by
        have e' : b = e ∨ b = it := by simpa using hb
        rcases e' with z | z
        · rw [z]; exact hel
        · rw [z]; exact hil
      rw [upd_ne (Nat.ne_of_lt hb')]; exact (hf b hb).1
  done := by
    intro X hP hw hK hc i pins s σ H E I hf st hg
    subst hP hw hK
    obtain ⟨⟨old, he⟩, hit, hne, hai, hae⟩ := st
    obtain ⟨xs, hq, hx⟩ := hg
    obtain ⟨its, rv, p, hz⟩ := I.tuple hq
    obtain ⟨f0, f1, f2, f3, f4, f5⟩ := hf it (by simp)
    have hT : s.TypeIs (.ref e) "enumerate" := ⟨_, he, rfl⟩
    have hl := rv.length
    unfold pyNext
    refine wpAny_bind (wpAny_attempt (wpAny_callSpecial?_slot (name := Str.ofString "__next__") hT F.slot_enumerate_next (wpAny_call_entry F.slot_enumerate_next hT F.entry_enumerate_next ?_ (F.args_enumerate_next_1 _))))
    show wpAny _ _ (field (.ref e) 2 >>= _) _ _ _; refine wpAny_bind (wpAny_field he rfl (x := .ref it) rfl ?_)
    refine wpAny_bind (nextOf_tup_end (A := X.A.in1) (I.ok.hd hc) hit p (by simp; omega) fun h' y he' hx' => ?_)
    obtain ⟨o, ho, hc'⟩ := hx'
    refine wpAny_bind (wpAny_isInstance (T := "StopIteration") (b := true) ⟨o, ho, hc'⟩ isSubtype_stop ?_); exact wpAny_pure ⟨rfl, I.turned (t' := s.toks) (fun b o hb q => he' b o hb q) f0 f1 f3 f4 f5⟩
  self := fun A i s Q E st h => by obtain ⟨⟨_, he⟩, _⟩ := st; exact wpAny_pyIter_enum he h
def iEnumT (K : PySem.W.Frag) (ta : TA) : TI := fun σ H R => ta σ H fun vs H1 => ∃ a xs, vs = [.ref a] ∧ SqT K H1 a xs ∧ R (IteT K a) H1
theorem pi_enumT {e : Expr} {ta : TA} {p pos tpos : Pos} {elts : List Expr} {kk : Nat} (hg : Gl X "enumerate") (hm : X.mg "enumerate" = none) (ha : PA X [e] ta) (hs : starEach [e] X.env = [(false, eval e X.env)] := by rfl) :
    PI X (.Tuple elts kk tpos) (.Call (.Name "enumerate" p) [e] [] pos) (iEnumT X.K ta) := by
  intro pins s σ H R I h
  refine Call_ (ld_blt I hg hm boot_enumerate (PyProof.Rows.callWith_type1 (thn (ha pos pins s σ H _ I h) fun us s1 ⟨vs, H1, I1, r1, q1⟩ => ?_) hs rfl))
  obtain ⟨a, xs, ex, hq, q⟩ := q1
  subst ex
  rw [Vals.ref1 r1]
  obtain ⟨its, rv, p', hz⟩ := I1.tuple hq
  have hal : a < s1.heap.objs.size := by obtain ⟨_, e, _⟩ := p'; exact Heap.lt_size e
  refine call_enum_tup (show s1.heap.IsTuple a its.toArray from p') fun h' he hit hsz hk => wpAny_pyIter_enum he ?_
  have I2 : Inv X pins σ H1 { s1 with heap := h' } := I1.kept (t' := s1.toks) hk
  refine ⟨s1.heap.objs.size + 1, [s1.heap.objs.size + 1, s1.heap.objs.size], _, _, H1, rfl, I2, turn_enumT a (s1.heap.objs.size + 1) s1.heap.objs.size, ⟨⟨.none, he⟩, hit, Nat.succ_ne_self _, Nat.ne_of_lt hal, Nat.ne_of_lt (Nat.lt_succ_of_lt hal)⟩, fun b hb => ?_, q⟩
  have e' : b = s1.heap.objs.size + 1 ∨ b = s1.heap.objs.size := by simpa using hb
  have hle : s1.heap.objs.size ≤ b := by
    rcases e' with z | z
    · rw [z]; exact Nat.le_succ _
    · rw [z]; exact Nat.le_refl _
  exact I1.fpOk hle (I1.hok.fresh hle)
theorem op_mulK : OpR X (binaryOp .Mult) (rI IntMulOk fun i j => .int (i * j)) := opI fun _ _ _ _ _ _ _ hc q => mul_int q hc
theorem big60 : IntMulOk (10 ^ 60) (10 ^ 60) := by unfold IntMulOk; decide +kernel
end
end L2
set_option Elab.async false
set_option linter.all false
set_option maxRecDepth 100000
namespace L2
open PySem PySem.Spec PyProof.Rows
structure Fn (P : Program) (w : World) (K : PySem.W.Frag) (mg : Str → Option Value) (base : Heap) (x : Str) (ps : List Str) (k : Nat) (sp : Sp) : Prop where
  ex : ∃ f fd, FnOk P w K mg base CX0 k f fd ps sp ∧ Binds K fd ps [] ∧ PySem.W.keepIn K (.ref f) = true ∧ mg x = some (.ref f)
section
variable {X : Cx} {x : Str} {ps : List Str} {k j : Nat} {sp : Sp} {e : Expr} {es : List Expr} {t : TA} {p pos : Pos}
theorem pe_callF (F : Fn X.prog X.w X.K X.mg X.base x ps k sp) (hr : Room j X.A) (hk : k ≤ j) (ha : PA X (e :: es) t) (hg : Gl X x := by rfl) (hdb : (x == ("__debug__" : Str)) = false := by decide)
    (he : starEach (e :: es) X.env = (false, eval e X.env) :: starEach es X.env := by rfl) (hpl : (backTo pos (starEach es X.env)).any (·.1) = false := by rfl) : PE X (.Call (.Name x p) (e :: es) [] pos) (tCall sp [] E0 t) := by
  obtain ⟨f, fd, G, b, kp, m⟩ := F.ex
  exact pe_call G (hr.mono hk) hg m kp b .nil pass0 ha hdb he hpl
end
section
variable {X : Cx}
theorem pe_ty {x : Str} {n : String} {pos : Pos} (hg : Gl X x) (hm : X.mg x = none) (hv : bootBuiltins x = some (.type n)) (hn : x ≠ "__name__" := by decide) (hd : (x == ("__debug__" : Str)) = false := by decide) : PE X (.Name x pos) (tC (.ty n)) :=
  pe_bltn hg hm hv (v := .ty n) rfl hn hd
end
structure Bi (mg : Str → Option Value) : Prop where
  len_ : mg "len" = none
  range_ : mg "range" = none
  list_ : mg "list" = none
  tuple_ : mg "tuple" = none
  min_ : mg "min" = none
  int_ : mg "int" = none
  bool_ : mg "bool" = none
  isinstance_ : mg "isinstance" = none
  set_ : mg "set" = none
  all_ : mg "all" = none
  enumerate_ : mg "enumerate" = none
theorem bt_len : bootBuiltins "len" = some (.builtin "len") := by decide +kernel
theorem bt_range : bootBuiltins "range" = some (.type "range") := by decide +kernel
theorem bt_list : bootBuiltins "list" = some (.type "list") := by decide +kernel
theorem bt_tuple : bootBuiltins "tuple" = some (.type "tuple") := by decide +kernel
theorem bt_min : bootBuiltins "min" = some (.builtin "min") := by decide +kernel
theorem bt_int : bootBuiltins "int" = some (.type "int") := by decide +kernel
theorem bt_isinstance : bootBuiltins "isinstance" = some (.builtin "isinstance") := by decide +kernel
theorem bt_sorted : bootBuiltins "sorted" = some (.builtin "sorted") := by decide +kernel
theorem dp_ints {K : PySem.W.Frag} {H : Hp} : ∀ ns : List Int, DpAll K H (ns.map V.int) (ns.map PyData.int)
  | [] => .nil
  | n :: r => .cons (.int n) (dp_ints r)
theorem lay_ints : ∀ ns : List Int, PyData.canLayAll0 (ns.map PyData.int) = true
  | [] => by simp [PyData.canLayAll0]
  | n :: r => by simp [PyData.canLayAll0, PyData.canLay0, lay_ints r]
theorem depth_ints : ∀ ns : List Int, PyData.depthAll (ns.map PyData.int) ≤ 1
  | [] => by simp [PyData.depthAll]
  | n :: r => by have := depth_ints r; simp [PyData.depthAll, PyData.depth]; omega
theorem shaped_ints (ns : List Int) : SeqAt.shaped (.list (ns.map PyData.int)) = true := by
  have := depth_ints ns
  unfold SeqAt.shaped
  rw [Bool.and_eq_true]
  refine ⟨by rw [PyData.canLay0]; exact lay_ints ns, decide_eq_true ?_⟩
  rw [PyData.depth]; omega
section
variable {X : Cx}
def rNeNil (K : PySem.W.Frag) : R2 := fun x y H Q => ∃ (a b : Addr) (ns : List Int), x = .ref a ∧ y = .ref b ∧ SqL K H a (ns.map V.int) ∧ SqL K H b [] ∧ Q (.bl (!ns.isEmpty)) H
theorem op_neNil (hu : X.A.units + 64 < cLine) : OpR X (compareOp .NotEq) (rNeNil X.K) := by
  intro pins s σ H x y v u Q I rx ry h
  obtain ⟨a, b, ns, rfl, rfl, ha, hb, q⟩ := h
  refine op_neD hu pins s σ H _ _ v u Q I rx ry ⟨.list (ns.map PyData.int), .list [], .lst ha (dp_ints ns), .lst hb .nil, shaped_ints ns, shaped_ints [], ?_⟩
  have e : (!PyData.eqv (.list (ns.map PyData.int)) (.list [])) = !ns.isEmpty := by
    cases ns <;> simp [PyData.eqv, PyData.eqvAll]
  rw [e]; exact q
end
end L2
set_option Elab.async false
set_option linter.all false
set_option maxRecDepth 100000
set_option maxHeartbeats 600000
namespace Hs
open PySem L2
def top (i : Nat) : Stmt := PySem.Challenge.pw_halfseams_k12_patches_cut_and_joined.main.body.getD i (.Pass ⟨0, 0, 0, 0⟩)
abbrev s_Harm : Stmt := top 13
abbrev s_check_half : Stmt := top 16
abbrev s_check_room : Stmt := top 18
abbrev s_without : Stmt := top 19
abbrev s_ahead_of : Stmt := top 21
abbrev s_patch_of : Stmt := top 22
abbrev s_cut : Stmt := top 24
abbrev s_joined : Stmt := top 25
abbrev s_check_two_patches : Stmt := top 26
abbrev s_turned : Stmt := top 27
abbrev s_unturned : Stmt := top 28
abbrev s_two_threes : Stmt := top 29
abbrev s_with_threes : Stmt := top 30
abbrev s__law_asked : Stmt := top 32
abbrev sBag : Stmt := top 33
abbrev sTake : Stmt := top 34
abbrev sSkin : Stmt := top 35
abbrev s__law_left : Stmt := top 36
abbrev s__law_right : Stmt := top 37
abbrev s__law_knot : Stmt := top 38
abbrev s__law_patch : Stmt := top 39
abbrev s__law_rim : Stmt := top 40
abbrev s__law_walks : Stmt := top 41
abbrev s__law_kinds : Stmt := top 42
abbrev s__law_closed : Stmt := top 43
abbrev s__law_rows_of : Stmt := top 44
abbrev s__law_pairs_of : Stmt := top 45
abbrev s__law_put : Stmt := top 46
abbrev s__law_left_out : Stmt := top 47
abbrev s__law_is_rimmed : Stmt := top 48
abbrev s__law_patch_due : Stmt := top 50
abbrev s__law_due : Stmt := top 53
abbrev s__law_deed : Stmt := top 54
abbrev sLaw : Stmt := top 55
theorem itP {c : Bool} {A B : Prop} (h : c = true) (a : A) : if c = true then A else B := by rw [if_pos h]; exact a
theorem itN {c : Bool} {A B : Prop} (h : c = false) (b : B) : if c = true then A else B := by rw [if_neg (by rw [h]; exact Bool.false_ne_true)]; exact b
theorem at0 {α : Type} (a : α) (r : List α) : atI (a :: r) 0 = some a := atI_nat (j := 0) rfl
theorem at1 {α : Type} (a b : α) (r : List α) : atI (a :: b :: r) 1 = some b := atI_nat (j := 1) rfl
theorem atN {α : Type} {xs : List α} {i : Int} {v : α} (h0 : 0 ≤ i) (h : xs[i.toNat]? = some v) : atI xs i = some v := by
  rw [show i = ((i.toNat : Nat) : Int) by omega]; exact atI_nat h
theorem lt63 {n : Nat} (h : n ≤ 1000) : n ≤ sizeLine := Nat.le_of_lt (small1000 h)
section
variable {P : Program} {w : World} {K : PySem.W.Frag} {mg : Str → Option Value} {base : Heap} {f : Addr} {fd : FuncData}
def Only1 (b : Addr) (H H' : Hp) : Prop := ∀ c, c ≠ b → H' c = H c
theorem only1_upd {b : Addr} {H : Hp} {o : HO} : Only1 b H (upd H b o) := fun _ hc => upd_ne hc
def spTake : Sp := fun vs H Q _ => ∃ (b : Addr) (x y many : Int), vs = [.ref b, .int many] ∧ H b = some (.lst [.int x, .int y]) ∧ 0 < many ∧ many < 1073741824 ∧
  ∀ (r : Int) (H' : Hp) (x' y' : Int), 0 ≤ r → r < many → H' b = some (.lst [.int x', .int y']) → Only1 b H H' → Q (.int r) H'
theorem scTake : FnScope ["bag", "many", "found"] ["bag", "many"] (defScope sTake) := ⟨rfl, rfl, rfl, by decide +kernel, rfl, by decide +kernel, by decide +kernel⟩
theorem ok_take (F : Fun K "_law_take" "_law_take" sTake f fd) : FnOk P w K mg base CX0 1 f fd ["bag", "many"] spTake := by
  refine F.ok scTake (fun vs H Q E h => ?_) (fun cdv A outer s H vs Q E hr h => ?_)
  · obtain ⟨b, x, y, many, rfl, _⟩ := h; rfl
  obtain ⟨b, x, y, many, rfl, hb, h0, h1, q⟩ := h
  refine ⟨_, (pss_cons (ps_if (pt_cmpR op_gt (pe_ix ix_list (pv 0) pe_int (fun _ _ => rfl)) pe_int (nomark _))
   (pss_cons (ps_set (i := 2) scTake.nd rfl (Or.inl rfl) (pe_op op_mod (pe_ix ix_list (pv 0) pe_int (fun _ _ => rfl)) (pv 1)))
   (pss_cons (ps_asg (pe_op op_fdiv (pe_ix ix_list (pv 0) pe_int (fun _ _ => rfl)) (pv 1)) (pg_sub (pv 0) pe_int set_list))
   (pss_one (ps_ret (pv 2)))))
   pss_nil)
   (pss_cons (ps_asg (pe_op op_mod (pe_op op_mul (pe_ix ix_list (pv 0) pe_int (fun _ _ => rfl)) pe_int) pe_int) (pg_sub (pv 0) pe_int set_list))
   (pss_one (ps_ret (pe_op op_mod (pe_op op_fdiv (pe_op op_mod (pe_op op_mul (pe_ix ix_list (pv 0) pe_int (fun _ _ => rfl)) (pe_ix ix_list (pv 0) pe_int (fun _ _ => rfl))) pe_int) pe_int) (pv 1)))))), ?_⟩
  refine ⟨_, rfl, b, _, _, _, rfl, rfl, SqL.of hb, at0 _ _, _, _, rfl, rfl, _, rfl, ite2 (fun _ => ?_) (fun _ => ?_)⟩
  · refine ⟨_, rfl, b, _, _, _, rfl, rfl, SqL.of hb, at0 _ _, _, rfl, _, _, rfl, rfl, h0, ?_⟩
    refine ⟨_, rfl, b, _, _, _, rfl, rfl, SqL.of hb, at0 _ _, _, rfl, _, _, rfl, rfl, ⟨h0, h1⟩, _, rfl, b, _, _, 0, rfl, rfl, hb, rfl, ?_⟩
    exact ⟨_, rfl, q _ _ _ _ (Int.emod_nonneg _ (by omega)) (Int.emod_lt_of_pos _ h0) upd_same only1_upd⟩
  · refine ⟨_, rfl, b, _, _, _, rfl, rfl, SqL.of hb, at1 _ _ _, _, _, rfl, rfl, .inr ⟨by decide, by decide⟩, _, _, rfl, rfl, (by show (0 : Int) < 2147483647; decide), _, rfl, b, _, _, 1, rfl, rfl, hb, rfl, ?_⟩
    have z0 : 0 ≤ y * 48271 % 2147483647 := Int.emod_nonneg _ (by decide)
    have z1 : y * 48271 % 2147483647 < 2147483647 := Int.emod_lt_of_pos _ (by decide)
    refine ⟨_, rfl, b, _, _, _, rfl, rfl, SqL.of upd_same, at1 _ _ _, _, rfl, b, _, _, _, rfl, rfl, SqL.of upd_same, at1 _ _ _, _, _, rfl, rfl, .inl ⟨by omega, by omega⟩, _, _, rfl, rfl, (by show (0 : Int) < 2147483629; decide), _, _, rfl, rfl, ⟨by decide, by decide⟩, _, rfl, _, _, rfl, rfl, h0, ?_⟩
    exact q _ _ _ _ (Int.emod_nonneg _ (by omega)) (Int.emod_lt_of_pos _ h0) upd_same only1_upd
def spBag (K : PySem.W.Frag) : Sp := fun vs H Q _ => ∃ (a : Addr) (ns : List Int) (k : Int), vs = [.ref a, .int k] ∧ SqL K H a (ns.map V.int) ∧ ns.length ≤ 63 ∧ 0 ≤ k ∧
  ∀ (p : Addr) (x y : Int), H p = none → Q (.ref p) (upd H p (.lst [.int x, .int y]))
theorem scBag : FnScope ["script", "k", "cell"] ["script", "k"] (defScope sBag) := ⟨rfl, rfl, rfl, by decide +kernel, rfl, by decide +kernel, by decide +kernel⟩
theorem big_pos : (0 : Int) < 10 ^ (60 : Int).toNat * 10 ^ (60 : Int).toNat := by decide +kernel
theorem ok_bag (B : Bi mg) (F : Fun K "_law_bag" "_law_bag" sBag f fd) : FnOk P w K mg base CX0 1 f fd ["script", "k"] (spBag K) := by
  refine F.ok scBag (fun vs H Q E h => ?_) (fun cdv A outer s H vs Q E hr h => ?_)
  · obtain ⟨a, ns, k, rfl, _⟩ := h; rfl
  obtain ⟨a, ns, k, rfl, hS, h63, h0, q⟩ := h
  refine ⟨_, (pss_cons (ps_set (i := 2) scBag.nd rfl (Or.inl rfl) pe_int)
   (pss_cons (ps_if (pt_cmpR op_lt (pv 1) (pe_callB call_len_seq rfl B.len_ bt_len (pa_cons (pv 0) pa_nil)) (nomark _))
   (pss_one (ps_set (i := 2) scBag.nd rfl (Or.inl rfl) (pe_op op_mod (pe_ix ix_list (pv 0) (pv 1) (fun _ _ => rfl)) (pe_op op_mulK (pe_op op_pow pe_int pe_int) (pe_op op_pow pe_int pe_int)))))
   pss_nil)
   (pss_cons (ps_if (pt_cmpR op_lt (pv 2) (pe_op op_pow pe_int pe_int) (nomark _))
   (pss_one (ps_ret (pe_lst (pa_cons pe_int (pa_cons (pe_op op_add pe_int (pe_op op_mod (pe_op op_add (pe_op op_mul (pv 2) pe_int) (pe_op op_mul pe_int (pv 1))) pe_int)) pa_nil)))))
   pss_nil)
   (pss_one (ps_ret (pe_lst (pa_cons (pv 2) (pa_cons (pe_op op_add pe_int (pe_op op_mod (pe_op op_add (pv 2) (pv 1)) pe_int)) pa_nil)))))))), ?_⟩
  have hl : (ns.map V.int).length = ns.length := List.length_map _
  refine ⟨_, rfl, _, rfl, a, _, rfl, .inl hS, _, _, rfl, rfl, _, rfl, ite2 (fun c => ?_) (fun c => ?_)⟩
  · have c' : k < ((ns.map V.int).length : Int) := of_decide_eq_true c
    rw [hl] at c'
    have hk : k.toNat < ns.length := by omega
    refine ⟨_, rfl, _, rfl, a, _, _, .int ns[k.toNat], rfl, rfl, hS, atN h0 (by rw [List.getElem?_map, List.getElem?_eq_getElem hk] <;> rfl), _, _, rfl, rfl, ⟨by decide, by decide, by decide⟩, _, _, rfl, rfl, ⟨by decide, by decide, by decide⟩, _, _, rfl, rfl, big60, _, _, rfl, rfl, big_pos, ?_⟩
    refine ⟨_, rfl, _, _, rfl, rfl, ⟨by decide, by decide, by decide⟩, _, _, rfl, rfl, _, rfl, ite2 (fun c => ?_) (fun c => ?_)⟩
    · refine ⟨_, rfl, _, _, rfl, rfl, .inr ⟨by decide, by decide⟩, _, rfl, _, _, rfl, rfl, .inl ⟨by decide, by decide⟩, _, _, rfl, rfl, _, _, rfl, rfl, (by show (0 : Int) < 2147483646; decide), _, _, rfl, rfl, (by show 2 ≤ sizeLine; decide), fun p hp => q p _ _ hp⟩
    · refine ⟨_, rfl, _, rfl, _, rfl, _, _, rfl, rfl, _, _, rfl, rfl, (by show (0 : Int) < 2147483646; decide), _, _, rfl, rfl, (by show 2 ≤ sizeLine; decide), fun p hp => q p _ _ hp⟩
  · refine ⟨_, rfl, _, _, rfl, rfl, ⟨by decide, by decide, by decide⟩, _, _, rfl, rfl, _, rfl, ite2 (fun c => ?_) (fun c => ?_)⟩
    · refine ⟨_, rfl, _, _, rfl, rfl, .inr ⟨by decide, by decide⟩, _, rfl, _, _, rfl, rfl, .inl ⟨by decide, by decide⟩, _, _, rfl, rfl, _, _, rfl, rfl, (by show (0 : Int) < 2147483646; decide), _, _, rfl, rfl, (by show 2 ≤ sizeLine; decide), fun p hp => q p _ _ hp⟩
    · refine ⟨_, rfl, _, rfl, _, rfl, _, _, rfl, rfl, _, _, rfl, rfl, (by show (0 : Int) < 2147483646; decide), _, _, rfl, rfl, (by show 2 ≤ sizeLine; decide), fun p hp => q p _ _ hp⟩
end
end Hs
set_option Elab.async false
set_option linter.all false
set_option maxRecDepth 100000
set_option maxHeartbeats 600000
namespace Hs
open PySem L2
def mV : Option Int → V
  | none => .non
  | some i => .int i
theorem get_int {on : List Int} {i : Nat} (h : i < on.length) : (on.map V.int)[i]? = some (.int on[i]) := by
  rw [List.getElem?_map, List.getElem?_eq_getElem h] <;> rfl
theorem get_mV {ms : List (Option Int)} {i : Nat} (h : i < ms.length) : (ms.map mV)[i]? = some (mV ms[i]) := by
  rw [List.getElem?_map, List.getElem?_eq_getElem h] <;> rfl
theorem same_new {H : Hp} {p : Addr} (h : H p = none) (o : HO) : Same H (upd H p o) := fun b u q => by rw [upd_ne (ne_of_none q h)]; exact q
theorem _root_.L2.Same.seqT {K : PySem.W.Frag} {H H' : Hp} {a : Addr} {xs : List V} (e : Same H H') (h : SqT K H a xs) : SqT K H' a xs := by
  rcases h with (h | ⟨o, h⟩) | h
  · exact .inl (.inl (e _ _ h))
  · exact .inl (.inr ⟨o, e _ _ h⟩)
  · exact .inr h
end Hs
set_option linter.all false
namespace Hs
def lk (l : List Int) (x : Int) : Int := l.getD x.toNat 0
theorem lk_get {l : List Int} {x : Int} (h : x.toNat < l.length) : l[x.toNat]? = some (lk l x) := by
  unfold lk; rw [List.getD_eq_getElem?_getD, List.getElem?_eq_getElem h]; rfl
theorem lk_set {l : List Int} {j : Nat} {v x : Int} (h : j < l.length) : lk (l.set j v) x = if x.toNat = j then v else lk l x := by
  unfold lk
  rw [List.getD_eq_getElem?_getD, List.getElem?_set, List.getD_eq_getElem?_getD]
  by_cases e : j = x.toNat
  · rw [if_pos e, if_pos h, if_pos e.symm]; rfl
  · rw [if_neg e, if_neg (fun z => e z.symm)]
structure Ord (n : Nat) (o : List Int) : Prop where
  len : o.length = n
  nd : o.Nodup
  mem : ∀ x : Int, x ∈ o ↔ 0 ≤ x ∧ x < n
theorem Ord.nil : Ord 0 [] := ⟨rfl, List.nodup_nil, fun x => ⟨fun h => (by cases h), fun h => (by omega)⟩⟩
theorem Ord.put {n : Nat} {o : List Int} (h : Ord n o) (r : Nat) : Ord (n + 1) (o.take r ++ (n : Int) :: o.drop r) := by
  have hp : (o.take r ++ (n : Int) :: o.drop r).Perm ((n : Int) :: o) := by
    have := (List.perm_middle (a := (n : Int)) (l₁ := o.take r) (l₂ := o.drop r))
    rwa [List.take_append_drop] at this
  refine ⟨by rw [hp.length_eq, List.length_cons, h.len], hp.nodup_iff.mpr (List.nodup_cons.mpr ⟨fun z => ?_, h.nd⟩), fun x => ?_⟩
  · have := (h.mem _).mp z; omega
  · rw [hp.mem_iff, List.mem_cons, h.mem]; omega
structure Sewn (n : Nat) (done : List Int) (on : List Int) : Prop where
  len : on.length = n
  into : ∀ x ∈ done, lk on x ∈ done
  inj : ∀ x ∈ done, ∀ y ∈ done, lk on x = lk on y → x = y
  sur : ∀ y ∈ done, ∃ x ∈ done, lk on x = y
theorem Sewn.nil {n : Nat} {on : List Int} (h : on.length = n) : Sewn n [] on := ⟨h, (fun x hx => by cases hx), (fun x hx => by cases hx), (fun x hx => by cases hx)⟩
def prv (s j : Nat) : Nat := if j = 0 then s - 1 else j - 1
structure Sewing (n : Nat) (patch : List Int) (on0 : List Int) (i : Nat) (on : List Int) : Prop where
  len : on.length = n
  did : ∀ j, j < i → ∀ x, patch[prv patch.length j]? = some x → ∀ y, patch[j]? = some y → lk on x = y
  out : ∀ x, 0 ≤ x → x ∉ patch → lk on x = lk on0 x
theorem Sewing.start {n : Nat} {patch on0 : List Int} (h : on0.length = n) : Sewing n patch on0 0 on0 := ⟨h, fun j hj => absurd hj (Nat.not_lt_zero _), fun _ _ _ => rfl⟩
theorem nd_at {l : List Int} (hN : l.Nodup) {i j : Nat} {x : Int} (a : l[i]? = some x) (b : l[j]? = some x) : i = j := by
  obtain ⟨h1, e1⟩ := List.getElem?_eq_some_iff.mp a
  obtain ⟨h2, e2⟩ := List.getElem?_eq_some_iff.mp b
  exact (List.getElem_inj hN).mp (e1.trans e2.symm)
theorem prv_inj {s i j : Nat} (hi : i < s) (hj : j < s) (h : prv s i = prv s j) : i = j := by unfold prv at h; split at h <;> split at h <;> omega
theorem prv_lt {s j : Nat} (hj : j < s) : prv s j < s := by unfold prv; split <;> omega
theorem Sewing.turn {n : Nat} {patch on0 on : List Int} {i : Nat} {x y : Int} (S : Sewing n patch on0 i on) (nd : patch.Nodup) (hr : ∀ z ∈ patch, 0 ≤ z ∧ z < n) (hi : i < patch.length) (hx : patch[prv patch.length i]? = some x) (hy : patch[i]? = some y) :
    Sewing n patch on0 (i + 1) (on.set x.toNat y) := by
  have hxm := hr x (List.mem_of_getElem? hx)
  have hxl : x.toNat < on.length := by rw [S.len]; omega
  refine ⟨by rw [List.length_set, S.len], fun j hj u hu v hv => ?_, fun z hz hn => ?_⟩
  · have hum := hr u (List.mem_of_getElem? hu)
    have hjl : j < patch.length := (List.getElem?_eq_some_iff.mp hv).1
    rw [lk_set hxl]
    by_cases e : u.toNat = x.toNat
    · have eu : u = x := by omega
      subst eu
      have := prv_inj hjl hi (nd_at nd hu hx)
      subst this
      rw [if_pos rfl]
      rw [hy] at hv
      exact Option.some.inj hv
    · rw [if_neg e]
      refine S.did j ?_ u hu v hv
      rcases Nat.lt_or_ge j i with h | h
      · exact h
      · have : j = i := by omega
        subst this
        rw [hx] at hu
        exact absurd (congrArg Int.toNat (Option.some.inj hu).symm) e
  · rw [lk_set hxl, if_neg (fun e => hn ?_)]
    · exact S.out z hz hn
    · have : z = x := by omega
      rw [this]; exact List.mem_of_getElem? hx
theorem Sewn.more {n : Nat} {done patch on0 on : List Int} (D : Sewn n done on0) (S : Sewing n patch on0 patch.length on) (nd : (done ++ patch).Nodup) (hr : ∀ z ∈ done ++ patch, 0 ≤ z ∧ z < n) : Sewn n (done ++ patch) on := by
  obtain ⟨nd1, nd2, nd3⟩ := List.nodup_append.mp nd
  have old : ∀ x ∈ done, lk on x = lk on0 x := fun x hx => S.out x (hr x (List.mem_append_left _ hx)).1 fun z => nd3 x hx x z rfl
  have new : ∀ x ∈ patch, ∃ j, j < patch.length ∧ patch[prv patch.length j]? = some x ∧ patch[j]? = some (lk on x) := fun x hx => by
    obtain ⟨k, hk, e⟩ := List.getElem_of_mem hx
    obtain ⟨j, hj, ej⟩ : ∃ j, j < patch.length ∧ prv patch.length j = k := by
      by_cases z : k + 1 = patch.length
      · exact ⟨0, by omega, by unfold prv; rw [if_pos rfl]; omega⟩
      · exact ⟨k + 1, by omega, by unfold prv; rw [if_neg (by omega)]; omega⟩
    have h1 : patch[prv patch.length j]? = some x := by rw [ej, List.getElem?_eq_getElem hk, e]
    have h2 : patch[j]? = some patch[j] := List.getElem?_eq_getElem hj
    refine ⟨j, hj, h1, ?_⟩
    rw [S.did j hj x h1 _ h2]; exact h2
  refine ⟨S.len, fun x hx => ?_, fun x hx y hy e => ?_, fun y hy => ?_⟩
  rotate_left 2
  · rcases List.mem_append.mp hy with h | h
    · obtain ⟨x, hx, e⟩ := D.sur y h
      exact ⟨x, List.mem_append_left _ hx, by rw [old x hx]; exact e⟩
    · obtain ⟨j, hj, e⟩ := List.getElem_of_mem h
      have hpl := prv_lt hj
      have hp : patch[prv patch.length j]? = some patch[prv patch.length j] := List.getElem?_eq_getElem hpl
      exact ⟨patch[prv patch.length j], List.mem_append_right _ (List.getElem_mem _), S.did j hj _ hp y (by rw [List.getElem?_eq_getElem hj, e])⟩
  · rcases List.mem_append.mp hx with h | h
    · rw [old x h]; exact List.mem_append_left _ (D.into x h)
    · obtain ⟨j, _, _, h2⟩ := new x h
      exact List.mem_append_right _ (List.mem_of_getElem? h2)
  · rcases List.mem_append.mp hx with h | h <;> rcases List.mem_append.mp hy with g | g
    · rw [old x h, old y g] at e; exact D.inj x h y g e
    · obtain ⟨j, _, _, h2⟩ := new y g
      rw [old x h] at e
      exact absurd rfl (nd3 _ (D.into x h) _ (e ▸ List.mem_of_getElem? h2))
    · obtain ⟨j, _, _, h2⟩ := new x h
      rw [old y g] at e
      exact absurd rfl (nd3 _ (D.into y g) _ (e ▸ List.mem_of_getElem? h2))
    · obtain ⟨j, _, h1, h2⟩ := new x h
      obtain ⟨k, _, g1, g2⟩ := new y g
      rw [e] at h2
      have := nd_at nd2 h2 g2
      subst this
      rw [h1] at g1
      exact Option.some.inj g1
structure Mated (n : Nat) (ms : List (Option Int)) : Prop where
  len : ms.length = n
  ok : ∀ (h : Nat) (m : Int), ms[h]? = some (some m) → 0 ≤ m ∧ m < n ∧ m ≠ h ∧ ms[m.toNat]? = some (some (h : Int))
structure Waits (n : Nat) (ws : List Int) (ms : List (Option Int)) : Prop where
  nd : ws.Nodup
  rng : ∀ x ∈ ws, 0 ≤ x ∧ x < n
  free : ∀ x ∈ ws, ms[x.toNat]? = some none
theorem Mated.start (n : Nat) : Mated n (List.replicate n none) := ⟨List.length_replicate, fun h m e => by
  rw [List.getElem?_replicate] at e
  split at e
  · cases e
  · cases e⟩
theorem Waits.fewer {n : Nat} {ws vs : List Int} {ms : List (Option Int)} (W : Waits n ws ms) (h : vs.Sublist ws) : Waits n vs ms :=
  ⟨W.nd.sublist h, fun x hx => W.rng x (h.subset hx), fun x hx => W.free x (h.subset hx)⟩
theorem Mated.pair {n : Nat} {ms : List (Option Int)} (M : Mated n ms) {a b : Int} (ha : 0 ≤ a ∧ a < n) (hb : 0 ≤ b ∧ b < n) (ne : a ≠ b) (fa : ms[a.toNat]? = some none) (fb : ms[b.toNat]? = some none) :
    Mated n ((ms.set a.toNat (some b)).set b.toNat (some a)) := by
  have la : a.toNat < ms.length := by rw [M.len]; omega
  have lb : b.toNat < ms.length := by rw [M.len]; omega
  refine ⟨by simp [M.len], fun h m e => ?_⟩
  rw [List.getElem?_set, List.length_set] at e
  split at e
  · rename_i eb
    have em : a = m := Option.some.inj (Option.some.inj e)
    subst em
    refine ⟨ha.1, ha.2, by omega, ?_⟩
    rw [List.getElem?_set, if_neg (by omega), List.getElem?_set, if_pos rfl, if_pos la]
    exact congrArg (fun z => some (some z)) (by omega)
  · rename_i eb
    rw [List.getElem?_set] at e
    split at e
    · rename_i ea
      have em : b = m := Option.some.inj (Option.some.inj e)
      subst em
      refine ⟨hb.1, hb.2, by omega, ?_⟩
      rw [List.getElem?_set, List.length_set, if_pos rfl, if_pos lb]
      exact congrArg (fun z => some (some z)) (by omega)
    · rename_i ea
      obtain ⟨h1, h2, h3, h4⟩ := M.ok h m e
      refine ⟨h1, h2, h3, ?_⟩
      have na : a.toNat ≠ m.toNat := fun z => by rw [← z, fa] at h4; cases h4
      have nb : b.toNat ≠ m.toNat := fun z => by rw [← z, fb] at h4; cases h4
      rw [List.getElem?_set, if_neg nb, List.getElem?_set, if_neg na]; exact h4
theorem Waits.pair {n : Nat} {ws : List Int} {ms : List (Option Int)} (W : Waits n ws ms) {a b : Int} (ha : 0 ≤ a) (hb : 0 ≤ b) (na : a ∉ ws) (nb : b ∉ ws) (x y : Option Int) : Waits n ws ((ms.set a.toNat x).set b.toNat y) :=
  ⟨W.nd, W.rng, fun z hz => by
    have := (W.rng z hz).1
    rw [List.getElem?_set, if_neg (fun e => nb (by rw [show b = z by omega]; exact hz)), List.getElem?_set, if_neg (fun e => na (by rw [show a = z by omega]; exact hz))]
    exact W.free z hz⟩
structure SkinOk (on : List Int) (ms : List (Option Int)) : Prop where
  pos : 1 ≤ on.length
  le : on.length ≤ 400
  len : ms.length = on.length
  rng : ∀ x ∈ on, 0 ≤ x ∧ x < on.length
  nd : on.Nodup
  sur : ∀ y : Int, 0 ≤ y → y < on.length → y ∈ on
  ok : ∀ (h : Nat) (m : Int), ms[h]? = some (some m) → 0 ≤ m ∧ m < on.length ∧ m ≠ h ∧ ms[m.toNat]? = some (some (h : Int))
theorem skin_of {n : Nat} {o on : List Int} {ms : List (Option Int)} (h1 : 1 ≤ n) (h2 : n ≤ 400) (O : Ord n o) (S : Sewn n o on) (M : Mated n ms) : SkinOk on ms := by
  have at' : ∀ i (h : i < on.length), on[i] = lk on (i : Int) := fun i h => by
    unfold lk; simp [List.getD_eq_getElem?_getD, List.getElem?_eq_getElem h]
  have inO : ∀ i, i < on.length → (i : Int) ∈ o := fun i h => (O.mem _).mpr ⟨by omega, by rw [S.len] at h; omega⟩
  refine ⟨by rw [S.len]; exact h1, by rw [S.len]; exact h2, by rw [S.len, M.len], fun x hx => ?_, ?_, fun y h0 h1 => ?_, fun h m e => by rw [S.len]; exact M.ok h m e⟩
  · obtain ⟨i, hi, e⟩ := List.getElem_of_mem hx
    rw [S.len, ← e, at' i hi]
    exact (O.mem _).mp (S.into _ (inO i hi))
  · rw [List.nodup_iff_pairwise_ne, List.pairwise_iff_getElem]
    intro i j hi hj hij e
    rw [at' i hi, at' j hj] at e
    have := S.inj _ (inO i hi) _ (inO j hj) e
    omega
  · rw [S.len] at h1
    obtain ⟨x, hx, e⟩ := S.sur y ((O.mem y).mpr ⟨h0, h1⟩)
    have hx' := (O.mem x).mp hx
    have hl : x.toNat < on.length := by rw [S.len]; omega
    exact List.mem_of_getElem? ((lk_get hl).trans (by rw [e]))
end Hs
set_option Elab.async false
set_option linter.all false
set_option maxRecDepth 100000
set_option maxHeartbeats 4000000
namespace Hs
open PySem L2
def But (b : Addr) (H H' : Hp) : Prop := ∀ c o, c ≠ b → H c = some o → H' c = some o
theorem But.refl (b : Addr) (H : Hp) : But b H H := fun _ _ _ h => h
theorem But.put {b p : Addr} {H H' : Hp} {o : HO} (h : But b H H') (hp : p = b ∨ H p = none) : But b H (upd H' p o) := fun c u hc q => by
  rw [upd_ne (fun z => by
    rcases hp with e | e
    · exact hc (z.trans e)
    · rw [z, e] at q; cases q)]
  exact h c u hc q
theorem But.free {b p : Addr} {H H' : Hp} (h : But b H H') (hp : H' p = none) : p = b ∨ H p = none := by
  by_cases e : p = b
  · exact .inl e
  · right
    cases q : H p with
    | none => rfl
    | some u => rw [h p u e q] at hp; cases hp
theorem But.new {b p : Addr} {H H' : Hp} {o : HO} (h : But b H H') (hp : H' p = none) : But b H (upd H' p o) := h.put (h.free hp)
theorem But.newN {b p : Addr} {H H' : Hp} (h : But b H H') (hp : H' p = none) (hb : H b ≠ none) (hne : p ≠ b) : H p = none := (h.free hp).resolve_left hne
theorem But.one {b : Addr} {H H' H2 : Hp} (h : But b H H') (o : Only1 b H' H2) : But b H H2 := fun c u hc q => (o c hc).trans (h c u hc q)
theorem up {H : Hp} {p a : Addr} {o u : HO} (hp : H p = none) (h : H a = some u) : upd H p o a = some u := by rw [upd_ne (ne_of_none h hp)]; exact h
theorem rep_int (k : Nat) (z : Int) : (List.replicate k [V.int z]).flatten = (List.replicate k z).map V.int := by
  induction k with
  | zero => rfl
  | succ k ih => rw [List.replicate_succ, List.flatten_cons, ih]; rfl
theorem rep_non (k : Nat) : (List.replicate k [V.non]).flatten = (List.replicate k (none : Option Int)).map mV := by
  induction k with
  | zero => rfl
  | succ k ih => rw [List.replicate_succ, List.flatten_cons, ih]; rfl
theorem at_ints {ns : List Int} {i : Int} (h0 : 0 ≤ i) (h : i < ns.length) : ∃ v, v ∈ ns ∧ atI (ns.map V.int) i = some (.int v) := by
  have hk : i.toNat < ns.length := by omega
  exact ⟨ns[i.toNat], List.getElem_mem hk, atN h0 (get_int hk)⟩
theorem cut_take (xs : List V) (i : Int) (h0 : 0 ≤ i) : cutV xs none (some i) = xs.take i.toNat := by
  obtain ⟨j, rfl⟩ : ∃ j : Nat, i = (j : Int) := ⟨i.toNat, by omega⟩
  unfold cutV
  rw [HT.sIx_none, HT.sIx_nat, List.drop_zero, Nat.sub_zero, Int.toNat_natCast]
  by_cases h : j ≤ xs.length
  · rw [Nat.min_eq_left h]
  · rw [Nat.min_eq_right (by omega), List.take_of_length_le (Nat.le_refl _), List.take_of_length_le (by omega)]
theorem cut_drop (xs : List V) (i : Int) (h0 : 0 ≤ i) : cutV xs (some i) none = xs.drop i.toNat := by
  obtain ⟨j, rfl⟩ : ∃ j : Nat, i = (j : Int) := ⟨i.toNat, by omega⟩
  unfold cutV
  rw [HT.sIx_none, HT.sIx_nat, Int.toNat_natCast]
  by_cases h : j ≤ xs.length
  · rw [Nat.min_eq_left h, List.take_of_length_le (by rw [List.length_drop]; exact Nat.le_refl _)]
  · rw [Nat.min_eq_right (by omega), List.drop_of_length_le (Nat.le_refl _), List.drop_of_length_le (by omega)]; simp
theorem at_prv {xs : List Int} {i : Nat} (h : i < xs.length) : ∃ v, xs[prv xs.length i]? = some v ∧ atI (xs.map V.int) ((i : Int) - 1) = some (.int v) := by
  have hp := prv_lt h
  refine ⟨xs[prv xs.length i], List.getElem?_eq_getElem hp, ?_⟩
  unfold atI ixN
  rw [List.length_map]
  by_cases e : i = 0
  · subst e
    have e2 : prv xs.length 0 = xs.length - 1 := rfl
    rw [if_neg (by omega), if_pos (by omega)]
    show (xs.map V.int)[(((0 : Nat) : Int) - 1 + (xs.length : Int)).toNat]? = _
    rw [show (((0 : Nat) : Int) - 1 + (xs.length : Int)).toNat = prv xs.length 0 by rw [e2]; omega]
    exact get_int hp
  · rw [if_pos (by omega), if_pos (by omega)]
    show (xs.map V.int)[((i : Int) - 1).toNat]? = _
    have e2 : prv xs.length i = i - 1 := by unfold prv; rw [if_neg e]
    rw [show ((i : Int) - 1).toNat = prv xs.length i by rw [e2]; omega]
    exact get_int hp
theorem ix_nat {n : Nat} {x : Int} (h0 : 0 ≤ x) (h : x < n) : ixN n x = some x.toNat := by
  unfold ixN; rw [if_pos h0, if_pos h]
theorem set_int (l : List Int) (j : Nat) (y : Int) : (l.map V.int).set j (.int y) = (l.set j y).map V.int := by rw [List.map_set]
theorem set_mV (l : List (Option Int)) (j : Nat) (y : Option Int) : (l.map mV).set j (mV y) = (l.set j y).map mV := by rw [List.map_set]
theorem erase_int : ∀ (l : List Int) (j : Nat), (l.map V.int).eraseIdx j = (l.eraseIdx j).map V.int
  | [], _ => rfl
  | _ :: _, 0 => rfl
  | a :: r, j + 1 => by rw [List.map_cons, List.eraseIdx_cons_succ, List.eraseIdx_cons_succ, List.map_cons, erase_int r j]
theorem nd_erase {l : List Int} (h : l.Nodup) {j : Nat} (hj : j < l.length) : l[j] ∉ l.eraseIdx j := fun m => by
  rw [List.mem_eraseIdx_iff_getElem] at m
  obtain ⟨i, hi, hne, e⟩ := m
  exact hne ((List.getElem_inj h).mp e)
theorem ints_to (n : Nat) : intsTo 0 n = ((List.range n).map fun i : Nat => (i : Int)).map V.int := by
  unfold intsTo
  rw [List.map_map]
  exact List.map_congr_left fun i _ => by show V.int (0 + (i : Int)) = V.int (i : Int); rw [Int.zero_add]
theorem ord_range (n : Nat) : Ord n ((List.range n).map fun i : Nat => (i : Int)) := by
  refine ⟨by simp, ?_, fun x => ?_⟩
  · rw [List.nodup_iff_pairwise_ne, List.pairwise_map]
    exact (List.nodup_range (n := n)).imp fun {a b} h => fun e => h (by omega)
  · rw [List.mem_map]
    constructor
    · rintro ⟨i, hi, rfl⟩; have := List.mem_range.mp hi; omega
    · rintro ⟨h0, h1⟩; exact ⟨x.toNat, List.mem_range.mpr (by omega), by omega⟩
section
variable {P : Program} {w : World} {K : PySem.W.Frag} {mg : Str → Option Value} {base : Heap} {f : Addr} {fd : FuncData}
def spSkin : Sp := fun vs H Q _ => ∃ (b : Addr) (x y most : Int), vs = [.ref b, .int most] ∧ H b = some (.lst [.int x, .int y]) ∧ 1 ≤ most ∧ most ≤ 400 ∧
  ∀ (H' : Hp) (p po pm : Addr) (on : List Int) (ms : List (Option Int)) (x' y' : Int), SkinOk on ms → But b H H' → H' b = some (.lst [.int x', .int y']) → H p = none → H po = none → H pm = none →
    H' p = some (.tup [.ref po, .ref pm]) → H' po = some (.tup (on.map V.int)) → H' pm = some (.tup (ms.map mV)) → Q (.ref p) H'
theorem scSkin : FnScope ["bag", "most", "many", "order", "half", "onward", "wide", "left", "mates", "rare", "waiting", "size", "patch", "k", "one", "other"] ["bag", "most"] (defScope sSkin) := ⟨rfl, rfl, rfl, by decide +kernel, rfl, by decide +kernel, by decide +kernel⟩
theorem ok_skin (B : Bi mg) (FT : Fn P w K mg base "_law_take" ["bag", "many"] 1 spTake) (F : Fun K "_law_skin" "_law_skin" sSkin f fd) : FnOk P w K mg base CX0 2 f fd ["bag", "most"] spSkin := by
  refine F.ok scSkin (fun vs H Q E h => ?_) (fun cdv A outer s H vs Q E hr h => ?_)
  · obtain ⟨b, x, y, most, rfl, _⟩ := h; rfl
  obtain ⟨b, x, y, most, rfl, hb, hm1, hm2, q⟩ := h
  refine ⟨_, (pss_cons (ps_set (i := 2) scSkin.nd rfl (Or.inl rfl) (pe_op op_add pe_int (pe_callF FT hr (by decide) (pa_cons (pv 0) (pa_cons (pv 1) pa_nil)))))
   (pss_cons (ps_set (i := 3) scSkin.nd rfl (Or.inl rfl) (pe_lst pa_nil))
   (pss_cons (ps_for PassesOwn.never rfl (pi_range1 rfl B.range_ (pa_cons (pv 2) pa_nil)) (pg_name (i := 4) scSkin.nd rfl (Or.inl rfl))
   (pss_one (ps_expr (pe_bm PySem.F.plainAttrs_list PySem.F.slot_list_insert PySem.F.type_list_insert mt_insert (pv 3) (pa_cons (pe_callF FT hr (by decide) (pa_cons (pv 0) (pa_cons (pe_op op_add (pv 4) pe_int) pa_nil))) (pa_cons (pv 4) pa_nil))))))
   (pss_cons (ps_set (i := 5) scSkin.nd rfl (Or.inl rfl) (pe_op op_rep (pe_lst (pa_cons pe_int pa_nil)) (pv 2)))
   (pss_cons (ps_set (i := 6) scSkin.nd rfl (Or.inl rfl) (pe_ix ix_list (pe_lst (pa_cons (pe_op op_add pe_int (pe_callF FT hr (by decide) (pa_cons (pv 0) (pa_cons pe_int pa_nil)))) (pa_cons pe_int (pa_cons (pv 2) pa_nil)))) (pe_callF FT hr (by decide) (pa_cons (pv 0) (pa_cons pe_int pa_nil))) (fun _ _ => rfl)))
   (pss_cons (ps_set (i := 7) scSkin.nd rfl (Or.inl rfl) (pe_callTy call_list_of rfl B.list_ bt_list (pa_cons (pv 3) pa_nil)))
   (pss_cons (ps_while PassesOwn.never (pt_cmpR (op_neNil hr.units) (pv 7) (pe_lst pa_nil) (nomark _))
   (pss_cons (ps_set (i := 11) scSkin.nd rfl (Or.inl rfl) (pe_callB (call_min2 rfl) rfl B.min_ bt_min (pa_cons (pe_callB call_len_seq rfl B.len_ bt_len (pa_cons (pv 7) pa_nil)) (pa_cons (pe_ix ix_list (pe_lst (pa_cons (pv 6) (pa_cons (pe_op op_add pe_int (pe_callF FT hr (by decide) (pa_cons (pv 0) (pa_cons (pv 6) pa_nil)))) pa_nil))) (pe_callF FT hr (by decide) (pa_cons (pv 0) (pa_cons pe_int pa_nil))) (fun _ _ => rfl)) pa_nil))))
   (pss_cons (ps_set (i := 12) scSkin.nd rfl (Or.inl rfl) (pe_slice sl_list (pv 7) po_none (po_some (pv 11))))
   (pss_cons (ps_set (i := 7) scSkin.nd rfl (Or.inl rfl) (pe_slice sl_list (pv 7) (po_some (pv 11)) po_none))
   (pss_one (ps_for PassesOwn.never rfl (pi_range1 rfl B.range_ (pa_cons (pv 11) pa_nil)) (pg_name (i := 13) scSkin.nd rfl (Or.inl rfl))
   (pss_one (ps_asg (pe_ix ix_list (pv 12) (pv 13) (fun _ _ => rfl)) (pg_sub (pv 5) (pe_ix ix_list (pv 12) (pe_op op_sub (pv 13) pe_int) (fun _ _ => rfl)) set_list)))))))))
   (pss_cons (ps_set (i := 8) scSkin.nd rfl (Or.inl rfl) (pe_op op_rep (pe_lst (pa_cons pe_non pa_nil)) (pv 2)))
   (pss_cons (ps_set (i := 9) scSkin.nd rfl (Or.inl rfl) (pe_ix ix_list (pe_lst (pa_cons pe_int (pa_cons pe_int (pa_cons pe_int pa_nil)))) (pe_callF FT hr (by decide) (pa_cons (pv 0) (pa_cons pe_int pa_nil))) (fun _ _ => rfl)))
   (pss_cons (ps_set (i := 10) scSkin.nd rfl (Or.inl rfl) (pe_callTy (call_list_rng rfl) rfl B.list_ bt_list (pa_cons (pe_callTy call_range1 rfl B.range_ bt_range (pa_cons (pv 2) pa_nil)) pa_nil)))
   (pss_cons (ps_while PassesOwn.never (pt_cmpR op_gt (pe_callB call_len_seq rfl B.len_ bt_len (pa_cons (pv 10) pa_nil)) pe_int (nomark _))
   (pss_cons (ps_set (i := 14) scSkin.nd rfl (Or.inl rfl) (pe_bm PySem.F.plainAttrs_list PySem.F.slot_list_pop PySem.F.type_list_pop mt_popAt (pv 10) (pa_cons (pe_callF FT hr (by decide) (pa_cons (pv 0) (pa_cons (pe_callB call_len_seq rfl B.len_ bt_len (pa_cons (pv 10) pa_nil)) pa_nil))) pa_nil)))
   (pss_cons (ps_set (i := 15) scSkin.nd rfl (Or.inl rfl) (pe_bm PySem.F.plainAttrs_list PySem.F.slot_list_pop PySem.F.type_list_pop mt_popAt (pv 10) (pa_cons (pe_callF FT hr (by decide) (pa_cons (pv 0) (pa_cons (pe_callB call_len_seq rfl B.len_ bt_len (pa_cons (pv 10) pa_nil)) pa_nil))) pa_nil)))
   (pss_one (ps_if (pt_cmpR op_gt (pe_callF FT hr (by decide) (pa_cons (pv 0) (pa_cons (pv 9) pa_nil))) pe_int (nomark _))
   (pss_cons (ps_asg (pv 15) (pg_sub (pv 8) (pv 14) set_list))
   (pss_one (ps_asg (pv 14) (pg_sub (pv 8) (pv 15) set_list))))
   pss_nil)))))
   (pss_one (ps_ret (pe_tup (pa_cons (pe_callTy call_tuple_of rfl B.tuple_ bt_tuple (pa_cons (pv 5) pa_nil)) (pa_cons (pe_callTy call_tuple_of rfl B.tuple_ bt_tuple (pa_cons (pv 8) pa_nil)) pa_nil)))))))))))))))), ?_⟩
  have hbn : H b ≠ none := by rw [hb]; exact fun z => nomatch z
  refine ⟨_, rfl, _, rfl, b, x, y, most, rfl, hb, by omega, by omega, fun r H1 x1 y1 hr0 hr1 hb1 o1 => ⟨_, _, rfl, rfl, ?_⟩⟩
  obtain ⟨n, hn⟩ : ∃ n : Nat, (1 : Int) + r = (n : Int) := ⟨(1 + r).toNat, by omega⟩
  change gName 2 (V.int (1 + r)) _ _ _
  rw [hn]
  have B1 : But b H H1 := (But.refl b H).one o1
  refine ⟨(by show 0 ≤ sizeLine; decide), fun od hod => ?_⟩
  have nod : od ≠ b := (ne_of_none hb1 hod).symm
  have fod : H od = none := B1.newN hod hbn nod
  refine ⟨_, rfl, (n : Int), rfl, by omega, by omega, for_range (lo := 0) (n := (n : Int).toNat)
    (fun i σ H2 => ∃ (v4 : Option V) (o : List Int) (x' y' : Int), σ = [some (.ref b), some (.int most), some (.int (n : Int)), some (.ref od), v4, none, none, none, none, none, none, none, none, none, none, none] ∧
      But b H H2 ∧ H2 b = some (.lst [.int x', .int y']) ∧ H2 od = some (.lst (o.map V.int)) ∧ Ord i o)
    ⟨none, [], x1, y1, rfl, B1.new hod, by rw [upd_ne nod.symm]; exact hb1, upd_same, Ord.nil⟩ ?_ ?_⟩
  · rintro i σ H2 hi ⟨v4, o, x', y', rfl, B2, hb2, ho2, O⟩
    rw [Int.zero_add]
    have ol := O.len
    refine ⟨_, rfl, .inl ⟨rfl, _, SqL.of ho2⟩, _, rfl, _, rfl, _, _, rfl, rfl, b, x', y', _, rfl, hb2, by omega, by omega, fun r2 H3 x2 y2 h20 h21 hb3 o3 => ?_⟩
    have ho3 : H3 od = some (.lst (o.map V.int)) := (o3 od nod).trans ho2
    refine ⟨_, rfl, od, _, r2, _, rfl, rfl, ho3, h20, by rw [List.length_map, ol]; omega, small1000 (by rw [List.length_map, ol]; omega), ?_⟩
    refine ⟨_, o.take r2.toNat ++ (i : Int) :: o.drop r2.toNat, x2, y2, rfl, (B2.one o3).put (.inr fod), ?_, ?_, O.put _⟩
    · rw [upd_ne nod.symm]; exact hb3
    · rw [upd_same, List.map_append, List.map_cons, List.map_take, List.map_drop]
  rintro σ H2 ⟨v4, o, x2, y2, rfl, B2, hb2, ho2, O⟩
  have en : (n : Int).toNat = n := Int.toNat_natCast n
  rw [en] at O
  refine ⟨(by show 1 ≤ sizeLine; decide), fun p1 hp1 => ?_⟩
  refine ⟨_, rfl, p1, (n : Int), _, rfl, rfl, upd_same, by omega, by omega, (by show 1 * (n : Int).toNat ≤ sizeLine; exact lt63 (by omega)), fun nd hnd => ?_⟩
  have hb3 := up hp1 hb2 (o := .lst [.int 0])
  have ho3 := up hp1 ho2 (o := .lst [.int 0])
  have B3 := B2.new hp1 (o := .lst [.int 0])
  have nnd : nd ≠ b := (ne_of_none hb3 hnd).symm
  have fnd : H nd = none := B3.newN hnd hbn nnd
  have ndo : nd ≠ od := (ne_of_none ho3 hnd).symm
  rw [rep_int, en]
  have B4 := B3.new hnd (o := .lst ((List.replicate n 0).map V.int))
  have hb4 := up hnd hb3 (o := .lst ((List.replicate n 0).map V.int))
  have ho4 := up hnd ho3 (o := .lst ((List.replicate n 0).map V.int))
  refine ⟨_, rfl, b, x2, y2, 6, rfl, hb4, by decide, by decide, fun r3 H5 x3 y3 h30 h31 hb5 o5 => ⟨_, _, rfl, rfl, _, rfl, (by show 3 ≤ sizeLine; decide), fun p2 hp2 => ?_⟩⟩
  have ho5 := (o5 od nod).trans ho4
  have hn5 := (o5 nd nnd).trans (upd_same (o := .lst ((List.replicate n 0).map V.int)))
  have B5 := (B4.one o5).new hp2 (o := .lst ([1 + r3, 3, (n : Int)].map V.int))
  refine ⟨_, rfl, b, x3, y3, 3, rfl, up hp2 hb5, by decide, by decide, fun r4 H6 x4 y4 h40 h41 hb6 o6 => ?_⟩
  obtain ⟨wide, hw, hwa⟩ := at_ints (ns := [1 + r3, 3, (n : Int)]) h40 (by show r4 < 3; omega)
  refine ⟨p2, [1 + r3, 3, (n : Int)].map V.int, r4, .int wide, rfl, rfl, SqL.of ((o6 p2 (ne_of_none hb5 hp2).symm).trans upd_same), hwa, ?_⟩
  have hw1 : 1 ≤ wide ∧ wide ≤ 400 := by
    have : wide = 1 + r3 ∨ wide = 3 ∨ wide = (n : Int) := by simpa using hw
    omega
  have B6 := B5.one o6
  have ho6 := (o6 od nod).trans (up hp2 ho5)
  have hn6 := (o6 nd nnd).trans (up hp2 hn5)
  refine ⟨_, rfl, od, _, rfl, .inl (SqL.of ho6), fun lf0 hlf0 => ?_⟩
  have B7 := B6.new hlf0 (o := .lst (o.map V.int))
  refine ⟨fun m σ H7 => ∃ (lf : Addr) (left done onw : List Int) (v11 v12 v13 : Option V) (x' y' : Int), m = left.length ∧
      σ = [some (.ref b), some (.int most), some (.int (n : Int)), some (.ref od), v4, some (.ref nd), some (.int wide), some (.ref lf), none, none, none, v11, v12, v13, none, none] ∧
      But b H H7 ∧ H7 b = some (.lst [.int x', .int y']) ∧ H7 lf = some (.lst (left.map V.int)) ∧ H7 nd = some (.lst (onw.map V.int)) ∧ lf ≠ b ∧ lf ≠ nd ∧ o = done ++ left ∧ Sewn n done onw,
    ⟨_, lf0, o, [], List.replicate n 0, none, none, none, x4, y4, rfl, rfl, B7, up hlf0 hb6, upd_same, up hlf0 hn6, (ne_of_none hb6 hlf0).symm, (ne_of_none hn6 hlf0).symm, rfl, Sewn.nil List.length_replicate⟩, ?_⟩
  · rintro m σ H7 ⟨lf, left, done, onw, v11, v12, v13, x7, y7, rfl, rfl, B7, hb7, hl7, hn7, nlb, nln, eo, S⟩
    have hll : left.length ≤ n := by
      have := congrArg List.length eo
      rw [O.len, List.length_append] at this; omega
    refine ⟨_, rfl, (by show 0 ≤ sizeLine; decide), fun e1 he1 => ⟨lf, e1, left, rfl, rfl, SqL.of (up he1 hl7), SqL.of upd_same, _, rfl, ite2 (fun c => ?_) (fun c => ?_)⟩⟩
    · have hne : left ≠ [] := fun z => by rw [z] at c; cases c
      have hpos : 0 < left.length := List.length_pos_iff.mpr hne
      have B8 := B7.new he1 (o := .lst [])
      have hb8 := up he1 hb7 (o := .lst [])
      have hl8 := up he1 hl7 (o := .lst [])
      have hn8 := up he1 hn7 (o := .lst [])
      refine ⟨_, fun _ _ z => z, ?_⟩
      refine ⟨_, rfl, lf, _, rfl, .inl (SqL.of hl8), _, rfl, _, rfl, _, rfl, b, x7, y7, wide, rfl, hb8, by omega, by omega, fun r9 H9 x9 y9 h90 h91 hb9 o9 => ⟨_, _, rfl, rfl, (by show 2 ≤ sizeLine; decide), fun p3 hp3 => ?_⟩⟩
      refine ⟨_, rfl, b, x9, y9, 2, rfl, up hp3 hb9, by decide, by decide, fun r10 H10 x10 y10 h100 h101 hb10 o10 => ?_⟩
      obtain ⟨sz, hs, hsa⟩ := at_ints (ns := [wide, 1 + r9]) h100 (by show r10 < 2; omega)
      refine ⟨p3, [wide, 1 + r9].map V.int, r10, .int sz, rfl, rfl, SqL.of ((o10 p3 (ne_of_none hb9 hp3).symm).trans upd_same), hsa, _, _, rfl, ?_⟩
      have hs1 : 1 ≤ sz := by
        have : sz = wide ∨ sz = 1 + r9 := by simpa using hs
        omega
      obtain ⟨k, hk⟩ : ∃ k : Nat, (if sz < ((left.map V.int).length : Int) then sz else ((left.map V.int).length : Int)) = (k : Int) := ⟨(if sz < ((left.map V.int).length : Int) then sz else ((left.map V.int).length : Int)).toNat, by split <;> omega⟩
      have hk1 : 1 ≤ k ∧ k ≤ left.length := by rw [List.length_map] at hk; split at hk <;> omega
      rw [hk]
      have B10 := ((B8.one o9).new hp3 (o := .lst ([wide, 1 + r9].map V.int))).one o10
      have hl10 := (o10 lf nlb).trans (up hp3 ((o9 lf nlb).trans hl8) (o := .lst ([wide, 1 + r9].map V.int)))
      have hn10 := (o10 nd nnd).trans (up hp3 ((o9 nd nnd).trans hn8) (o := .lst ([wide, 1 + r9].map V.int)))
      refine ⟨_, rfl, _, rfl, _, rfl, lf, _, rfl, SqL.of hl10, fun pt hpt => ?_⟩
      rw [cut_take _ _ (by omega), Int.toNat_natCast, ← List.map_take]
      refine ⟨_, rfl, _, rfl, _, rfl, lf, _, rfl, SqL.of (up hpt hl10), fun l2 hl2 => ?_⟩
      rw [cut_drop _ _ (by omega), Int.toNat_natCast, ← List.map_drop]
      have ptl : (left.take k).length = k := by rw [List.length_take]; omega
      have B11 := (B10.new hpt (o := .lst ((left.take k).map V.int))).new hl2 (o := .lst ((left.drop k).map V.int))
      have npt : pt ≠ nd := (ne_of_none hn10 hpt).symm
      have npb : pt ≠ b := (ne_of_none hb10 hpt).symm
      have hpt0 := upd_same (H := H10) (a := pt) (o := .lst ((left.take k).map V.int))
      have nl2d : l2 ≠ nd := (ne_of_none (up hpt hn10) hl2).symm
      have ndo2 : (done ++ left.take k ++ left.drop k).Nodup := by rw [List.append_assoc, List.take_append_drop, ← eo]; exact O.nd
      have ndo1 : (done ++ left.take k).Nodup := (List.nodup_append.mp ndo2).1
      have rngo : ∀ z ∈ done ++ left.take k, 0 ≤ z ∧ z < n := fun z hz => (O.mem z).mp (by
        rw [eo]
        rcases List.mem_append.mp hz with h | h
        · exact List.mem_append_left _ h
        · exact List.mem_append_right _ (List.mem_of_mem_take h))
      refine ⟨_, rfl, (k : Int), rfl, by omega, by omega, for_range (lo := 0) (n := (k : Int).toNat)
        (fun i σ H12 => ∃ (onw2 : List Int) (v13 : Option V), σ = [some (.ref b), some (.int most), some (.int (n : Int)), some (.ref od), v4, some (.ref nd), some (.int wide), some (.ref l2), none, none, none, some (.int (k : Int)), some (.ref pt), v13, none, none] ∧
          But b H H12 ∧ H12 b = some (.lst [.int x10, .int y10]) ∧ H12 l2 = some (.lst ((left.drop k).map V.int)) ∧ H12 pt = some (.lst ((left.take k).map V.int)) ∧ H12 nd = some (.lst (onw2.map V.int)) ∧ Sewing n (left.take k) onw i onw2)
        ⟨onw, v13, rfl, B11, up hl2 (up hpt hb10), upd_same, up hl2 hpt0, up hl2 (up hpt hn10), Sewing.start S.len⟩ ?_ ?_⟩
      · rintro i σ H12 hi ⟨onw2, v13', rfl, B12, hb12, hl12, hp12, hn12, T⟩
        rw [Int.zero_add]
        have hi' : i < (left.take k).length := by rw [ptl]; omega
        obtain ⟨u, hu, hua⟩ := at_prv hi'
        have hum := rngo u (List.mem_append_right _ (List.mem_of_getElem? hu))
        have hyi : (left.take k)[i]? = some (left.take k)[i] := List.getElem?_eq_getElem hi'
        refine ⟨_, rfl, _, rfl, pt, _, _, _, rfl, rfl, SqL.of hp12, atI_nat (get_int hi'), _, rfl, _, rfl, _, rfl, _, _, rfl, rfl, pt, _, _, _, rfl, rfl, SqL.of hp12, hua, nd, _, _, _, rfl, rfl, hn12, ix_nat hum.1 (by rw [List.length_map, T.len]; exact hum.2), ?_⟩
        rw [set_int]
        refine ⟨onw2.set u.toNat (left.take k)[i], _, rfl, B12.put (.inr fnd), ?_, ?_, ?_, upd_same, T.turn (List.nodup_append.mp ndo1).2.1 (fun z hz => rngo z (List.mem_append_right _ hz)) hi' hu hyi⟩
        · rw [upd_ne nnd.symm]; exact hb12
        · rw [upd_ne nl2d]; exact hl12
        · rw [upd_ne npt]; exact hp12
      · rintro σ H12 ⟨onw2, v13', rfl, B12, hb12, hl12, hp12, hn12, T⟩
        have T' : Sewing n (left.take k) onw (left.take k).length onw2 := by
          rw [ptl]; rw [Int.toNat_natCast] at T; exact T
        refine ⟨_, ?_, l2, left.drop k, done ++ left.take k, onw2, _, _, v13', x10, y10, rfl, rfl, B12, hb12, hl12, hn12, ?_, nl2d, ?_, S.more T' ndo1 rngo⟩
        · rw [List.length_drop]; omega
        · exact (ne_of_none (up hpt hb10) hl2).symm
        · rw [List.append_assoc, List.take_append_drop]; exact eo
    · have hnil : left = [] := by
        cases left with
        | nil => rfl
        | cons z r => exact absurd rfl c
      subst hnil
      rw [List.append_nil] at eo
      subst eo
      have B8 := B7.new he1 (o := .lst [])
      have hb8 := up he1 hb7 (o := .lst [])
      have hn8 := up he1 hn7 (o := .lst [])
      refine ⟨(by show 1 ≤ sizeLine; decide), fun p4 hp4 => ?_⟩
      refine ⟨_, rfl, p4, (n : Int), _, rfl, rfl, upd_same, by omega, by omega, (by show 1 * (n : Int).toNat ≤ sizeLine; exact lt63 (by omega)), fun md hmd => ?_⟩
      rw [rep_non, en]
      have hb9 := up hp4 hb8 (o := .lst [.non])
      have hn9 := up hp4 hn8 (o := .lst [.non])
      have B9 := B8.new hp4 (o := .lst [.non])
      have nmb : md ≠ b := (ne_of_none hb9 hmd).symm
      have nmd : md ≠ nd := (ne_of_none hn9 hmd).symm
      have fmd : H md = none := B9.newN hmd hbn nmb
      have hb10 := up hmd hb9 (o := .lst ((List.replicate n none).map mV))
      have hn10 := up hmd hn9 (o := .lst ((List.replicate n none).map mV))
      have B10 := B9.new hmd (o := .lst ((List.replicate n none).map mV))
      refine ⟨(by show 3 ≤ sizeLine; decide), fun p5 hp5 => ?_⟩
      refine ⟨_, rfl, b, x7, y7, 3, rfl, up hp5 hb10, by decide, by decide, fun r11 H11 x11 y11 h110 h111 hb11 o11 => ?_⟩
      obtain ⟨rare, hr', hra⟩ := at_ints (ns := [2, 5, 99]) h110 (by show r11 < 3; omega)
      have hr1 : 2 ≤ rare ∧ rare ≤ 99 := by
        have : rare = 2 ∨ rare = 5 ∨ rare = 99 := by simpa using hr'
        omega
      refine ⟨p5, [2, 5, 99].map V.int, r11, .int rare, rfl, rfl, SqL.of ((o11 p5 (ne_of_none hb10 hp5).symm).trans upd_same), hra, ?_⟩
      have hn11 := (o11 nd nnd).trans (up hp5 hn10 (o := .lst ([2, 5, 99].map V.int)))
      have hm11 := (o11 md nmb).trans (up hp5 upd_same (o := .lst ([2, 5, 99].map V.int)))
      have B11 := (B10.new hp5 (o := .lst ([2, 5, 99].map V.int))).one o11
      refine ⟨_, rfl, (n : Int), rfl, fun rg hrg => ⟨rg, 0, (n : Int), rfl, upd_same, by decide, by decide, by omega, by omega, lt63 (by omega), fun wt hwt => ?_⟩⟩
      rw [show ((n : Int) - 0).toNat = n by omega, ints_to]
      have B12 := (B11.new hrg (o := .rng 0 (n : Int))).new hwt (o := .lst (((List.range n).map fun i : Nat => (i : Int)).map V.int))
      have W0 := ord_range n
      refine ⟨fun m σ H12 => ∃ (ws : List Int) (ms : List (Option Int)) (v14 v15 : Option V) (x' y' : Int), m = ws.length ∧ ws.length ≤ n ∧
          σ = [some (.ref b), some (.int most), some (.int (n : Int)), some (.ref od), v4, some (.ref nd), some (.int wide), some (.ref lf), some (.ref md), some (.int rare), some (.ref wt), v11, v12, v13, v14, v15] ∧
          But b H H12 ∧ H12 b = some (.lst [.int x', .int y']) ∧ H12 nd = some (.lst (onw.map V.int)) ∧ H12 md = some (.lst (ms.map mV)) ∧ H12 wt = some (.lst (ws.map V.int)) ∧ Mated n ms ∧ Waits n ws ms,
        ⟨_, (List.range n).map fun i : Nat => (i : Int), List.replicate n none, none, none, x11, y11, rfl, Nat.le_of_eq W0.len, rfl, B12, up hwt (up hrg hb11), up hwt (up hrg hn11), up hwt (up hrg hm11), upd_same, Mated.start n,
          W0.nd, fun z hz => (W0.mem z).mp hz, fun z hz => by
            have := (W0.mem z).mp hz
            rw [List.getElem?_replicate, if_pos (by omega)]⟩, ?_⟩
      have nwb : wt ≠ b := (ne_of_none (up hrg hb11) hwt).symm
      have nwd : wt ≠ nd := (ne_of_none (up hrg hn11) hwt).symm
      have nwm : wt ≠ md := (ne_of_none (up hrg hm11) hwt).symm
      have fwt : H wt = none := (B11.new hrg (o := .rng 0 (n : Int))).newN hwt hbn nwb
      rintro m σ H12 ⟨ws, ms, v14, v15, x12, y12, rfl, wlen, rfl, B12, hb12, hn12, hm12, hw12, M, W⟩
      refine ⟨_, rfl, wt, _, rfl, .inl (SqL.of hw12), _, _, rfl, rfl, _, rfl, ite2 (fun c => ?_) (fun c => ?_)⟩
      · have c' : 1 < ws.length := by
          have := of_decide_eq_true c
          rw [List.length_map] at this; omega
        refine ⟨_, fun _ _ z => z, ?_⟩
        refine ⟨_, rfl, .inl ⟨rfl, _, SqL.of hw12⟩, _, rfl, _, rfl, wt, _, rfl, .inl (SqL.of hw12), b, x12, y12, _, rfl, hb12, by rw [List.length_map]; omega, by rw [List.length_map]; omega, fun r13 H13 x13 y13 h130 h131 hb13 o13 => ?_⟩
        rw [List.length_map] at h131
        have hw13 := (o13 wt nwb).trans hw12
        have k13 : r13.toNat < ws.length := by omega
        refine ⟨wt, _, r13, r13.toNat, _, rfl, rfl, hw13, by omega, by omega, PySem.seqIndex_of h130 (by rw [List.length_map]; omega), get_int k13, ?_⟩
        rw [erase_int]
        have l14 : (ws.eraseIdx r13.toNat).length + 1 = ws.length := by rw [List.length_eraseIdx_of_lt k13]; omega
        have hw14 := upd_same (H := H13) (a := wt) (o := .lst ((ws.eraseIdx r13.toNat).map V.int))
        have hb14 : upd H13 wt (.lst ((ws.eraseIdx r13.toNat).map V.int)) b = _ := (upd_ne nwb.symm).trans hb13
        refine ⟨_, rfl, .inl ⟨rfl, _, SqL.of hw14⟩, _, rfl, _, rfl, wt, _, rfl, .inl (SqL.of hw14), b, x13, y13, _, rfl, hb14, by rw [List.length_map]; omega, by rw [List.length_map]; omega, fun r15 H15 x15 y15 h150 h151 hb15 o15 => ?_⟩
        rw [List.length_map] at h151
        have hw15 := (o15 wt nwb).trans hw14
        have k15 : r15.toNat < (ws.eraseIdx r13.toNat).length := by omega
        refine ⟨wt, _, r15, r15.toNat, _, rfl, rfl, hw15, by omega, by omega, PySem.seqIndex_of h150 (by rw [List.length_map]; omega), get_int k15, ?_⟩
        rw [erase_int]
        have l16 : ((ws.eraseIdx r13.toNat).eraseIdx r15.toNat).length + 1 = (ws.eraseIdx r13.toNat).length := by rw [List.length_eraseIdx_of_lt k15]; omega
        have B16 : But b H (upd H15 wt (.lst (((ws.eraseIdx r13.toNat).eraseIdx r15.toNat).map V.int))) := (((B12.one o13).put (.inr fwt)).one o15).put (.inr fwt)
        have hb16 : upd H15 wt (.lst (((ws.eraseIdx r13.toNat).eraseIdx r15.toNat).map V.int)) b = _ := (upd_ne nwb.symm).trans hb15
        have hw16 := upd_same (H := H15) (a := wt) (o := .lst (((ws.eraseIdx r13.toNat).eraseIdx r15.toNat).map V.int))
        have hn16 : upd H15 wt (.lst (((ws.eraseIdx r13.toNat).eraseIdx r15.toNat).map V.int)) nd = _ := (upd_ne nwd.symm).trans ((o15 nd nnd).trans ((upd_ne nwd.symm).trans ((o13 nd nnd).trans hn12)))
        have hm16 : upd H15 wt (.lst (((ws.eraseIdx r13.toNat).eraseIdx r15.toNat).map V.int)) md = _ := (upd_ne nwm.symm).trans ((o15 md nmb).trans ((upd_ne nwm.symm).trans ((o13 md nmb).trans hm12)))
        have s1 : (ws.eraseIdx r13.toNat).Sublist ws := List.eraseIdx_sublist _ _
        have s2 : ((ws.eraseIdx r13.toNat).eraseIdx r15.toNat).Sublist (ws.eraseIdx r13.toNat) := List.eraseIdx_sublist _ _
        have W2 := W.fewer (s2.trans s1)
        have aW := W.rng _ (List.getElem_mem k13)
        have bW := W.rng _ (s1.subset (List.getElem_mem k15))
        have naE : ws[r13.toNat] ∉ ws.eraseIdx r13.toNat := nd_erase W.nd k13
        have nab : ws[r13.toNat] ≠ (ws.eraseIdx r13.toNat)[r15.toNat] := fun z => naE (z ▸ List.getElem_mem k15)
        refine ⟨_, rfl, _, rfl, b, x15, y15, rare, rfl, hb16, by omega, by omega, fun r17 H17 x17 y17 h170 h171 hb17 o17 => ⟨_, _, rfl, rfl, _, rfl, ite2 (fun c => ?_) (fun c => ?_)⟩⟩
        · have hm17 := (o17 md nmb).trans hm16
          refine ⟨_, rfl, _, rfl, _, rfl, md, _, _, _, rfl, rfl, hm17, ix_nat aW.1 (by rw [List.length_map, M.len]; exact aW.2), ?_⟩
          refine ⟨_, rfl, _, rfl, _, rfl, md, _, _, _, rfl, rfl, upd_same, ix_nat bW.1 (by rw [List.length_set, List.length_map, M.len]; exact bW.2), ?_⟩
          rw [show V.int (ws.eraseIdx r13.toNat)[r15.toNat] = mV (some (ws.eraseIdx r13.toNat)[r15.toNat]) from rfl, set_mV, show V.int ws[r13.toNat] = mV (some ws[r13.toNat]) from rfl, set_mV]
          refine ⟨_, ?_, (ws.eraseIdx r13.toNat).eraseIdx r15.toNat, (ms.set ws[r13.toNat].toNat (some (ws.eraseIdx r13.toNat)[r15.toNat])).set (ws.eraseIdx r13.toNat)[r15.toNat].toNat (some ws[r13.toNat]), _, _, x17, y17, rfl, by omega, rfl, ((B16.one o17).put (.inr fmd)).put (.inr fmd), ?_, ?_, upd_same, ?_, ?_, ?_⟩
          · omega
          · rw [upd_ne nmb.symm, upd_ne nmb.symm]; exact hb17
          · rw [upd_ne nmd.symm, upd_ne nmd.symm]; exact (o17 nd nnd).trans hn16
          · rw [upd_ne nwm, upd_ne nwm]; exact (o17 wt nwb).trans hw16
          · exact M.pair aW bW nab (W.free _ (List.getElem_mem k13)) (W.free _ (s1.subset (List.getElem_mem k15)))
          · exact W2.pair aW.1 bW.1 (fun z => naE (s2.subset z)) (nd_erase (W.nd.sublist s1) k15) _ _
        · exact ⟨_, (by omega : ((ws.eraseIdx r13.toNat).eraseIdx r15.toNat).length < ws.length), (ws.eraseIdx r13.toNat).eraseIdx r15.toNat, ms, _, _, x17, y17, rfl, by omega, rfl, B16.one o17, hb17, (o17 nd nnd).trans hn16, (o17 md nmb).trans hm16, (o17 wt nwb).trans hw16, M, W2⟩
      ·
        refine ⟨_, rfl, nd, _, rfl, .inl ⟨SqL.of hn12, fun po hpo => ⟨_, rfl, md, _, rfl, .inl ⟨SqL.of (up hpo hm12), fun pm hpm => ⟨(by show 2 ≤ sizeLine; decide), fun p hp => ?_⟩⟩⟩⟩⟩
        have C1 := B12.new hpo (o := .tup (onw.map V.int))
        have C2 := C1.new hpm (o := .tup (ms.map mV))
        have e1 : po ≠ b := (ne_of_none hb12 hpo).symm
        have e2 : pm ≠ b := (ne_of_none (up hpo hb12) hpm).symm
        have e3 : p ≠ b := (ne_of_none (up hpm (up hpo hb12)) hp).symm
        exact q _ p po pm onw ms x12 y12 (skin_of (by omega) (by omega) O S M) (C2.new hp) (up hp (up hpm (up hpo hb12))) (C2.newN hp hbn e3) (B12.newN hpo hbn e1) (C1.newN hpm hbn e2) upd_same (up hp (up hpm upd_same)) (up hp upd_same)
end
end Hs
set_option Elab.async false
set_option linter.all false
set_option maxRecDepth 100000
set_option maxHeartbeats 4000000
namespace L2
open PySem PySem.Spec PyProof.Rows
section
variable {prog : Program} {w : World} {A : Around} {E : Value → Shared → Prop} {s : Shared}
open AutoSeq1 (wpAny_loadPart') in
open AutoSeq1 (wpAny_loadPart') in
end
section
variable {X : Cx}
variable {K : PySem.W.Frag}
theorem op_notIn_seqK (hK : X.K = K) : OpR X (compareOp .NotIn) (rIn K true) := by subst hK; exact op_notIn_seq
theorem ix_listK (hK : X.K = K) : IxR X (rIxL K) := by subst hK; exact ix_list
theorem ix_tupK (hK : X.K = K) : IxR X (rIxT K) := by subst hK; exact ix_tup
end
end L2
set_option Elab.async false
set_option linter.all false
set_option maxRecDepth 100000
set_option maxHeartbeats 4000000
namespace L2
open PySem PySem.Spec PyProof.Rows
mutual
theorem Dp.same {K : PySem.W.Frag} {H H' : Hp} (s : Same H H') : ∀ (d : PyData) (v : V), Dp K H v d → Dp K H' v d
  | .none, _, h => by cases h; exact .non
  | .bool b, _, h => by cases h; exact .bl b
  | .int i, _, h => by cases h; exact .int i
  | .str x, _, h => by cases h; exact .str x
  | .list ds, _, h => by
    cases h with
    | lst hs ha => exact .lst (s.seq hs) (DpAll.same s ds _ ha)
  | .tuple ds, _, h => by
    cases h with
    | tup hs ha =>
      refine .tup ?_ (DpAll.same s ds _ ha)
      rcases hs with (h | ⟨o, h⟩) | h
      · exact .inl (.inl (s _ _ h))
      · exact .inl (.inr ⟨o, s _ _ h⟩)
      · exact .inr h
  | .dict _, _, h => by cases h
theorem DpAll.same {K : PySem.W.Frag} {H H' : Hp} (s : Same H H') : ∀ (ds : List PyData) (vs : List V), DpAll K H vs ds → DpAll K H' vs ds
  | [], _, h => by cases h; exact .nil
  | d :: ds, _, h => by
    cases h with
    | cons h1 h2 => exact .cons (Dp.same s d _ h1) (DpAll.same s ds _ h2)
end
section
variable {K : PySem.W.Frag} {H H' : Hp}
theorem DpAll.len : ∀ {vs : List V} {ds : List PyData}, DpAll K H vs ds → vs.length = ds.length
  | _, _, .nil => rfl
  | _, _, .cons _ t => by rw [List.length_cons, List.length_cons, DpAll.len t]
theorem DpAll.get : ∀ {vs : List V} {ds : List PyData} {i : Nat} {v : V}, DpAll K H vs ds → vs[i]? = some v → ∃ d, ds[i]? = some d ∧ Dp K H v d
  | _, _, _, _, .nil, e => by simp at e
  | _, _, 0, _, .cons r _, e => by simp at e; subst e; exact ⟨_, rfl, r⟩
  | _, _, i + 1, v, .cons _ t, e => by
    obtain ⟨d, h1, h2⟩ := DpAll.get (i := i) (v := v) t (by simpa using e)
    exact ⟨d, by simpa using h1, h2⟩
theorem DpAll.take : ∀ {vs : List V} {ds : List PyData} (n : Nat), DpAll K H vs ds → DpAll K H (vs.take n) (ds.take n)
  | _, _, 0, _ => .nil
  | _, _, _ + 1, .nil => .nil
  | _, _, n + 1, .cons r t => .cons r (DpAll.take n t)
theorem DpAll.drop : ∀ {vs : List V} {ds : List PyData} (n : Nat), DpAll K H vs ds → DpAll K H (vs.drop n) (ds.drop n)
  | _, _, 0, r => r
  | _, _, _ + 1, .nil => .nil
  | _, _, n + 1, .cons _ t => DpAll.drop n t
def kdD : PyData → Kd
  | .none => .non | .bool _ => .bool | .int _ => .int | .str _ => .str | .list _ => .lst | .tuple _ => .tup | .dict _ => .non
theorem Dp.kind {v : V} {d : PyData} (h : Dp K H v d) : KindV K H v (kdD d) := by
  cases h with
  | non => rfl
  | bl _ => rfl
  | int _ => rfl
  | str _ => rfl
  | lst hs _ => exact .inr ⟨rfl, _, hs⟩
  | tup hs _ => exact .inl ⟨rfl, _, hs⟩
end
mutual
def wd : PyData → Nat
  | .tuple ds => max ds.length (wdAll ds)
  | .list ds => max ds.length (wdAll ds)
  | _ => 0
def wdAll : List PyData → Nat
  | [] => 0
  | d :: r => max (wd d) (wdAll r)
end
structure Gd (k : Nat) (d : PyData) : Prop where
  lay : d.canLay0 = true
  dp : d.depth ≤ k
  wide : wd d ≤ 400 + k
theorem Gd.mono {j k : Nat} {d : PyData} (g : Gd j d) (h : j ≤ k) : Gd k d := ⟨g.lay, Nat.le_trans g.dp h, Nat.le_trans g.wide (by omega)⟩
def GdA (k : Nat) (ds : List PyData) : Prop := ∀ d ∈ ds, Gd k d
theorem gdA_lay {k : Nat} : ∀ {ds : List PyData}, GdA k ds → PyData.canLayAll0 ds = true
  | [], _ => by simp [PyData.canLayAll0]
  | d :: r, g => by
    rw [PyData.canLayAll0, (g d (by simp)).lay, gdA_lay (fun x hx => g x (by simp [hx]))]; rfl
theorem gdA_dp {k : Nat} : ∀ {ds : List PyData}, GdA k ds → PyData.depthAll ds ≤ k
  | [], _ => by simp [PyData.depthAll]
  | d :: r, g => by
    have h1 := (g d (by simp)).dp
    have h2 := gdA_dp (k := k) (ds := r) (fun x hx => g x (by simp [hx]))
    rw [PyData.depthAll]; omega
theorem gdA_wd {k : Nat} : ∀ {ds : List PyData}, GdA k ds → wdAll ds ≤ 400 + k
  | [], _ => by simp [wdAll]
  | d :: r, g => by
    have h1 := (g d (by simp)).wide
    have h2 := gdA_wd (k := k) (ds := r) (fun x hx => g x (by simp [hx]))
    rw [wdAll]; omega
theorem Gd.tup {k : Nat} {ds : List PyData} (g : GdA k ds) (h : ds.length ≤ 401 + k) : Gd (k + 1) (.tuple ds) :=
  ⟨by rw [PyData.canLay0]; exact gdA_lay g, by have := gdA_dp g; rw [PyData.depth]; omega, by have := gdA_wd g; rw [wd]; omega⟩
theorem Gd.lst {k : Nat} {ds : List PyData} (g : GdA k ds) (h : ds.length ≤ 401 + k) : Gd (k + 1) (.list ds) :=
  ⟨by rw [PyData.canLay0]; exact gdA_lay g, by have := gdA_dp g; rw [PyData.depth]; omega, by have := gdA_wd g; rw [wd]; omega⟩
theorem Gd.shaped {k : Nat} {d : PyData} (g : Gd k d) (h : k ≤ 64) : SeqAt.shaped d = true := by
  unfold SeqAt.shaped
  rw [Bool.and_eq_true]
  exact ⟨g.lay, decide_eq_true (Nat.le_trans g.dp h)⟩
theorem same_put {H : Hp} {p : Addr} (h : H p = none) (o : HO) : Same H (upd H p o) := fun b u q => by rw [upd_ne (ne_of_none q h)]; exact q
section
variable {K : PySem.W.Frag}
end
theorem PE.by {X : Cx} {e : Expr} {t u : TE} (h : PE X e t) (i : ∀ σ H Q, u σ H Q → t σ H Q) : PE X e u := fun pins s σ H Q I q => h pins s σ H Q I (i σ H Q q)
theorem PA.by {X : Cx} {e : List Expr} {t u : TA} (h : PA X e t) (i : ∀ σ H Q, u σ H Q → t σ H Q) : PA X e u := fun pos pins s σ H Q I q => h pos pins s σ H Q I (i σ H Q q)
theorem PS.by {X : Cx} {e : Stmt} {t u : TS} (h : PS X e t) (i : ∀ D σ H, u D σ H → t D σ H) : PS X e u := fun pins s σ H D I q => h pins s σ H D I (i D σ H q)
end L2
set_option Elab.async false
set_option maxRecDepth 20000
namespace Hs
open PySem PySem.Spec PyProof.Rows L2
structure Exo (h : Heap) (e : Addr) (cls : Value) (od : Option Addr) (vs : Array Value) : Prop where
  here : ∃ sl, h.get? e = some ⟨cls, od, .fields vs, sl⟩
  ctx : vs[2]? = some .none
def Tra (h : Heap) (e : Addr) (vs : Array Value) : Prop :=
  vs[1]? = some .none ∨ ∃ T oT ts, vs[1]? = some (.ref T) ∧ T ≠ e ∧ h.get? T = some oT ∧ oT.data = .fields ts ∧ ts[3]? = some .none
theorem arr_same {a : Array Value} {i : Nat} {x : Value} (e : a[i]? = some x) : a.setIfInBounds i x = a := by
  apply Array.ext_getElem?
  intro j
  rw [Array.getElem?_setIfInBounds]
  split
  · rename_i hij; subst hij
    rw [e]
    obtain ⟨hl, _⟩ := Array.getElem?_eq_some_iff.mp e
    simp [hl]
  · rfl
theorem obj_same {o : Obj} {ts : Array Value} {i : Nat} {x : Value} (d : o.data = .fields ts) (e : ts[i]? = some x) : o.mapFields (·.setIfInBounds i x) = o := by
  obtain ⟨c, dd, dt, sl⟩ := o
  have d : dt = .fields ts := d
  subst d
  show (⟨c, dd, .fields (ts.setIfInBounds i x), sl⟩ : Obj) = _
  rw [arr_same e]
theorem hupd_same {h : Heap} {T : Addr} {o : Obj} {f : Obj → Obj} (e : h.get? T = some o) (hf : f o = o) (b : Addr) : (h.update T f).get? b = h.get? b := by
  by_cases q : b = T
  · subst q
    rw [Heap.get?_update_self f e (by rw [hf]; exact (Heap.get?_some_iff.mp e).2), hf, e]
  · exact Heap.get?_update_other _ _ (Ne.symm q)
structure Noted (fs : List Addr) (e : Addr) (cls : Value) (od : Option Addr) (h h' : Heap) : Prop where
  keep : ∀ b o, b ≠ e → b ∉ fs → h.get? b = some o → h'.get? b = some o
  slot : ∀ b o, b ∈ fs → h.get? b = some o → ∃ sl, h'.get? b = some { o with slots := sl }
  exo : ∃ vs, Exo h' e cls od vs ∧ Tra h' e vs
section
variable {M : Model} {A : Around} {E : Value → Shared → Prop} {s : Shared}
theorem land_same {e : Addr} {cls : Value} {od : Option Addr} {vs : Array Value} {Q : Unit → Shared → Prop} (x : Exo s.heap e cls od vs) (t : Tra s.heap e vs)
    (h : ∀ h', (∀ b, h'.get? b = s.heap.get? b) → Q () { s with heap := h' }) : wpAny M A (setFlight (.ref e) none) Q E s := by
  obtain ⟨⟨sl, he⟩, hc⟩ := x
  unfold setFlight
  rcases t with h1 | ⟨T, oT, ts, h1, hTe, hT, hdT, h3⟩
  · refine wpAny_bind (wpAny_field he rfl h1 ?_)
    rw [if_neg (by decide)]
    exact wpAny_pure (h s.heap fun _ => rfl)
  · refine wpAny_bind (wpAny_field he rfl h1 ?_)
    rw [if_pos (show (Value.ref T != Value.none) = true from by simp)]
    exact wpAny_setField hT hdT (Array.getElem?_eq_some_iff.mp h3).1 (h _ fun b => hupd_same hT (obj_same hdT h3) b)
theorem entry_land {base : Heap} {env : Env} {outer : List Env} {L e : Addr} {cls head : Value} {od : Option Addr} {vs : Array Value} {hn : Bool} {Q : Unit → Shared → Prop}
    (hfr : A.frames = some (env :: outer)) (hl : s.heap.FunFrames base (env :: outer)) (hf : env.frame = some L) (x : Exo s.heap e cls od vs)
    (h : ∀ h', Noted (frs (env :: outer)) e cls od s.heap h' → Q () { s with heap := h' }) :
    wpAny M A (do let a ← frameOf env; let pl ← entryPlaceOf L hn; let b ← EntryCells.newEntry head a .none (rawInt L) .none pl; setField (.ref e) 1 b)
      (fun _ s' => wpAny M A (setFlight (.ref e) none) Q E s') E s := by
  obtain ⟨⟨sl, he⟩, hc⟩ := x
  have hsz : 2 < vs.size := (Array.getElem?_eq_some_iff.mp hc).1
  have nfr : e ∉ frs (env :: outer) := fun hm => by
    obtain ⟨_, o, ho, hnf⟩ := hl.mem hm
    rw [he] at ho; cases ho
    exact hnf vs rfl
  refine wpAny_bind (wpAny_frameOf_fun hfr hl hf fun g hg => ?_)
  refine wpAny_bind (wpAny_entryPlaceOf fun pl hpl => ?_)
  unfold EntryCells.newEntry newFields
  refine wpAny_bind (wpAny_newObj_type ?_ (hpl.sizeOk5 _ _ _ _ _))
  generalize hnt : ([head, .ref L, .none, rawInt L, .none] ++ (if pl.isEmpty then List.replicate 6 Value.none else pl)).toArray = nt
  have nt3 : 3 < nt.size := by rw [← hnt]; simp only [List.size_toArray, List.length_append, List.length_cons, List.length_nil] <;> omega
  have g1 : g.get? e = some ⟨cls, od, .fields vs, sl⟩ := (hg.2.1 e nfr).trans he
  have g2 := Heap.get?_push_of_some (h := g) { cls := .type "traceback", dict := none, data := .fields nt } g1
  refine wpAny_setField g2 rfl (Nat.lt_of_succ_lt hsz) ?_
  have ne : g.objs.size ≠ e := Nat.ne_of_gt (Heap.lt_size g1)
  have g3 := Heap.get?_update_self (Obj.mapFields (·.setIfInBounds 1 (Value.ref g.objs.size))) g2 rfl
  have t3 := (Heap.get?_update_other (g.push { cls := .type "traceback", dict := none, data := .fields nt }) (Obj.mapFields (·.setIfInBounds 1 (Value.ref g.objs.size))) (Ne.symm ne)).trans (Heap.get?_push_size g rfl)
  unfold setFlight
  have v1 : (vs.setIfInBounds 1 (Value.ref g.objs.size))[1]? = some (.ref g.objs.size) := by
    have z : 1 < vs.size := by omega
    simp [z]
  refine wpAny_bind (wpAny_field (i := 1) g3 (vs := vs.setIfInBounds 1 (.ref g.objs.size)) rfl v1 ?_)
  rw [if_pos (show (Value.ref g.objs.size != Value.none) = true from by simp)]
  refine wpAny_setField t3 rfl nt3 (h _ ?_)
  have same : ∀ b o, b ≠ e → g.get? b = some o → ((((g.push { cls := .type "traceback", dict := none, data := .fields nt }).update e (Obj.mapFields (·.setIfInBounds 1 (Value.ref g.objs.size)))).update g.objs.size (Obj.mapFields (·.setIfInBounds 3 ((none : Option Addr).elim Value.none fun f => rawInt f))))).get? b = some o := fun b o hb q => by
    rw [Heap.get?_update_other _ _ (Nat.ne_of_gt (Heap.lt_size q)), Heap.get?_update_other _ _ (Ne.symm hb)]
    exact Heap.get?_push_of_some _ q
  refine ⟨fun b o h1 h2 q => same b o h1 ((hg.2.1 b h2).trans q), fun b o h1 q => ?_, vs.setIfInBounds 1 (.ref g.objs.size), ⟨⟨sl, ?_⟩, ?_⟩, .inr ⟨g.objs.size, _, nt.setIfInBounds 3 .none, ?_, ne, Heap.get?_update_self _ t3 rfl, rfl, ?_⟩⟩
  · obtain ⟨z, hz⟩ := hg.2.2 b o q
    exact ⟨z, same b _ (fun k => nfr (k ▸ h1)) hz⟩
  · rw [Heap.get?_update_other _ _ ne]; exact g3
  · rw [Array.getElem?_setIfInBounds_ne (by decide)]; exact hc
  · exact v1
  · simp [nt3]
theorem note_land {base : Heap} {env : Env} {outer : List Env} {L e : Addr} {cls : Value} {od : Option Addr} {vs : Array Value} {Q : Unit → Shared → Prop}
    (hfr : A.frames = some (env :: outer)) (hl : s.heap.FunFrames base (env :: outer)) (hf : env.frame = some L) (x : Exo s.heap e cls od vs) (t : Tra s.heap e vs)
    (h : ∀ h', Noted (frs (env :: outer)) e cls od s.heap h' → Q () { s with heap := h' }) :
    wpAny M A (noteFrame (.ref e) env) (fun _ s' => wpAny M A (setFlight (.ref e) none) Q E s') E s := by
  obtain ⟨⟨sl, he⟩, hc⟩ := x
  unfold noteFrame
  simp only [hf]
  rcases t with h1 | ⟨T, oT, ts, h1, hTe, hT, hdT, h3⟩
  · refine wpAny_bind (wpAny_field he rfl h1 ?_)
    rw [if_neg (by decide)]
    exact entry_land hfr hl hf ⟨⟨sl, he⟩, hc⟩ h
  · refine wpAny_bind (wpAny_field he rfl h1 ?_)
    rw [if_pos (show (Value.ref T != Value.none) = true from by simp)]
    refine wpAny_bind (wpAny_field hT hdT h3 ?_)
    rw [if_neg (show ¬ ((Value.none == rawInt L) = true) from by simp [rawInt])]
    refine wpAny_bind (wpAny_setField hT hdT (Array.getElem?_eq_some_iff.mp h3).1 ?_)
    have sm := fun b => hupd_same hT (f := Obj.mapFields (·.setIfInBounds 3 Value.none)) (obj_same hdT h3) b
    refine entry_land (s := { s with heap := s.heap.update T (Obj.mapFields (·.setIfInBounds 3 Value.none)) }) hfr (hl.of_keeps fun b o q _ => ⟨o, (sm b).trans q, rfl⟩) hf ⟨⟨sl, (sm e).trans he⟩, hc⟩ fun h' n => ?_
    exact h h' ⟨fun b o h1 h2 q => n.keep b o h1 h2 ((sm b).trans q), fun b o h1 q => n.slot b o h1 ((sm b).trans q), n.exo⟩
theorem leave_land {base : Heap} {env : Env} {outer : List Env} {L e : Addr} {cls : Value} {od : Option Addr} {vs : Array Value} {Q : Unit → Shared → Prop}
    (hfr : A.frames = some (env :: outer)) (hl : s.heap.FunFrames base (env :: outer)) (hf : env.frame = some L) (x : Exo s.heap e cls od vs) (t : Tra s.heap e vs)
    (h : ∀ h', Noted (frs (env :: outer)) e cls od s.heap h' → Q () { s with heap := h' }) : wpAny M A (leaving env (.ref e)) Q E s := by
  unfold leaving
  exact wpAny_bind (note_land hfr hl hf x t h)
end
end Hs
set_option Elab.async false
set_option linter.all false
set_option maxRecDepth 100000
namespace Hs
open PySem PySem.Spec PyProof.Rows L2
def CXf (P : Program) (w : World) : CXT := fun outer H s E ev s' => ∃ e cls od H' vs, ev = .ref e ∧ s'.os = s.os ∧ AllBare s'.gens ∧ Un (frs outer) [] H H' s.heap s'.heap ∧ HOk P w H' s'.heap ∧
  s.heap.get? e = none ∧ H' e = none ∧ Exo s'.heap e cls od vs ∧ Tra s'.heap e vs ∧ E cls od H'
section
variable {X : Cx} {pins : List (Addr × Obj)} {σ : L2.St} {H H' : Hp} {s s' : Shared} {e : Addr} {cls : Value} {od : Option Addr}
structure Off (X : Cx) (pins : List (Addr × Obj)) (H : Hp) (e : Addr) : Prop where
  free : H e = none
  loc : e ≠ X.env.locals
  old : X.s_0.heap.get? e = none
  cell : ∀ x c, X.env.cells.lookup x = some c → c ≠ e
  pin : ∀ p ∈ X.pn ++ pins, p.1 ≠ e
theorem off_of (I : Inv X pins σ H s) (hx : X.ex = []) (n : s.heap.get? e = none) (hn : H' e = none) : Off X pins H' e := by
  refine ⟨hn, fun z => ?_, ?_, fun x c q z => ?_, fun p hp z => ?_⟩
  · obtain ⟨m, ⟨o, _, _, ho, _⟩, _⟩ := I.loc
    rw [← z, n] at ho; cases ho
  · cases q : X.s_0.heap.get? e with
    | none => rfl
    | some o =>
      obtain ⟨o', z⟩ := I.base.there e o q (by rw [hx]; simp)
      rw [n] at z; cases z
  · obtain ⟨v, o, ho, _⟩ := I.cell x c q
    rw [z, n] at ho; cases ho
  · have := (I.pin p hp).1
    rw [z, n] at this; cases this
theorem noted_inv {h' : Heap} (J : Inv X pins σ H s) (f : Off X pins H e) (n : Noted (frs X.stack) e cls od s.heap h') : Inv X pins σ H { s with heap := h' } := by
  have sne : ∀ b u, H b = some u → b ≠ e := fun b u q z => by rw [z, f.free] at q; cases q
  have snf : ∀ b u, H b = some u → b ∉ frs X.stack := fun b u q z => by rw [J.stkFree b z] at q; cases q
  have any : ∀ b o, b ≠ e → s.heap.get? b = some o → ∃ sl, h'.get? b = some { o with slots := sl } := fun b o hb q => by
    by_cases hf : b ∈ frs X.stack
    · exact n.slot b o hf q
    · exact ⟨o.slots, n.keep b o hb hf q⟩
  have cel : ∀ c v, c ≠ e → s.heap.IsCell c v → Heap.IsCell h' c v := fun c v hc ⟨o, ho, hd⟩ => by
    obtain ⟨sl, z⟩ := any c o hc ho
    exact ⟨_, z, hd⟩
  have old : ∀ b o, X.s_0.heap.get? b = some o → b ≠ e := fun b o q z => by rw [z, f.old] at q; cases q
  refine ⟨J.ok, J.os, J.bare, ⟨fun b o q z hb hx => ?_, fun b o q z hb hx => ?_, J.base.free, fun b o q hx => ?_, J.base.tups, J.base.frzs, J.base.tbls⟩, ?_, fun x c q => ?_, J.free, J.freeC, fun p hp => ?_, fun a o q => ?_, J.len⟩
  · refine n.keep b o (old b o q) (fun w => ?_) (J.base.keep b o q z hb hx)
    rcases List.mem_cons.mp (J.stkSub b w) with w | w
    · have h1 := Heap.lt_size q
      rw [w] at h1
      exact absurd (Nat.lt_of_lt_of_le h1 J.ok.above) (Nat.lt_irrefl _)
    · exact hb w
  · obtain ⟨sl, w⟩ := J.base.slot b o q z hb hx
    obtain ⟨sl', w'⟩ := any b _ (old b o q) w
    exact ⟨sl', w'⟩
  · obtain ⟨o', w⟩ := J.base.there b o q hx
    obtain ⟨sl', w'⟩ := any b _ (old b o q) w
    exact ⟨_, w'⟩
  · obtain ⟨m, ⟨o, es, ep, ho, hd, r⟩, hl⟩ := J.loc
    obtain ⟨sl, z⟩ := any _ o (Ne.symm f.loc) ho
    refine ⟨m, ⟨_, es, ep, z, hd, r⟩, fun i x v h1 h2 h3 => ?_⟩
    obtain ⟨u, ru, lk⟩ := hl i x v h1 h2 h3
    refine ⟨u, ru, ?_⟩
    rcases lk with lk | ⟨k, c, hc, ic⟩
    · exact .inl lk
    · exact .inr ⟨k, c, hc, cel c _ (f.cell x c hc) ic⟩
  · obtain ⟨v, ic⟩ := J.cell x c q
    exact ⟨v, cel c v (f.cell x c q) ic⟩
  · obtain ⟨p1, p2, p3, p4, p5⟩ := J.pin p hp
    refine ⟨n.keep _ _ (f.pin p hp) (fun w => ?_) p1, p2, p3, p4, p5⟩
    rcases List.mem_cons.mp (J.stkSub _ w) with w | w
    · exact p3 w
    · exact p4 w
  · refine (J.hok a o q).stay (fun b u hb r => ?_) (fun _ z => z) fun _ _ z => z
    rcases hb with rfl | hb
    · exact n.keep b u (sne b _ q) (snf b _ q) r
    · exact n.keep b u (sne b _ hb) (snf b _ hb) r
theorem cxf_inv {E : XK} {ev : Value} (I : Inv X pins σ H s) (hx : X.ex = []) (c : CXf X.prog X.w X.stack H s E ev s') :
    ∃ e cls od H' vs, ev = .ref e ∧ Inv X pins σ H' s' ∧ Off X pins H' e ∧ Exo s'.heap e cls od vs ∧ Tra s'.heap e vs ∧ E cls od H' := by
  obtain ⟨e, cls, od, H', vs, rfl, os, bare, un, hok, hlo, hn, x, t, q⟩ := c
  exact ⟨e, cls, od, H', vs, rfl, I.call' (ch := []) os un hok bare (fun b hb => absurd hb (by simp)), off_of I hx hlo hn, x, t, q⟩
def Good (X : Cx) (E : L2.St → XK) : Prop := ∀ (pins : List (Addr × Obj)) (σ : L2.St) (H : Hp) (s : Shared) (ev : Value) (s' : Shared), Inv X pins σ H s → CXf X.prog X.w X.stack H s (E σ) ev s' → X.xe ev s'
end
theorem good_fn {P : Program} {w : World} {K : PySem.W.Frag} {mg : Str → Option Value} {base : Heap} {N : List Str} {qual : Str} {scope : Scope} {f : Addr} {cd : Value} {A : Around} {outer : List Env} {s : Shared} {H : Hp} {E : XK} :
    Good (cxOf (CXf P w) P w K mg base N qual scope f cd A outer s H E) (fun _ => E) := by
  intro pins σ H1 s1 ev s2 I c
  obtain ⟨e, cls, od, H', vs, rfl, J, fp, x, t, q⟩ := cxf_inv I rfl c
  show wpAny _ _ (leaving _ (.ref e)) _ _ s2
  refine leave_land (base := base) J.ok.frames J.stack rfl x t fun h' n => ?_
  have J' := noted_inv J fp n
  obtain ⟨vs', x', t'⟩ := n.exo
  exact ⟨e, cls, od, H', vs', rfl, J'.os, J'.bare, J'.base, J'.hok, fp.old, fp.free, x', t', q⟩
structure FnX (P : Program) (w : World) (K : PySem.W.Frag) (mg : Str → Option Value) (base : Heap) (x : Str) (ps : List Str) (k : Nat) (sp : Sp) : Prop where
  ex : ∃ f fd, FnOk P w K mg base (CXf P w) k f fd ps sp ∧ Binds K fd ps [] ∧ PySem.W.keepIn K (.ref f) = true ∧ mg x = some (.ref f)
section
variable {X : Cx} {x : Str} {ps : List Str} {k j : Nat} {sp : Sp} {e : Expr} {es : List Expr} {t : TA} {p pos : Pos} {E : L2.St → XK}
def tCallX (sp : Sp) (E : L2.St → XK) (t : TA) : TE := fun σ H Q => t σ H fun vs H1 => sp vs H1 Q (E σ)
theorem pe_callX (F : FnX X.prog X.w X.K X.mg X.base x ps k sp) (hr : Room j X.A) (hk : k ≤ j) (G : Good X E) (ha : PA X (e :: es) t) (hg : Gl X x := by rfl) (hdb : (x == ("__debug__" : Str)) = false := by decide)
    (he : starEach (e :: es) X.env = (false, eval e X.env) :: starEach es X.env := by rfl) (hpl : (backTo pos (starEach es X.env)).any (·.1) = false := by rfl) : PE X (.Call (.Name x p) (e :: es) [] pos) (tCallX sp E t) := by
  obtain ⟨f, fd, FO, b, kp, m⟩ := F.ex
  intro pins s σ H Q I h
  refine wpAny_Call_Name_kw (ld_glob I hg m ?_ hdb)
  refine PySem.W.callWith_K (h₀ := X.base) I.ok.mod.kin kp (thn (ha pos pins s σ H _ I h) fun us s1 ⟨vs, H1, I1, r, q⟩ => ⟨I1.kIn, ?_⟩) he hpl
  have hl : us.length = ps.length := by rw [← r.length]; exact FO.len _ _ _ _ q
  have hb := b s1 us I1.kIn (by rw [List.append_nil]; exact hl)
  rw [List.append_nil] at hb
  refine wpAny_call (codeAny_mono (FO.run X.A X.stack s1 H1 ⟨us, []⟩ us vs Q (E σ) (hr.mono hk) I1.env0 hb r q) fun r s' hq => ?_)
  cases r with
  | error e => exact G pins σ H1 s1 e s' I1 hq
  | ok fl =>
    cases fl with
    | ret u => exact I1.after hq
    | next => exact False.elim hq
    | brk => exact False.elim hq
    | cont => exact False.elim hq
end
theorem FunX.ok {P : Program} {w : World} {K : PySem.W.Frag} {mg : Str → Option Value} {base : Heap} {x qual : Str} {st : Stmt} {f : Addr} {fd : FuncData} {N ps : List Str} {k : Nat} {sp : Sp} (F : Fun K x qual st f fd) (S : FnScope N ps (defScope st)) (len : ∀ vs H Q E, sp vs H Q E → vs.length = ps.length)
    (hbody : ∀ (cdv : Value) (A : Around) (outer : List Env) (s : Shared) (H : Hp) (vs : List V) (Q : VK) (E : XK), Room k (A.deeper (envOfC qual (defScope st) s.heap.objs.size f cdv)) → sp vs H Q E →
      Good (cxOf (CXf P w) P w K mg base N qual (defScope st) f cdv A outer s H E) (fun _ => E) →
      ∃ t, PSs (cxOf (CXf P w) P w K mg base N qual (defScope st) f cdv A outer s H E) (defBody st) t ∧ t { nx := fun _ H' => Q .non H', rt := Q } (start N vs) H) : FnOk P w K mg base (CXf P w) (k + 1) f fd ps sp := by
  obtain ⟨oc, od, kV, doc, pm, an, cdv, ct, osl, rfl, lk, hcd⟩ := F.ex
  exact L2.fn_of lk hcd S len fun A outer s H vs Q E hr hsp => hbody cdv A outer s H vs Q E hr hsp good_fn
end Hs
set_option Elab.async false
set_option linter.all false
set_option maxRecDepth 100000
namespace L2
open PySem PySem.Spec PyProof.Rows
section
variable {X : Cx}
def PJ (X : Cx) (es : List Expr) (t : St → Hp → (Hp → Prop) → Prop) : Prop := ∀ (n : Nat) (out : Str) (pins : List (Addr × Obj)) (s : Shared) (σ : St) (H : Hp) (Q : Hp → Prop), n + es.length ≤ 100 → out.length ≤ n * 2000 → Inv X pins σ H s → t σ H Q →
  wpAny (model X.prog X.w) X.A (joinParts out (evalEach es X.env)) (fun v s' => ∃ txt tk H', v = .str txt tk ∧ Inv X pins σ H' s' ∧ Q H') X.xe s
theorem line_of {n m k : Nat} (h : n + m ≤ 100) (e : k ≤ n * 2000) : k ≤ sizeLine := by
  rw [sizeLine_eq]; omega
theorem pj_nil : PJ X [] (fun σ H Q => Q H) := fun n out pins s σ H Q hn ho I h =>
  joinParts_nil ⟨out, _, H, rfl, I.tok _, h⟩ (line_of (m := 0) (by simpa using hn) ho)
theorem pj_raw {e : Expr} {es : List Expr} {te : TE} {t : St → Hp → (Hp → Prop) → Prop} (he : PE X e te) (r : PJ X es t) : PJ X (e :: es) (fun σ H Q => te σ H fun x H1 => ∃ c, x = .str c ∧ c.length ≤ 2000 ∧ t σ H1 Q) := fun n out pins s σ H Q hn ho I h => by
  have hn' : n + 1 + es.length ≤ 100 := by have : (e :: es).length = es.length + 1 := rfl; omega
  show wpAny _ _ (joinParts out (eval e X.env :: evalEach es X.env)) _ _ s
  refine joinParts_cons (thn (he pins s σ H _ I h) fun v s1 ⟨x, H1, I1, rv, c, hx, hc, q⟩ => ?_)
  subst hx
  obtain ⟨tk, rfl⟩ := rv
  have hl : (out ++ c).length ≤ (n + 1) * 2000 := by rw [strLen_append]; omega
  exact ⟨line_of hn' hl, r (n + 1) (out ++ c) pins s1 σ H1 Q hn' hl I1 q⟩
theorem pj_int {e : Expr} {es : List Expr} {te : TE} {t : St → Hp → (Hp → Prop) → Prop} {pos : Pos} (he : PE X e te) (r : PJ X es t) : PJ X (.FormattedValue e (-1) none pos :: es) (fun σ H Q => te σ H fun x H1 => ∃ i : Int, x = .int i ∧ i.natAbs.log2 < 1920 ∧ t σ H1 Q) := fun n out pins s σ H Q hn ho I h => by
  have hn' : n + 1 + es.length ≤ 100 := by have : (Expr.FormattedValue e (-1) none pos :: es).length = es.length + 1 := rfl; omega
  show wpAny _ _ (joinParts out (eval (.FormattedValue e (-1) none pos) X.env :: evalEach es X.env)) _ _ s
  refine joinParts_cons (FormattedValue_plain (thn (he pins s σ H _ I h) fun v s1 ⟨x, H1, I1, rv, i, hx, hc, q⟩ => ?_))
  subst hx
  obtain ⟨tk, rfl⟩ := rv
  have e1 := int_text_length_le (k := 1920) (by decide) hc
  have hl : (out ++ Str.ofString (toString i)).length ≤ (n + 1) * 2000 := by rw [strLen_append, PySem.ofString_length]; omega
  exact formatField_int_small hc ⟨line_of hn' hl, r (n + 1) _ pins _ σ H1 Q hn' hl (I1.tok _) q⟩
def tFstr (t : St → Hp → (Hp → Prop) → Prop) : TE := fun σ H Q => t σ H fun H1 => ∀ txt, Q (.str txt) H1
theorem pe_fstr {v1 v2 : Expr} {vs : List Expr} {pos : Pos} {t : St → Hp → (Hp → Prop) → Prop} (h : PJ X (v1 :: v2 :: vs) t) (hl : (v1 :: v2 :: vs).length ≤ 100 := by decide) : PE X (.JoinedStr (v1 :: v2 :: vs) pos) (tFstr t) := fun pins s σ H Q I hq =>
  JoinedStr_many (thn (h 0 Str.empty pins s σ H _ (by simpa using hl) (by decide) I hq) fun v s' ⟨txt, tk, H', e, I', q⟩ => ⟨.str txt, H', I', ⟨tk, e⟩, q txt⟩)
end
end L2
namespace Hs
open PySem PySem.Spec PyProof.Rows L2
theorem objOk_there {P : Program} {w : World} {H : Hp} {h : Heap} {a : Addr} {o : HO} (x : ObjOk P w H h a o) (n : h.get? a = none) : False := by
  cases o with
  | lst xs => obtain ⟨_, _, _, _, e⟩ := x; rw [n] at e; cases e
  | tup xs => obtain ⟨_, _, _, _, e, _⟩ := x; rw [n] at e; cases e
  | dK kvs => obtain ⟨_, _, _, _, o, _, _, e, _⟩ := x; rw [n] at e; cases e
  | dT kvs => obtain ⟨_, _, _, _, o, _, _, e, _⟩ := x; rw [n] at e; cases e
  | set S k => obtain ⟨o, _, _, _, e, _⟩ := x; rw [n] at e; cases e
  | ins C dx fs => obtain ⟨_, _, _, e, _⟩ := x; rw [n] at e; cases e
  | own y => obtain ⟨_, e⟩ := x; rw [n] at e; cases e
  | xd fs => obtain ⟨_, ⟨_, _, _, e, _⟩, _⟩ := x; rw [n] at e; cases e
  | rng lo hi => obtain ⟨_, _, _, e⟩ := x; rw [n] at e; cases e
  | frz ob u => obtain ⟨e, _⟩ := x; rw [n] at e; cases e
  | tbl ps => have e : h.get? a = some _ := x; rw [n] at e; cases e
  | met f y => have e : h.get? a = some _ := x; rw [n] at e; cases e
  | ext φ => obtain ⟨_, ⟨_, e⟩, _⟩ := x; rw [n] at e; cases e
abbrev vbm : List Value := [.type "ValueError", .type "Exception", .type "BaseException", .type "object"]
abbrev OwnE (K : PySem.W.Frag) (C : Addr) : Prop := PySem.W.excIn K C vbm "ValueError.__new__" = true
theorem own_obj {K : PySem.W.Frag} {h : Heap} {C : Addr} {x : Str} {mg : Str → Option Value} (kin : K.In h) (own : OwnE K C) (m : mg x = some (.ref C)) : OwnCls x C vbm "ValueError.__new__" mg h := by
  constructor
  · exact m
  have own : PySem.W.excIn K C vbm "ValueError.__new__" = true := own
  unfold PySem.W.excIn at own
  split at own
  next dct cdt slt look =>
    split at own
    next C2 tl s0 s1 s2 s3 nw s5 mroEq slEq =>
      rw [Bool.and_eq_true, Bool.and_eq_true, Bool.and_eq_true, Bool.and_eq_true, Bool.and_eq_true] at own
      obtain ⟨⟨⟨⟨⟨e1, e2⟩, e3⟩, e4⟩, e5⟩, e6⟩ := own
      have e1 : C2 = C := beq_iff_eq.mp e1
      have e2 : nw = "ValueError.__new__" := beq_iff_eq.mp e2
      have e6 := beq_iff_eq.mp e6
      subst e1 e2
      obtain ⟨nm, bs, mro, ns, qn, hdd, sn, sub, ab, col, del⟩ := cdt
      have e3 : del = false := by simpa using e3
      have mroEq : mro = .ref C2 :: tl := mroEq
      subst e3 mroEq
      obtain rfl : slt = #[s0, s1, s2, s3, some (.builtin "ValueError.__new__"), s5] := by
        cases slt with
        | mk l => exact congrArg Array.mk slEq
      exact ⟨tl, ns, nm, qn, bs, hdd, sn, sub, ab, col, dct, s0, s1, s2, s3, s5, _, kin _ _ look, .of_isNs (PySem.W.isNs_of_in kin e5), PySem.W.nsMap_none_of_in kin e5 e6, PySem.W.tail_of_in kin e4⟩
    next => cases own
  next => cases own
section
variable {X : Cx} {E : L2.St → XK} {C : Addr} {x : Str} {np cpos pos : Pos} {a : Expr} {as : List Expr} {t : TA}
def tRaise (C : Addr) (E : L2.St → XK) (t : TA) : TS := fun _ σ H => t σ H fun vs H1 => vs.length ≤ 100 ∧ E σ (.ref C) none H1
theorem ps_raise (hc : X.calm = true) (own : OwnE X.K C) (hm : X.mg x = some (.ref C)) (G : Good X E) (ha : PA X (a :: as) t) (hg : Gl X x := by rfl) (hdb : (x == ("__debug__" : Str)) = false := by decide)
    (he : starEach (a :: as) X.env = (false, eval a X.env) :: starEach as X.env := by rfl) (hpl : (backTo cpos (starEach as X.env)).any (·.1) = false := by rfl) : PS X (.Raise (some (.Call (.Name x np) (a :: as) [] cpos)) none pos) (tRaise C E t) := by
  intro pins s σ H D I h
  have O := own_obj I.ok.mod.kin own hm
  obtain ⟨tl, N, nm, q, bs, hdct, sn, sub, ab, col, dd, k0, k1, k2, k3, k5, mN, hC, hN, hni, T⟩ := O.obj
  refine wpAny_Raise_call_subT (nm := nm) (q := q) (C := C) (N := N) (bs := bs) (bm := tl)
    (hdct := hdct) (sn := sn) (sub := sub) (ab := ab) (col := col)
    (dd := dd) (k0 := k0) (k1 := k1) (k2 := k2) (k3 := k3) (k5 := k5) PySem.F.excBase_ValueError (mN := mN) (T.hasType PySem.F.excBase_ValueError.hasBase) (I.ok.hd hc) (by rw [he]; show (false || (backTo cpos (starEach as X.env)).any (·.1)) = false; rw [hpl]; rfl) hni (ld_glob I hg hm ⟨rfl, ?_⟩ hdb)
  have hp := ha cpos pins s σ H _ I h
  rw [he] at hp ⊢
  refine Calls.evalArgs_plain (thn hp fun us s2 ⟨vs, H1, I1, r, hz, q⟩ => ⟨rfl, ?_, I1.bk _ _ hC, hN.keeps I1.bk, T.keeps I1.bk, fun h' e hm => ?_⟩)
  · show us.length ≤ sizeLine
    rw [← r.length, sizeLine_eq]; omega
  · obtain ⟨tt, het, htn, _⟩ := hm.there
    have hn : H1 e = none := by
      cases z : H1 e with
      | none => rfl
      | some u =>
        have lt := (I1.hok e u z)
        exact absurd hm.new (by
          intro w
          exact objOk_there lt w)
    exact G pins σ H1 s2 _ _ I1 ⟨e, .ref C, none, H1, _, rfl, rfl, I1.bare, Un.kept hm.keeps, I1.hok.kept hm.keeps, hm.new, hn, ⟨⟨_, het⟩, rfl⟩, .inl rfl, q⟩
end
end Hs
set_option Elab.async false
set_option linter.all false
set_option maxRecDepth 100000
namespace Hs
open PySem PySem.Spec PyProof.Rows L2
def Rec (oe : Obj) (cls : Value) (od : Option Addr) : Prop := ∃ vs sl, oe = ⟨cls, od, .fields vs, sl⟩ ∧ vs[2]? = some .none
abbrev hdl (X : Cx) (e : Addr) (oe : Obj) : Cx := { X with A := X.A.mark (some (.ref e)), calm := false, pn := X.pn ++ [(e, oe)], xe := fun _ _ => False }
abbrev inTry (X : Cx) (pn : List (Addr × Obj)) (xe : Value → Shared → Prop) : Cx := { X with pn := pn, xe := xe }
section
variable {X : Cx} {pins : List (Addr × Obj)} {σ : L2.St} {H : Hp} {s : Shared} {e : Addr} {oe : Obj} {cls : Value} {od : Option Addr}
theorem inv_try (I : L2.Inv X pins σ H s) (xe : Value → Shared → Prop) : L2.Inv (inTry X (X.pn ++ pins) xe) [] σ H s :=
  ⟨⟨I.ok.mod, I.ok.kind, I.ok.glob, I.ok.blt, I.ok.above, I.ok.inj, I.ok.has, I.ok.cab, I.ok.hd, I.ok.frames, I.ok.stk, I.ok.exf, I.ok.bs, I.ok.bsz, I.ok.noex, I.ok.exfs, I.ok.funs, I.ok.frf⟩,
    I.os, I.bare, I.base, I.loc, I.cell, I.free, I.freeC, fun p hp => I.pin p (by simpa using hp), I.hok, I.len⟩
theorem inv_untry {pins1 : List (Addr × Obj)} {xe : Value → Shared → Prop} (I : L2.Inv (inTry X (X.pn ++ pins) xe) pins1 σ H s) : L2.Inv X pins σ H s :=
  ⟨⟨I.ok.mod, I.ok.kind, I.ok.glob, I.ok.blt, I.ok.above, I.ok.inj, I.ok.has, I.ok.cab, I.ok.hd, I.ok.frames, I.ok.stk, I.ok.exf, I.ok.bs, I.ok.bsz, I.ok.noex, I.ok.exfs, I.ok.funs, I.ok.frf⟩,
    I.os, I.bare, I.base, I.loc, I.cell, I.free, I.freeC, fun p hp => I.pin p (List.mem_append_left _ hp), I.hok, I.len⟩
theorem inv_hdl (I : L2.Inv X pins σ H s) (f : Off X pins H e) (he : s.heap.get? e = some oe) (hd : ∃ vs, oe.data = .fields vs) : L2.Inv (hdl X e oe) pins σ H s := by
  refine ⟨⟨I.ok.mod, I.ok.kind, I.ok.glob, I.ok.blt, I.ok.above, I.ok.inj, I.ok.has, I.ok.cab, fun z => (Bool.false_ne_true z).elim, I.ok.frames, I.ok.stk, I.ok.exf, I.ok.bs, I.ok.bsz, I.ok.noex, I.ok.exfs, I.ok.funs, I.ok.frf⟩,
    I.os, I.bare, I.base, I.loc, I.cell, I.free, I.freeC, fun p hp => ?_, I.hok, I.len⟩
  rcases List.mem_append.mp hp with z | z
  · rcases List.mem_append.mp z with z | z
    · exact I.pin p (List.mem_append_left _ z)
    · have z : p = (e, oe) := by simpa using z
      subst z
      refine ⟨he, f.free, f.loc, fun w => ?_, fun v q => ?_⟩
      · obtain ⟨_, o, ho, _⟩ := I.ok.funs.mem w
        have ho : X.s_0.heap.get? e = some o := ho
        rw [f.old] at ho; cases ho
      · obtain ⟨vs, hd⟩ := hd
        have q : oe.data = .cell v := q
        rw [hd] at q; cases q
  · exact I.pin p (List.mem_append_right _ z)
theorem inv_same {h' : Heap} (I : L2.Inv X pins σ H s) (k : ∀ b, h'.get? b = s.heap.get? b) : L2.Inv X pins σ H { s with heap := h' } :=
  I.call' (s' := { s with heap := h' }) (ch := []) rfl (Un.kept fun b o q => (k b).trans q) (I.hok.kept fun b o q => (k b).trans q) I.bare fun b hb => absurd hb (by simp)
theorem inv_gone {i : Nat} {n : Str} {v : Option Value} {m : Str → Option Value} {h' : Heap} {tk : Nat} (hok : X.Ok) (hpn : ∀ p ∈ X.pn, p ∈ (hdl X e oe).pn) (J : L2.Inv (hdl X e oe) pins σ H s) (hN : X.N.Nodup) (hi : X.N[i]? = some n)
    (hm : ∀ (j : Nat) (x : Str) (v : V), X.N[j]? = some x → σ[j]? = some (some v) → Vis X.env.scope x → ∃ u, RelV v u ∧ Look X.env s.heap m x u)
    (hns : h'.Ns X.env.locals (fun x => if x = n then v else m x)) (sb : Heap.SameBut X.env.locals s.heap h') : L2.Inv X pins (σ.set i none) H { s with heap := h', toks := tk } := by
  have fr : H X.env.locals = none := J.free
  have kp : ∀ b o, b ≠ X.env.locals → s.heap.get? b = some o → h'.get? b = some o := fun b o hb q => (sb.2 b hb).trans q
  have lo : ∀ b o, X.s_0.heap.get? b = some o → b ≠ X.env.locals := fun b o q z => by
    have h1 := Heap.lt_size q
    rw [z] at h1
    exact absurd (Nat.lt_of_lt_of_le h1 J.ok.above) (Nat.lt_irrefl _)
  have cne : ∀ x c, X.env.cells.lookup x = some c → c ≠ X.env.locals := J.cne
  refine ⟨hok, J.os, J.bare, ⟨fun b o q z hb hx => kp b o (lo b o q) (J.base.keep b o q z hb hx), fun b o q z hb hx => ?_, J.base.free, fun b o q hx => ?_, J.base.tups, J.base.frzs, J.base.tbls⟩, ⟨_, hns, fun j x u h1 h2 h3 => ?_⟩, fun x c q => ?_, J.free, J.freeC, fun p hp => ?_, fun a o q => ?_, ?_⟩
  · obtain ⟨sl, w⟩ := J.base.slot b o q z hb hx
    exact ⟨sl, kp b _ (lo b o q) w⟩
  · obtain ⟨o', w⟩ := J.base.there b o q hx
    exact ⟨o', kp b _ (lo b o q) w⟩
  · have hji : j ≠ i := fun z => by
      subst z
      by_cases hl : j < σ.length
      · rw [List.getElem?_set_self hl] at h2; cases h2
      · rw [List.getElem?_eq_none (by simpa using hl)] at h2; cases h2
    rw [List.getElem?_set_ne (Ne.symm hji)] at h2
    obtain ⟨w, r, lk⟩ := hm j x u h1 h2 h3
    have hxn : x ≠ n := fun z => hji (nodup_ix hN h1 (by rw [z]; exact hi))
    refine ⟨w, r, ?_⟩
    rcases lk with ⟨k, q⟩ | ⟨k, c, hc, o, ho, hd⟩
    · exact .inl ⟨k, by show (if x = n then v else m x) = _; rw [if_neg hxn]; exact q⟩
    · exact .inr ⟨k, c, hc, o, kp c o (cne x c hc) ho, hd⟩
  · obtain ⟨w, o, ho, hd⟩ := J.cell x c q
    exact ⟨w, o, kp c o (cne x c q) ho, hd⟩
  · have hp' : p ∈ (hdl X e oe).pn ++ pins := by
      rcases List.mem_append.mp hp with z | z
      · exact List.mem_append_left _ (hpn p z)
      · exact List.mem_append_right _ z
    obtain ⟨p1, p2, p3, p4, p5⟩ := J.pin p hp'
    exact ⟨kp _ _ p3 p1, p2, p3, p4, p5⟩
  · refine (J.hok a o q).stay (fun b u hb r => kp b u (fun z => ?_) r) (fun _ z => z) fun _ _ z => z
    rcases hb with hb | hb
    · rw [z] at hb; rw [← hb, fr] at q; cases q
    · rw [z, fr] at hb; cases hb
  · rw [List.length_set]; exact J.len
end
section
variable {X : Cx} {E : L2.St → XK} {S : Addr} {x n : Str} {np hpos pos : Pos} {b0 : Stmt} {body suite : List Stmt} {tb : TS} {th : Addr → Obj → TS} {i : Nat}
end
end Hs
set_option Elab.async false
set_option linter.all false
set_option maxRecDepth 100000
namespace Hs
open PySem PySem.Spec PyProof.Rows L2
theorem plain_unchain : plainId "proto.unchain" = true := by decide +kernel
theorem entry_unchain : entryFor table "proto.unchain" = some Builtin.«proto.unchain» := entryFor_of_tree (by kernel_rfl)
def Quiet (A : Around) (h : Heap) : Prop := A.handled = none ∨ ∃ e oe cls od, A.handled = some (.ref e) ∧ h.get? e = some oe ∧ Rec oe cls od
section
variable {prog : Program} {w : World} {A : Around} {E : Value → Shared → Prop} {s : Shared}
theorem unchain_none {e h : Addr} {oh : Obj} {vs : Array Value} {Q : Value → Shared → Prop} (ho : s.heap.get? h = some oh) (hd : oh.data = .fields vs) (h2 : vs[2]? = some .none) (k : Q .none s) :
    wpAny (model prog w) A (runValue (.builtin "proto.unchain" ⟨[.ref e, .ref h, .ref h, .bool false], []⟩)) Q E s := by
  refine wpAny_runValue (codeAny_builtin entry_unchain ?_)
  rw [Around.under_plainId plain_unchain _]
  show wpAny _ _ (field (.ref h) 2 >>= _) _ _ s
  refine wpAny_bind (wpAny_field ho hd h2 ?_)
  show wpAny _ _ (if (Value.none == Value.none) = true then _ else _) _ _ s
  rw [if_pos (by decide)]
  exact wpAny_pure k
theorem raise_quiet {α : Type} {ea : Addr} {oe : Obj} {ve : Array Value} {Q : α → Shared → Prop} (qt : Quiet A s.heap) (he : s.heap.get? ea = some oe) (hde : oe.data = .fields ve) (hz : 2 < ve.size) (hx : ∀ e oe cls od, A.handled = some (.ref e) → s.heap.get? e = some oe → Rec oe cls od → e ≠ ea)
    (k : ∀ h' oe', (∀ b, b ≠ ea → h'.get? b = s.heap.get? b) → h'.get? ea = some oe' → oe'.cls = oe.cls → E (.ref ea) { s with heap := h' }) : wpAny (model prog w) A (raiseNew (.ref ea) : Sem α) Q E s := by
  unfold raiseNew
  refine wpAny_bind (wpAny_handled ?_)
  rcases qt with hh | ⟨h, oh, cls, od, hh, ho, rc⟩
  · rw [hh]
    exact wpAny_bind (wpAny_pure (wpAny_throw (k s.heap oe (fun _ _ => rfl) he rfl)))
  · have hne := hx h oh cls od hh ho rc
    obtain ⟨vs, sl, rfl, h2⟩ := rc
    rw [hh]
    dsimp only
    rw [if_pos (show (Value.ref h != Value.ref ea) = true from by simp [hne])]
    refine wpAny_bind (wpAny_holding (unchain_none ho rfl h2 (wpAny_bind ?_)))
    show wpAny _ _ (setField (.ref ea) 2 (.ref h)) _ _ s
    refine wpAny_setField he hde hz (wpAny_throw (k _ _ (fun b hb => Heap.get?_update_other _ _ (Ne.symm hb)) (Heap.get?_update_self _ he (Obj.isFreed_of_fields (Obj.data_mapFields hde _))) (Obj.cls_mapFields _ _)))
theorem range_end_q {it : Addr} {x left step : Int} {Q : Option Value → Shared → Prop} (qt : Quiet A s.heap) (hit : IsRangeIter s.heap it x left step) (hleft : left ≤ 0)
    (k : ∀ h', (∀ b o, s.heap.get? b = some o → h'.get? b = some o) → Q none { s with heap := h' }) : wpAny (model prog w) A (pyNext (.ref it)) Q E s := by
  have ty : s.TypeIs (.ref it) "range_iterator" := ⟨_, hit, rfl⟩
  unfold pyNext
  refine wpAny_bind (wpAny_attempt (wpAny_callSpecial?_slot (name := Str.ofString "__next__") ty F.slot_range_iterator_next (wpAny_call_entry F.slot_range_iterator_next ty F.entry_range_iterator_next ?_ (F.args_range_iterator_next_1 _))))
  show wpAny _ _ (do let a ← field (.ref it) 0; _) _ _ s
  refine wpAny_bind (wpAny_field (x := rawInt x) hit rfl rfl ?_)
  show wpAny _ _ (do let a ← field (.ref it) 1; _) _ _ s
  refine wpAny_bind (wpAny_field (x := rawInt left) hit rfl rfl ?_)
  show wpAny _ _ (do let a ← field (.ref it) 2; _) _ _ s
  refine wpAny_bind (wpAny_field (x := rawInt step) hit rfl rfl ?_)
  show wpAny _ _ (ite (left ≤ 0) _ _) _ _ s
  rw [if_pos hleft]
  refine wpAny_bind (wpAny_rule (wpAny_bind ?_))
  show wpAny _ _ (do let e ← newExc (.type "StopIteration") []; _) _ _ _
  refine wpAny_bind ?_
  simp only [newExc, newTuple]
  refine wpAny_bind (wpAny_newObj_type ?_ (by size_fits))
  refine wpAny_bind (m := firstArgMember _ _) (wpAny_of_eq (a := .none) (by first | rfl | (simp only [firstArgMember]; rfl)) ?_)
  refine wpAny_newObj_type ?_ (by size_fits)
  generalize hT : s.heap.push { cls := .type "tuple", data := .seq ([] : List Value).toArray } = hp1
  have k1 : ∀ b o, s.heap.get? b = some o → hp1.get? b = some o := fun b o q => by rw [← hT]; exact Heap.get?_push_of_some _ q
  have szs : s.heap.objs.size < hp1.objs.size := by rw [← hT, Heap.size_push]; exact Nat.lt_succ_self _
  refine raise_quiet ?_ (Heap.get?_push_size _ rfl) rfl ?_ ?_ ?_
  · rcases qt with q | ⟨e, oe, cls, od, q1, q2, q3⟩
    · exact .inl q
    · exact .inr ⟨e, oe, cls, od, q1, Heap.get?_push_of_some _ (k1 _ _ q2), q3⟩
  · rw [Array.size_append]
    exact Nat.lt_of_lt_of_le (by show 2 < 6; decide) (Nat.le_add_right _ _)
  · intro e oe cls od q1 q2 q3 z
    rcases qt with q | ⟨e', oe', cls', od', w1, w2, w3⟩
    · have q1 : A.handled = _ := q1
      rw [q] at q1; cases q1
    · have q1 : A.handled = _ := q1
      rw [w1] at q1
      have q1 : e' = e := by cases q1; rfl
      subst q1
      have lt := Heap.lt_size w2
      rw [z] at lt
      exact absurd (Nat.lt_trans lt szs) (Nat.lt_irrefl _)
  · intro h' oe' sm ho hc
    refine wpAny_bind (wpAny_isInstance (T := "StopIteration") (b := true) ⟨_, ho, hc⟩ isSubtype_stop ?_)
    refine wpAny_pure (k h' fun b o q => ?_)
    rw [sm b (Nat.ne_of_lt (Nat.lt_trans (Heap.lt_size q) szs))]
    exact Heap.get?_push_of_some _ (k1 b o q)
end
end Hs
set_option Elab.async false
set_option linter.all false
set_option maxRecDepth 100000
namespace L2
open PySem PySem.Spec PyProof.Rows Hs
def QPin (X : Cx) : Prop := ∃ e oe cls od, (X.A.handled = none ∨ X.A.handled = some (.ref e)) ∧ (e, oe) ∈ X.pn ∧ Rec oe cls od
def PIEq (X : Cx) (pins : List (Addr × Obj)) (σ : St) (R : It → Hp → Prop) (itv : Value) (s2 : Shared) : Prop :=
  ∃ (it : Addr) (lo : Int) (n : Nat) (H' : Hp), itv = .ref it ∧ Inv X pins σ H' s2 ∧ IsRangeIter s2.heap it (lo + ((0 : Nat) : Int) * 1) ((n : Int) - ((0 : Nat) : Int)) 1 ∧ FpOk X pins H' it ∧ R (Itr lo n) H'
def PIq (X : Cx) (iter : Expr) (wi : TI) : Prop :=
  ∀ (pins : List (Addr × Obj)) (s : Shared) (σ : St) (H : Hp) (R : It → Hp → Prop), Inv X pins σ H s → wi σ H R →
    wpAny (model X.prog X.w) X.A (eval iter X.env) (fun v s1 => wpAny (model X.prog X.w) X.A (pyIter v) (PIEq X pins σ R) X.xe s1) X.xe s
section
variable {X : Cx}
theorem piq_range1 {a : Expr} {ta : TA} {p pos : Pos} (hm : X.mg "range" = none) (ha : PA X [a] ta) (hg : Gl X "range" := by rfl) (hs : starEach [a] X.env = [(false, eval a X.env)] := by rfl) : PIq X (.Call (.Name "range" p) [a] [] pos) (iRng1 ta) := by
  intro pins s σ H R I h
  refine Call_ (ld_blt I hg hm boot_range (PyProof.Rows.callWith_type1 (thn (ha pos pins s σ H _ I h) fun us s1 ⟨vs, H1, I1, r1, q1⟩ => ?_) hs rfl))
  obtain ⟨j, e, q1, q2, q⟩ := q1
  subst e
  cases r1 with
  | cons r rr =>
    cases rr
    obtain ⟨t, rfl⟩ := r
    refine call_range_1 (wpAny_pyIter_range (IsRange.new ..) (small_one (by omega) (by omega) q1 q2) ?_)
    refine ⟨_, 0, j.toNat, H1, rfl, (I1.kept (t' := s1.toks + 2) fun b o e => Heap.get?_push_of_some _ e).kept (t' := s1.toks + 2) fun b o e => Heap.get?_push_of_some _ e, ?_, ?_, q⟩
    · have e1 : (0 : Int) + ((0 : Nat) : Int) * 1 = 0 := by simp
      have e2 : ((j.toNat : Nat) : Int) - ((0 : Nat) : Int) = Builtin.Range.rangeSize 0 j 1 := by rw [rangeSize_one]; split <;> omega
      rw [e1, e2]
      exact Heap.get?_push_size _ rfl
    · exact (I1.kept (t' := s1.toks + 2) fun b o e => Heap.get?_push_of_some _ e).fpOk (Nat.le_refl _) ((I1.hok.kept fun b o e => Heap.get?_push_of_some _ e).fresh (Nat.le_refl _))
theorem lc_coreQ {pins : List (Addr × Obj)} {s : Shared} {σ : St} {H : Hp} {Q : VK} {elt tg iter : Expr} {ifs : List Expr} {scope : Scope} {own : List (Str × Nat)} {pos pos' : Pos} {wi : TI} {g : TG} {tt : TT} {te : TE} {use : Option (Value → Sem Unit)} {Qf : Value → Shared → Prop}
    (hq : QPin X) (hN : X.N.Nodup) (I : Inv X pins σ H s) (hi : PIq X iter wi) (ok : BlkOk X.N X.env.scope scope own)
    (hg : ∀ (s : Shared) (H : Hp) (C : Addr) (cl : List (Str × Addr)) (fp : List Addr), PG (X.blk s H scope (compEnvC scope cl C X.env) fp) tg g) (ht : ∀ (s : Shared) (H : Hp) (C : Addr) (cl : List (Str × Addr)) (fp : List Addr), PTs (X.blk s H scope (compEnvC scope cl C X.env) fp) ifs tt)
    (he : ∀ (s : Shared) (H : Hp) (C : Addr) (cl : List (Str × Addr)) (fp : List Addr), PE (X.blk s H scope (compEnvC scope cl C X.env) fp) elt te) (hs : ∀ x, foldedSetIterable iter X.env x = pure x)
    (h : tLc wi g tt te (own.map (·.2)) σ H Q)
    (hRR : ∀ D C s' m H', Inv X pins σ H' s' → Q (.ref D) H' → s'.heap.Ns C m → FpOk X pins H' C → compPost (model X.prog X.w) X.A X.xe use Qf (.ref D) C (.ok .next) s') :
    wpAny (model X.prog X.w) X.A (comprehension (.ListComp elt [⟨tg, iter, ifs, 0⟩] scope pos) scope X.env pos' (newList []) false (eval iter X.env) use) Qf X.xe s := by
  have hfree : ∀ y ∈ scope.names, y.2 = .free → ∃ c, X.env.cells.lookup y.1 = some c := fun y hy e => by
    rcases ok.free y hy e with k | k
    · exact I.ok.has _ (.inl k)
    · exact I.ok.has _ (.inr k)
  refine wpAny_comprehension_free (use := use) rfl hs (closure_ok hfree) ok.kind (fun y hy e => by rw [ok.uniq y hy, e])
    (thn (hi pins s σ H _ I h) fun xv s1 hx => thn hx fun itv s2 h2 => ?_)
  obtain ⟨it, lo, nn, H2, e, I2, st2, f20, q⟩ := h2
  subst e
  let fp : List Addr := [it]
  let tn : Nat → Heap → Prop := fun i h => IsRangeIter h it (lo + (i : Nat) * 1) ((nn : Int) - (i : Nat)) 1
  have T := turn_range (P := X.prog) (w := X.w) (K := X.K) (tg := tg) it lo nn
  have st2 : tn 0 s2.heap := st2
  have f2 : ∀ b ∈ fp, FpOk X pins H2 b := fun b hb => by
    have z : b = it := by simpa [fp] using hb
    subst z; exact f20
  refine wpAny_newObj_type (newEnv_comp ?_) (by show 0 ≤ sizeLine; decide)
  generalize hD : s2.heap.objs.size = D
  have hDn : H2 D = none := I2.hok.fresh (Nat.le_of_eq hD)
  obtain ⟨W, ⟨m0, w0⟩, turn⟩ := q D hDn
  generalize hs3 : ({ s2 with heap := s2.heap.push { cls := .type "list", data := .seq ([] : List Value).toArray } } : Shared) = s3
  have I3 : Inv X pins σ (upd H2 D (.lst [])) s3 := by
    rw [← hs3]
    refine I2.laid (t' := s2.toks) (fun b o e => Heap.get?_push_of_some _ e) (Nat.le_of_eq hD) ⟨Nat.zero_le _, [], 0, .nil, ?_⟩
    rw [← hD]
    exact Heap.get?_push_size _ rfl
  have h3 : s3.heap = s2.heap.push { cls := .type "list", data := .seq ([] : List Value).toArray } := by rw [← hs3]
  have sz : ∀ b ∈ fp, b < s2.heap.objs.size := fun b hb => by
    obtain ⟨o, e, _⟩ := T.obj _ _ st2 b hb
    exact Heap.lt_size e
  have f3 : ∀ b ∈ fp, FpOk X pins (upd H2 D (.lst [])) b ∧ b < s3.heap.objs.size := fun b hb => by
    have hlt := sz b hb
    refine ⟨⟨?_, (f2 b hb).2⟩, by rw [h3, Heap.size_push]; exact Nat.lt_succ_of_lt hlt⟩
    rw [upd_ne (by rw [← hD]; exact Nat.ne_of_lt hlt)]
    exact (f2 b hb).1
  have st3 : tn 0 s3.heap := T.keep _ _ _ st2 fun b _ o e => by rw [h3]; exact Heap.get?_push_of_some _ e
  have I4 := block_start I3 ok hN f3
  have pg := hg s3 (upd H2 D (.lst [])) s3.heap.objs.size (cellsFrom (s3.heap.objs.size + 1) scope.names (cloFrom X.env.cells scope.names [])) fp
  have pt := ht s3 (upd H2 D (.lst [])) s3.heap.objs.size (cellsFrom (s3.heap.objs.size + 1) scope.names (cloFrom X.env.cells scope.names [])) fp
  have pe := he s3 (upd H2 D (.lst [])) s3.heap.objs.size (cellsFrom (s3.heap.objs.size + 1) scope.names (cloFrom X.env.cells scope.names [])) fp
  show codeAny _ _ (.compStart (.ListComp elt [⟨tg, iter, ifs, 0⟩] scope pos) 0 (.ref it) (.ref D) (compEnvC scope (cellsFrom (s3.heap.objs.size + 1) scope.names (cloFrom X.env.cells scope.names [])) s3.heap.objs.size X.env)) (compPost (model X.prog X.w) X.A X.xe use Qf (.ref D) s3.heap.objs.size) { s3 with heap := pushCells (s3.heap.push { cls := .type "dict", data := .dict #[] }) scope.names }
  have nfp : ∀ b ∈ fp, (upd H2 D (.lst [])) b = none := fun b hb => (f3 b hb).1.1
  generalize hce : compEnvC scope (cellsFrom (s3.heap.objs.size + 1) scope.names (cloFrom X.env.cells scope.names [])) s3.heap.objs.size X.env = ce at I4 pg pt pe ⊢
  have cL : ce.locals = s3.heap.objs.size := by subst hce; rfl
  generalize hH3 : upd H2 D (.lst []) = H3 at I3 I4 pg pt pe w0 nfp f3
  generalize hs4 : ({ s3 with heap := pushCells (s3.heap.push { cls := .type "dict", data := .dict #[] }) scope.names } : Shared) = s4 at I4 ⊢
  have st4 : tn 0 s4.heap := T.keep _ _ _ st3 fun b _ o e => by rw [← hs4]; exact pushCells_keeps _ _ _ _ (Heap.get?_push_of_some _ e)
  have stat : ∀ {σ' : St} {H' : Hp} {s' : Shared}, Inv (X.blk s3 H3 scope ce fp) [] σ' H' s' → (∀ b ∈ fp, H' b = none) → ∀ b ∈ fp, FpOk (X.blk s3 H3 scope ce fp) [] H' b := fun {σ' H' s'} I' hn b hb =>
    ⟨hn b hb, (I'.ok.exf b hb).1, I'.ok.exfs b hb, .inl hb, fun x c e => (I'.ok.exf b hb).2 x c e, fun p hp => absurd (show p ∈ ([] : List (Addr × Obj)) ++ [] from hp) (by simp)⟩
  have quiet : ∀ {σ' : L2.St} {H' : Hp} {s' : Shared}, L2.Inv (X.blk s3 H3 scope ce fp) [] σ' H' s' → Quiet X.A s'.heap := fun {σ' H' s'} I' => by
    obtain ⟨e, oe, cls, od, ha, hm, rc⟩ := hq
    rcases ha with ha | ha
    · exact .inl ha
    · obtain ⟨p1, p2, p3, p4, _⟩ := I3.pin (e, oe) (List.mem_append_left _ hm)
      refine .inr ⟨e, oe, cls, od, ha, ?_, rc⟩
      refine I'.base.keep e oe p1 p2 (fun z => ?_) (fun z => ?_)
      · rcases List.mem_cons.mp (I3.stkSub e z) with z | z
        · exact p3 z
        · exact p4 z
      · exact (f3 e z).1.2.2.2.2.2 (e, oe) (List.mem_append_left _ hm) rfl
  have loop : codeAny (model X.prog X.w) X.A (.compLoop (.ListComp elt [⟨tg, iter, ifs, 0⟩] scope pos) 0 (.ref it) (.ref D) ce) (compPost (model X.prog X.w) X.A X.xe use Qf (.ref D) s3.heap.objs.size) s4 := by
    refine compLoop_any (fun n s' => ∃ i H', Inv (X.blk s3 H3 scope ce fp) [] (wipe σ (own.map (·.2))) H' s' ∧ tn i s'.heap ∧ (∀ b ∈ fp, H' b = none) ∧ W i n H') ?_ m0 ⟨0, H3, I4, st4, nfp, w0⟩
    rintro n s5 ⟨i, H5, I5, st5, n5, w5⟩
    rcases turn i n H5 w5 with ⟨stop, qq⟩ | ⟨go, Nx, hNx, step⟩
    · have td : wpAny (model X.prog X.w) X.A (pyNext (.ref it)) (fun r s1 => r = none ∧ L2.Inv (X.blk s3 H3 scope ce fp) [] (wipe σ (own.map (·.2))) H5 s1) (fun _ _ => False) s5 := by
        refine range_end_q (quiet I5) st5 (by have : nn ≤ i := stop; omega) fun h' kp => ⟨rfl, ?_⟩
        exact I5.kept (t' := s5.toks) kp
      refine thnF td fun r s6 ⟨hr, I6⟩ => ?_
      subst hr
      have I7 : Inv X pins σ H5 s6 := I3.call' (ch := fp) I6.os I6.base I6.hok I6.bare fun b hb => ⟨(f3 b hb).1.2.2.2.1, (f3 b hb).1.2.1, (f3 b hb).1.2.2.2.2.1, (f3 b hb).1.2.2.2.2.2⟩
      have nC : H5 s3.heap.objs.size = none := by
        have z : H5 ce.locals = none := I6.free
        rw [cL] at z
        exact z
      obtain ⟨m, hn, _⟩ := I6.loc
      have hn : s6.heap.Ns ce.locals m := hn
      rw [cL] at hn
      exact hRR D s3.heap.objs.size s6 m H5 I7 qq hn (I3.fpOk (Nat.le_refl _) nC)
    · have ti : wpAny (model X.prog X.w) X.A (pyNext (.ref it)) (fun r s1 => ∃ u, r = some u ∧ wpAny (model X.prog X.w) X.A (letOwnedTupleGo tg (.ref it) u) (fun _ s2 => ∃ x H', L2.Inv (X.blk s3 H3 scope ce fp) [] (wipe σ (own.map (·.2))) H' s2 ∧ L2.RelV x u ∧ (Itr lo nn).yld i H5 x H' ∧ tn (i + 1) s2.heap ∧ ∀ b ∈ fp, H' b = none) (fun _ _ => False) s1) (fun _ _ => False) s5 := by
        obtain ⟨f0, f1, _, f3', f4, f5⟩ := stat I5 n5 it (by simp [fp])
        refine wpAny_pyNext_range_item st5 (by have : i < nn := go; omega) fun h' st' sb => ⟨_, rfl, ?_⟩
        have I1 : L2.Inv (X.blk s3 H3 scope ce fp) [] (wipe σ (own.map (·.2))) H5 { s5 with heap := h', toks := s5.toks + 1 } := I5.turned (fun b o hb q => (sb.2 b hb).trans q) f0 f1 f3' f4 f5
        refine go_of (s := { s5 with heap := h', toks := s5.toks + 1 }) (n := "range_iterator") st' rfl rfl (by decide) ⟨.int (lo + i), H5, I1, ⟨s5.toks, ?_⟩, ⟨rfl, rfl⟩, ?_, n5⟩
        · rw [Int.mul_one]
        · show IsRangeIter h' it (lo + ((i + 1 : Nat) : Int) * 1) ((nn : Int) - ((i + 1 : Nat) : Int)) 1
          rw [show lo + ((i + 1 : Nat) : Int) * 1 = lo + (i : Int) * 1 + 1 by push_cast; omega, show (nn : Int) - ((i + 1 : Nat) : Int) = (nn : Int) - (i : Int) - 1 by push_cast; omega]
          exact st'
      refine thnF ti fun r s6 ⟨u, hr, h6⟩ => ?_
      subst hr
      refine thnF h6 fun _ s7 ⟨x, H7, I7, r7, y7, st7, n7⟩ => ?_
      have I7' := I7.pinned (stat I7 n7) (T.obj _ _ st7)
      refine thnF (pg _ s7 _ H7 x u _ I7' r7 (step x H7 y7)) fun _ s8 ⟨σ8, H8, I8, hw8, q8⟩ => ?_
      refine thnF (pt _ s8 σ8 H8 _ I8 q8) fun b s9 ⟨H9, I9, q9⟩ => ?_
      have fin : ∀ {s' : Shared} {H' : Hp}, Inv (X.blk s3 H3 scope ce fp) ([] ++ pinsAt fp s7.heap) σ8 H' s' → Nx H' → ∃ m, m < n ∧ ∃ i H', Inv (X.blk s3 H3 scope ce fp) [] (wipe σ (own.map (·.2))) H' s' ∧ tn i s'.heap ∧ (∀ b ∈ fp, H' b = none) ∧ W i m H' := fun {s' H'} I' nx => by
        obtain ⟨m', hm, w'⟩ := hNx H' nx
        have pin' : ∀ b ∈ fp, ∀ o, s7.heap.get? b = some o → s'.heap.get? b = some o ∧ H' b = none := fun b hb o e =>
          let z := I'.pin (b, o) (List.mem_append_right _ (List.mem_append_right _ (mem_pinsAt hb e)))
          ⟨z.1, z.2.1⟩
        have hl : (wipe σ (own.map (·.2))).length = σ8.length := by rw [← hw8, wipe_length]
        refine ⟨m', hm, i + 1, H', (I'.unpinned (pins := [])).weak hl (fun j v e => ?_), T.keep _ _ _ st7 fun b hb o e => (pin' b hb o e).1, fun b hb => ?_, w'⟩
        · rw [← hw8] at e
          exact (wipe_some e).1
        · obtain ⟨o, e, _⟩ := T.obj _ _ st7 b hb
          exact (pin' b hb o e).2
      cases b with
      | false =>
        simp only [Bool.false_eq_true, if_false] at q9 ⊢
        exact fin I9 q9
      | true =>
        simp only [if_true] at q9 ⊢
        refine thnF (pe _ s9 σ8 H9 _ I9 q9) fun z s10 ⟨yv, H10, I10, r10, acc, hD10, hz10, nx⟩ => ?_
        exact app_ok (X := X.blk s3 H3 scope ce fp) I10 hD10 hz10 r10 fun s11 I11 => fin I11 nx
  exact codeAny_compStart_list loop (T.self X.A 0 _ _ _ st4 loop)
theorem pe_lcQ {elt tg iter : Expr} {ifs : List Expr} {scope : Scope} {own : List (Str × Nat)} {pos : Pos} {wi : TI} {g : TG} {tt : TT} {te : TE} (hq : QPin X) (hN : X.N.Nodup) (hi : PIq X iter wi) (ok : BlkOk X.N X.env.scope scope own)
    (hg : ∀ (s : Shared) (H : Hp) (C : Addr) (cl : List (Str × Addr)) (fp : List Addr), PG (X.blk s H scope (compEnvC scope cl C X.env) fp) tg g) (ht : ∀ (s : Shared) (H : Hp) (C : Addr) (cl : List (Str × Addr)) (fp : List Addr), PTs (X.blk s H scope (compEnvC scope cl C X.env) fp) ifs tt)
    (he : ∀ (s : Shared) (H : Hp) (C : Addr) (cl : List (Str × Addr)) (fp : List Addr), PE (X.blk s H scope (compEnvC scope cl C X.env) fp) elt te) (hs : ∀ x, foldedSetIterable iter X.env x = pure x := by intro _; rfl) :
    PE X (.ListComp elt [⟨tg, iter, ifs, 0⟩] scope pos) (tLc wi g tt te (own.map (·.2))) := by
  intro pins s σ H Q I h
  rw [eval_ListComp]
  refine lc_coreQ hq hN I hi ok hg ht he hs h fun D C s' m H' I' q hn f => ⟨m, hn, fun h'' sb => ?_⟩
  obtain ⟨f0, f1, f2, f3, f4, f5⟩ := f
  exact ⟨.ref D, H', I'.turned (t' := s'.toks) (fun b o hb e => (sb.2 b hb).trans e) f0 f1 f3 f4 f5, rfl, q⟩end
end L2
set_option Elab.async false
set_option linter.all false
set_option maxRecDepth 100000
namespace Hs
open PySem PySem.Spec PySem.Calls PyProof.Rows PySem.W
section
variable {prog : Program} {w : World} {A : Around} {E : Value → Shared → Prop} {h : Heap} {g : Array GenState} {d : Drawn} {t : Nat} {os : OsState} {K : Frag} {a C : Addr} {o : Obj} {odo : Option Obj}
structure ExcGet (K : Frag) (C : Addr) : Prop where
  ga : findIn K (.ref C) "__getattribute__" = some (some (.builtin "BaseException.__getattribute__"))
  gn : findIn K (.ref C) "__getattr__" = some none
  cl : findIn K (.ref C) "__class__" = some (some (.builtin "object.__class__"))
  sp : specialIn K (.builtin "object.__class__") "__get__" = some (some (.builtin "getset_descriptor.__get__"))
  tk : takesIn K (.builtin "object.__class__") = some true
  mr : mroIn K C (.type "object") = some true
  cs : (clsIn K C).isSome = true
  sb : subIn K (.ref C) (.type "BaseException") = some true
theorem find_data {od : Option Obj} {name : Str} {x g : Value} (hc : (clsIn K C).isSome = true) (ha : findIn K (.ref C) name = some (some x)) (hg : specialIn K x "__get__" = some (some g)) (ht : takesIn K x = some true) : findObj K C od name = some (.bind g x) := by
  obtain ⟨cd, hc⟩ := Option.isSome_iff_exists.mp hc
  unfold findObj; rw [hc]
  rw [Option.bind_some, ha]
  rw [Option.bind_some]; simp [hg, ht]
theorem exc_entry {tk : Tok} {Q : Fin → Shared → Prop} (G : ExcGet K C) (X : K.In h) (I : InstAt h a o C odo) (hq : Q (.done (.ret (.ref C))) ⟨h, g, d, t, os⟩) :
    wpAny (model prog w) A (Builtin.«object.__getattribute__» ⟨[.ref a, .str "__class__" tk], []⟩) Q E ⟨h, g, d, t, os⟩ := by
  have L0 := I.type (M := model prog w)
  have L1 := looks_find (M := model prog w) X I (find_data G.cs G.cl G.sp G.tk)
  refine wpAny_bind (wpAny_pure (wpAny_bind (wpAny_pure (wpAny_bind (L0.at (wpAny_bind (L1.at ?_)))))))
  repeat (any_goals (first | assumption | wp_step))
  refine class_get (s := ⟨h, g, d, t, os⟩) X I G.mr ?_
  repeat (any_goals (first | assumption | wp_step))
theorem exc_check {M : Model} {nameV : Value} {Q : Unit → Shared → Prop} (G : ExcGet K C) (X : K.In h) (I : InstAt h a o C odo) (hq : Q () ⟨h, g, d, t, os⟩) : wpAny M A (checkBuiltinCall "BaseException.__getattribute__" ⟨[.ref a, nameV], []⟩) Q E ⟨h, g, d, t, os⟩ := by
  have kd : builtinKind "BaseException.__getattribute__" = some .slot := by decide +kernel
  have sp : splitId "BaseException.__getattribute__" = some ("BaseException", "__getattribute__") := by decide +kernel
  have L0 := I.type (M := M)
  have L1 : Looks M h (isSubtype (.ref C) (.type "BaseException")) true := looks_subIn X G.sb
  have LI : Looks M h (isInstance (.ref a) (.type "BaseException")) true := L0.andThen L1
  have ha := PySem.F.args_bexc_ga (.ref a) nameV
  simp only [checkBuiltinCall, kd, sp]
  refine wpAny_bind (LI.at ?_)
  repeat (first | assumption | wp_step)
theorem exc_class {Q : Option Value → Shared → Prop} (G : ExcGet K C) (X : K.In h) (I : InstAt h a o C odo) (hq : Q (some (.ref C)) ⟨h, g, d, t + 1, os⟩) : wpAny (model prog w) A (getAttr? (.ref a) "__class__") Q E ⟨h, g, d, t, os⟩ := by
  have L0 := I.type (M := model prog w)
  have L1 := looks_findIn (M := model prog w) X G.ga
  have L2 := looks_findIn (M := model prog w) X G.gn
  unfold getAttr? getAttrBy? getAttrBy
  refine wpAny_bind (wpAny_mkText (wpAny_bind (wpAny_attempt (wpAny_holding (wpAny_bind (L0.at (wpAny_bind (L1.at ?_))))))))
  show wpAny _ _ (getAttrByItsOwn (.ref a) _ (.ref C) (.builtin "BaseException.__getattribute__") false false) _ _ _
  have f3 := PySem.F.excAttr_ValueError.ga.bind (.ref a)
  unfold getAttrByItsOwn
  repeat (any_goals (first | assumption | with_reducible refine Looks.at (by assumption) ?_ | wp_step))
  refine codeAny_call_builtin PySem.F.excAttr_ValueError.ga.plain PySem.F.entry_bexc_ga (exc_check G X I (exc_entry G X I ?_))
  show wpAny _ _ (handedOut (.ref C)) _ _ _
  exact handed_on rfl (wpAny_pure hq)
end
section
variable {K : Frag} {a C : Addr} {o : Obj} {odo : Option Obj}
theorem kitx_exc (G : ExcGet K C) : KitX K (.ref a) (.ref C) (fun h => InstAt h a o C odo) where
  ty := fun _ _ _ I => I.type
  it := fun _ _ X _ => by
    obtain ⟨cdc, hcd⟩ := Option.isSome_iff_exists.mp G.cs
    unfold clsIn at hcd
    split at hcd
    next ho =>
      intro A' Q' E' s' k q
      unfold isType loadHead
      exact wpAny_bind (wpAny_loadPart (k _ _ (X _ _ ho)) (wpAny_pure q))
    next => cases hcd
  ne := fun h tp dd its n sl X htp => by
    obtain ⟨cdc, hcd⟩ := Option.isSome_iff_exists.mp G.cs
    refine Bool.eq_false_iff.mpr fun q => ?_
    obtain rfl : C = tp := Value.ref.inj (beq_iff_eq.mp q)
    unfold clsIn at hcd
    split at hcd
    next ho =>
      have z := (X _ _ ho).symm.trans htp
      cases z
    next => cases hcd
  ca := fun {_ _ _ _ _ s} X I k => by
    obtain ⟨h, g, d, t, os⟩ := s
    exact exc_class G X I k
end
end Hs
namespace Hs
open PySem PySem.Spec PyProof.Rows L2
section
variable {X : Cx} {e C : Addr} {oe : Obj} {b : Bool} {cv : V} {cu : Value}
end
abbrev calmed (A : Around) : Around := { A with handled := none }
structure FnH (P : Program) (w : World) (K : PySem.W.Frag) (mg : Str → Option Value) (base : Heap) (x : Str) (k : Nat) (sp : Addr → Obj → Hp → VK → Prop) : Prop where
  ex : ∃ f : Addr, (∀ (A : Around) (outer : List Env) (s : Shared) (H : Hp) (e : Addr) (oe : Obj) (Q : VK), Room k (calmed A) → (A.handled = none ∨ A.handled = some (.ref e)) → Env0 P w K mg base A outer s H → s.heap.get? e = some oe → H e = none → e ∉ frs outer → (∃ vs, oe.data = .fields vs) → sp e oe H Q →
    codeAny (model P w) A (.call (.ref f) ⟨[.ref e], []⟩) (CR CX0 outer P w H s Q E0) s) ∧ PySem.W.keepIn K (.ref f) = true ∧ mg x = some (.ref f)
abbrev cxH (P : Program) (w : World) (K : PySem.W.Frag) (mg : Str → Option Value) (base : Heap) (N : List Str) (qual : Str) (scope : Scope) (f : Addr) (cd : Value) (A : Around) (outer : List Env) (s : Shared) (H : Hp) (e : Addr) (oe : Obj) : Cx :=
  { cxOf CX0 P w K mg base N qual scope f cd A outer s H E0 with calm := false, pn := [(e, oe)], xe := fun _ _ => False }
theorem fnH_of {P : Program} {w : World} {K : PySem.W.Frag} {mg : Str → Option Value} {base : Heap} {x qual : Str} {st : Stmt} {f : Addr} {fd : FuncData} {N : List Str} {k : Nat} {y : Str} {sp : Addr → Obj → Hp → VK → Prop} (F : Fun K x qual st f fd) (S : FnScope N [y] (defScope st)) (b : Binds K fd [y] []) (m : mg x = some (.ref f))
    (hbody : ∀ (cdv : Value) (A : Around) (outer : List Env) (s : Shared) (H : Hp) (e : Addr) (oe : Obj) (Q : VK), Room k (calmed (A.deeper (envOfC qual (defScope st) s.heap.objs.size f cdv))) → (A.handled = none ∨ A.handled = some (.ref e)) → sp e oe H Q →
      ∃ t, PSs (cxH P w K mg base N qual (defScope st) f cdv A outer s H e oe) (defBody st) t ∧ t { nx := fun _ H' => Q .non H', rt := Q } (start N [.ref e]) H) : FnH P w K mg base x (k + 1) sp := by
  refine ⟨f, fun A outer s H e oe Q hr hh e0 he hn hf hd hsp => ?_, F.kp, m⟩
  obtain ⟨oc, od, kV, doc, pm, an, cdv, ct, osl, rfl, lk, hcd⟩ := F.ex
  have KX : K.In s.heap := e0.mod.kin.keeps fun b o e => (e0.bs b o e).1
  have lim : s.heap.NoLimit := e0.mod.nolimit.keeps fun b o e => (e0.bs b o e).1
  have hkind : ∀ z ∈ [y].zip [Value.ref e], (defScope st).names.lookup z.1 = some .local ∨ ((defScope st).names.lookup z.1 = some .cell ∧ ((cellsFrom (s.heap.objs.size + 1) (defScope st).names []).lookup z.1).isSome = true) := fun ⟨n, v⟩ hy => by
    rcases S.par n (List.of_mem_zip hy).1 with q | q
    · exact .inl q
    · exact .inr ⟨q, PySem.W.cellsFrom_some _ _ _ (.inl q)⟩
  have bd := b s [.ref e] KX rfl
  refine codeAny_call_function (show A.depth < recursionLimit by have := hr.dp; simp at this; omega) (KX _ _ lk) rfl S.co S.gen rfl (PySem.W.codeRec_of KX hcd) (bd _ _ _ _ ?_)
  refine wpAny_newFunctionEnv_cells S.kind hkind fun env hev s1 xx => ?_
  subst hev
  refine ⟨lim.keeps xx.toInCall.keep, codeAny_func ?_⟩
  obtain ⟨t, ht, hq⟩ := hbody cdv A outer s H e oe Q (hr.deeper _) hh hsp
  have e0' : Env0 P w K mg base (calmed A) outer s H := ⟨e0.frames, e0.mod, e0.bs, e0.bsz, e0.funs, e0.frf, e0.hok, e0.bare⟩
  have I0 : L2.Inv (cxOf CX0 P w K mg base N qual (defScope st) f cdv (calmed A) outer s H E0) [] (start N [.ref e]) H s1 := inv_start (vs := [.ref e]) S rfl e0' rfl (.cons rfl .nil) xx
  have kp : ∀ b o, s.heap.get? b = some o → s1.heap.get? b = some o := xx.toInCall.keep
  have I : L2.Inv (cxH P w K mg base N qual (defScope st) f cdv A outer s H e oe) [] (start N [.ref e]) H s1 := by
    refine ⟨⟨I0.ok.mod, I0.ok.kind, I0.ok.glob, I0.ok.blt, I0.ok.above, I0.ok.inj, I0.ok.has, I0.ok.cab, fun z => (Bool.false_ne_true z).elim, Around.frames_deeper e0.frames, I0.ok.stk, I0.ok.exf, I0.ok.bs, I0.ok.bsz, I0.ok.noex, I0.ok.exfs, I0.ok.funs, I0.ok.frf⟩,
      I0.os, I0.bare, I0.base, I0.loc, I0.cell, I0.free, I0.freeC, fun p hp => ?_, I0.hok, I0.len⟩
    have hp : p = (e, oe) := by simpa using hp
    subst hp
    refine ⟨kp _ _ he, hn, fun z => ?_, hf, fun v q => ?_⟩
    · have lt := Heap.lt_size he
      have z : e = s.heap.objs.size := z
      rw [z] at lt
      exact absurd lt (Nat.lt_irrefl _)
    · obtain ⟨vs, hd⟩ := hd
      have q : oe.data = .cell v := q
      rw [hd] at q; cases q
  refine wpAny_mono (ht [] s1 (start N [.ref e]) H _ I hq) (fun fl s' hs => ?_) fun ev s' hs => hs.elim
  have fin : ∀ {σ' : L2.St} {H' : Hp} {v : V} {u : Value}, L2.Inv (cxH P w K mg base N qual (defScope st) f cdv A outer s H e oe) [] σ' H' s' → L2.RelV v u → Q v H' → CE outer P w H s Q u s' :=
    fun {σ' H' v u} J rv q => ⟨v, H', J.os, J.bare, J.base, J.hok, rv, q⟩
  cases fl with
  | ret u =>
    obtain ⟨v, σ', H', J, rv, q⟩ := hs
    exact fin J rv q
  | next =>
    obtain ⟨σ', H', J, q⟩ := hs
    exact fin (v := V.non) (u := Value.none) J rfl q
  | brk =>
    obtain ⟨_, _, _, q⟩ := hs
    exact False.elim q
  | cont =>
    obtain ⟨_, _, _, q⟩ := hs
    exact False.elim q
section
variable {X : Cx} {x : Str} {k j : Nat} {sp : Addr → Obj → Hp → VK → Prop} {e : Addr} {oe : Obj} {ar : Expr} {t : TA} {p pos : Pos}
def tCallH (sp : Addr → Obj → Hp → VK → Prop) (e : Addr) (oe : Obj) (t : TA) : TE := fun σ H Q => t σ H fun vs H1 => vs = [.ref e] ∧ sp e oe H1 Q
theorem pe_callH (F : FnH X.prog X.w X.K X.mg X.base x k sp) (hr : Room j (calmed X.A)) (hk : k ≤ j) (hh : X.A.handled = none ∨ X.A.handled = some (.ref e)) (hp : (e, oe) ∈ X.pn) (hd : ∃ vs, oe.data = .fields vs) (ha : PA X [ar] t) (hg : Gl X x := by rfl) (hdb : (x == ("__debug__" : Str)) = false := by decide)
    (he : starEach [ar] X.env = [(false, eval ar X.env)] := by rfl) : PE X (.Call (.Name x p) [ar] [] pos) (tCallH sp e oe t) := by
  obtain ⟨f, FO, kp, m⟩ := F.ex
  intro pins s σ H Q I h
  refine wpAny_Call_Name_kw (ld_glob I hg m ?_ hdb)
  refine PySem.W.callWith_K (h₀ := X.base) I.ok.mod.kin kp (thn (ha pos pins s σ H _ I h) fun us s1 ⟨vs, H1, I1, r, hv, q⟩ => ⟨I1.kIn, ?_⟩) he rfl
  subst hv
  cases r with
  | cons r rr =>
    cases rr
    cases r
    obtain ⟨he1, hn1, hl1, hf1, _⟩ := I1.pin (e, oe) (List.mem_append_left _ hp)
    have nf : e ∉ frs X.stack := fun z => by
      rcases List.mem_cons.mp (I1.stkSub e z) with z | z
      · exact hl1 z
      · exact hf1 z
    refine wpAny_call (codeAny_mono (FO X.A X.stack s1 H1 e oe Q (hr.mono hk) hh I1.env0 he1 hn1 nf hd q) fun r s' hq => ?_)
    cases r with
    | error e => exact False.elim hq
    | ok fl =>
      cases fl with
      | ret u => exact I1.after hq
      | next => exact False.elim hq
      | brk => exact False.elim hq
      | cont => exact False.elim hq
end
end Hs
set_option Elab.async false
set_option linter.all false
set_option maxRecDepth 100000
namespace L2
open PySem PySem.Spec PyProof.Rows PySem.SeqAt
theorem idx_loop {prog : Program} {w : World} {A : Around} {E : Value → Shared → Prop} {s : Shared} {items : Array Value} {x : Value} {e : Value → Bool} {j : Nat} (hj : j < items.size) (hit : e items[j] = true) (hno : ∀ m (hm : m < items.size), m < j → e items[m] = false)
    (he : ∀ y, y ∈ items → EqAt A s y x (e y)) {Qf : Option PySem.Fin × Unit → Shared → Prop} (hq : Qf (some (.done (.ret (.int j s.toks))), ()) { s with toks := s.toks + 1 }) :
    ∀ (k i : Nat), i + k = j → ∀ n, j < i + n → wpAny (model prog w) A (forIn (List.range' i n) ((none : Option PySem.Fin), ()) fun (i : Nat) _ => match items[i]? with
      | some y => do
        let r ← eqBool y x
        if r = true then do
          let v ← retInt (i : Int)
          pure (ForInStep.done (some v, ()))
        else pure (ForInStep.yield (none, ()))
      | _ => pure (ForInStep.yield (none, ()))) Qf E s
  | 0, i, hk, 0, hn => by omega
  | k + 1, i, hk, 0, hn => by omega
  | 0, i, hk, n + 1, hn => by
    have hi : i = j := by omega
    subst hi
    rw [List.range'_succ, List.forIn_cons]
    have h1 : items[i]? = some items[i] := by simp [hj]
    rw [h1]
    dsimp only
    refine wpAny_bind (wpAny_bind (he _ (by simp) prog w _ _ ?_))
    rw [hit, if_pos rfl]
    refine wpAny_bind ?_
    unfold retInt
    refine wpAny_bind (wpAny_mkInt (wpAny_pure (wpAny_pure (wpAny_pure hq))))
  | k + 1, i, hk, n + 1, hn => by
    rw [List.range'_succ, List.forIn_cons]
    have hl : i < items.size := by omega
    have h1 : items[i]? = some items[i] := by simp [hl]
    rw [h1]
    dsimp only
    refine wpAny_bind (wpAny_bind (he _ (by simp) prog w _ _ ?_))
    rw [hno i hl (by omega), if_neg (by decide)]
    refine wpAny_pure ?_
    exact idx_loop hj hit hno he hq k (i + 1) (by omega) n (by omega)
theorem tup_index {prog : Program} {w : World} {A : Around} {Q : PySem.Fin → Shared → Prop} {E : Value → Shared → Prop} {s : Shared} (a : Addr) (items : Array Value) (x : Value) (e : Value → Bool) (j : Nat) (hp : IsTup s.heap a items) (hj : j < items.size) (hit : e items[j] = true) (hno : ∀ m (hm : m < items.size), m < j → e items[m] = false)
    (he : ∀ y, y ∈ items → EqAt A s y x (e y)) (hq : Q (.done (.ret (.int j s.toks))) { s with toks := s.toks + 1 }) :
    wpAny (model prog w) A (Builtin.«tuple.index» ⟨[.ref a, x], []⟩) Q E s := by
  obtain ⟨o, ho, hc, n, hd⟩ := hp
  have hT : s.TypeIs (.ref a) "tuple" := ⟨o, ho, hc⟩
  unfold Builtin.«tuple.index»
  obtain ⟨hh, g, d, tk, os⟩ := s
  repeat (first | with_reducible refine wpAny_loadPart_at ho ?_ | wp_step)
  rw [hd]
  dsimp only
  refine wpAny_pure (wpAny_pure ?_)
  refine wpAny_bind (wpAny_pure (wpAny_bind (wpAny_pure (wpAny_bind ?_))))
  rw [Std.Legacy.Range.forIn_eq_forIn_range']
  refine idx_loop hj hit hno he ?_ j 0 (by omega) _ (by simp [Std.Legacy.Range.size]; omega)
  exact wpAny_pure hq
section
variable {X : Cx}
def rIndexT (K : PySem.W.Frag) : V → List V → Hp → VK → Prop := fun x xs H Q => ∃ (a : Addr) (ys : List V) (y : V) (j : Nat) (z : V), x = V.ref a ∧ xs = [y] ∧ SqT K H a ys ∧ flatV y = true ∧ ys.all flatV = true ∧ ys[j]? = some z ∧ eqV z y = true ∧
  (∀ (m : Nat) (z' : V), m < j → ys[m]? = some z' → eqV z' y = false) ∧ Q (.int (j : Nat)) H
theorem mt_indexT : MtR X "tuple.index" (rIndexT X.K) := by
  intro pins s σ H x xs v us Q I rx rxs h
  obtain ⟨a, ys, y, j, z, rfl, rfl, hs, fy, fys, hz, hzj, hno, q⟩ := h
  cases rx
  cases rxs with
  | cons ry rt =>
    rename_i uy ut
    cases rt
    obtain ⟨its, rv, tp, hlen⟩ := I.tuple hs
    obtain ⟨u, hu, ru⟩ := rv.get hz
    obtain ⟨hjl, hje⟩ := List.getElem?_eq_some_iff.mp hu
    have hvl := rv.length
    have hj : j < its.toArray.size := by simpa using hjl
    obtain ⟨o, ho, hc, _⟩ := id tp
    refine wpAny_call_entry PySem.F.slot_tuple_index ⟨o, ho, hc⟩ PySem.F.entry_tuple_index (tup_index a its.toArray uy (eqU y) j tp hj ?_ ?_ (fun u' hu' => mem_eqAt ry fy rv fys u' (by simpa using hu')) ⟨.int j s.toks, rfl, ?_⟩) (PySem.F.args_tuple_index_2 _ _)
    · have e1 : its.toArray[j] = u := by simpa using hje
      rw [e1, eqU_of ru (flat_at fys hz)]
      exact hzj
    · intro m hm hmj
      have hml : m < its.length := by simpa using hm
      have hmy : m < ys.length := by omega
      have hy' : ys[m]? = some ys[m] := List.getElem?_eq_getElem hmy
      obtain ⟨u2, hu2, ru2⟩ := rv.get hy'
      obtain ⟨_, hme⟩ := List.getElem?_eq_some_iff.mp hu2
      have e1 : its.toArray[m] = u2 := by simpa using hme
      rw [e1, eqU_of ru2 (flat_at fys hy')]
      exact hno m _ hmj hy'
    · exact ⟨.int (j : Nat), H, I.tok _, ⟨_, rfl⟩, q⟩
end
end L2
set_option Elab.async false
set_option linter.all false
set_option maxRecDepth 100000
namespace Hs
open PySem PySem.Spec PySem.Calls PyProof.Rows PySem.W
section
variable {prog : Program} {w : World} {A : Around} {E : Value → Shared → Prop} {h : Heap} {g : Array GenState} {d : Drawn} {t : Nat} {os : OsState}
variable {nm q : Str} {C N : Addr} {bs bm bmB : List Value} {hdct : Bool} {sn : List Str} {sub : List Value} {ab : Bool} {col : Option Bool} {dd : Option Addr} {k0 k1 k2 k3 k5 : Option Value} {B newId initId : String}
theorem type_call_initT (F : ExcBaseFacts B newId initId bmB) (T : OwnTail h bmB bm) {mN : Str → Option Value} {rest : List Value} {fI : Addr} {oI : Obj} {Q : Fin → Shared → Prop}
    (hC : h.get? C = some (excClassObj nm q C N bs bm hdct sn sub ab col dd k0 k1 k2 k3 k5 newId)) (hn : h.Ns N mN) (hi : mN "__init__" = some (.ref fI))
    (hfI : h.get? fI = some oI) (hfc : oI.cls = .type "function")
    (hq : ∀ h' e, Heap.MadeExcOf h h' e (.ref C) rest →
      wpAny (model prog w) A (call (.ref fI) (.ref e :: rest)) (fun r s' => r = .none ∧ Q (.done (.ret (.ref e))) s') E ⟨h', g, d, t, os⟩) (hrest : rest.length ≤ sizeLine := by size_fits) :
    wpAny (model prog w) A (Builtin.«type.__call__» ⟨.ref C :: rest, []⟩) Q E ⟨h, g, d, t, os⟩ := by
  repeat (first | with_reducible refine wpAny_loadPart_at hC ?_ | with_reducible refine wpAny_madeBy_exc hC ?_ | wp_step)
  refine codeAny_call_builtin_code (Code.quiet_builtin _ F.quiet) (wpAny_check_new_subT F T hC ?_)
  refine codeAny_exc_new_subT F T hC ?_ hrest
  show wpAny _ _ _ _ _ _
  have hC₁ := Heap.get?_push_of_some { cls := .ref C, data := .fields #[.ref h.objs.size, .none, .none, .none, .bool false, .none] }
    (Heap.get?_push_of_some { cls := .type "tuple", data := .seq rest.toArray } hC)
  have hfI₁ := Heap.get?_push_of_some { cls := .ref C, data := .fields #[.ref h.objs.size, .none, .none, .none, .bool false, .none] }
    (Heap.get?_push_of_some { cls := .type "tuple", data := .seq rest.toArray } hfI)
  have hn₁ : ((h.push { cls := .type "tuple", data := .seq rest.toArray }).push { cls := .ref C, data := .fields #[.ref h.objs.size, .none, .none, .none, .bool false, .none] }).Ns N mN :=
    let ⟨o, es, ep, e, r⟩ := hn; ⟨o, es, ep, Heap.get?_push_of_some _ (Heap.get?_push_of_some _ e), r⟩
  have hget : ((h.push { cls := .type "tuple", data := .seq rest.toArray }).push
      { cls := .ref C, data := .fields #[.ref h.objs.size, .none, .none, .none, .bool false, .none] }).get? (h.objs.size + 1) = some
      { cls := .ref C, data := .fields #[.ref h.objs.size, .none, .none, .none, .bool false, .none] } := by heap_get
  have hcC : (Value.ref C :: bm).contains (.ref C) = true := by simp
  have T₁ := T.keeps (h' := (h.push { cls := .type "tuple", data := .seq rest.toArray }).push { cls := .ref C, data := .fields #[.ref h.objs.size, .none, .none, .none, .bool false, .none] })
    fun b o e => Heap.get?_push_of_some _ (Heap.get?_push_of_some _ e)
  unfold isInstance
  repeat (first | with_reducible refine wpAny_loadPart_at hget ?_ | (with_reducible refine wpAny_isSubtype_exc hC₁ ?_; rw [hcC]) | wp_step)
  show wpAny _ _ (typeLookup (.ref C) _) _ _ _
  refine wpAny_typeLookup_tail hC₁ hn₁ T₁ F.mroIs F.init.lookup ?_
  rw [hi]
  refine wpAny_holding (wpAny_bind ?_)
  unfold bindSpecial
  refine wpAny_bind (wpAny_typeOf (T := "function") ⟨_, hfI₁, hfc⟩ ?_)
  rw [if_pos (by decide)]
  refine wpAny_pure (wpAny_bind (wpAny_mono (hq _ (h.objs.size + 1) ⟨fun b o hb => Heap.get?_push_of_some _ (Heap.get?_push_of_some _ hb), Heap.get?_none_of_le (Nat.le_succ _), h.objs.size, hget, Heap.get?_none_of_le (Nat.le_refl _), ?_⟩) (fun r s' hr => ?_) fun _ _ x => x))
  · exact Heap.get?_push_of_some _ (Heap.get?_push_at rfl rfl)
  · obtain ⟨rfl, hQ⟩ := hr
    wp_walk
    exact hQ
theorem call_initT (F : ExcBaseFacts B newId initId bmB) (T : OwnTail h bmB bm) {mN : Str → Option Value} {rest : List Value} {fI : Addr} {oI : Obj} {Q : Value → Shared → Prop}
    (hC : h.get? C = some (excClassObj nm q C N bs bm hdct sn sub ab col dd k0 k1 k2 k3 k5 newId)) (hn : h.Ns N mN) (hi : mN "__init__" = some (.ref fI))
    (hfI : h.get? fI = some oI) (hfc : oI.cls = .type "function")
    (hq : ∀ h' e, Heap.MadeExcOf h h' e (.ref C) rest →
      wpAny (model prog w) (A.under (.builtin "type.__call__" ⟨.ref C :: rest, []⟩)) (call (.ref fI) (.ref e :: rest)) (fun r s' => r = .none ∧ Q (.ref e) s') E ⟨h', g, d, t, os⟩) (hrest : rest.length ≤ sizeLine := by size_fits) :
    wpAny (model prog w) A (call (.ref C) rest) Q E ⟨h, g, d, t, os⟩ := by
  have f1 := tc_lookup
  have f2 := tc_bind (.ref C)
  have hT : (⟨h, g, d, t, os⟩ : Shared).TypeIs (.ref C) "type" := ⟨_, hC, rfl⟩
  refine wpAny_call (codeAny_of_tree ?_)
  show wpAny _ _ (callAny (.ref C) _) _ _ _
  repeat (any_goals (first | assumption | with_reducible refine wpAny_loadPart_at hC ?_ | wp_step))
  refine ⟨rfl, ?_⟩
  refine codeAny_call_builtin_at (Code.quiet_builtin _ (by decide +kernel)) entry_typeCall (wpAny_check_type_call_sub hC (type_call_initT (hrest := hrest) F T hC hn hi hfI hfc fun h' e hm => ?_))
  exact hq h' e hm
end
section
variable {prog : Program} {w : World} {A : Around} {E : Value → Shared → Prop} {s : Shared} {K : Frag} {C S x : Addr} {name : Str} {v : Value}
theorem store_exc {Q : Unit → Shared → Prop} {cd : ClassData} {vs : Array Value} {sl : Array (Option Value)} (X : K.In s.heap) (hc : clsIn K C = some cd) (hm : cd.mro = [.ref C, .ref S, .type "ValueError", .type "Exception", .type "BaseException", .type "object"]) (hd : cd.hasDict = true)
    (hs : findIn K (.ref C) "__setattr__" = some (some (.builtin "object.__setattr__"))) (hn : findIn K (.ref C) name = some none) (hx : s.heap.get? x = some ⟨.ref C, none, .fields vs, sl⟩)
    (h : ∀ h' dx, s.heap.get? dx = none → h'.get? x = some ⟨.ref C, some dx, .fields vs, sl⟩ → h'.Ns1 dx (fun y => if y = name then some v else none) → (∀ b o, b ≠ x → s.heap.get? b = some o → h'.get? b = some o) → ∀ tk, Q () { s with heap := h', toks := tk }) :
    wpAny (model prog w) A (setAttr (.ref x) name v) Q E s := by
  have SF := PySem.F.store_object
  have I : InstAt s.heap x ⟨.ref C, none, .fields vs, sl⟩ C none := ⟨hx, rfl, rfl, trivial⟩
  refine set_plain X I hs ?_
  have sub : Looks (model prog w) s.heap (isInstance (.ref x) (.type "object")) true := I.type.andThen (looks_mroIn X (by unfold mroIn; rw [hc, Option.bind_some, hm]; rfl))
  refine codeAny_call_builtin SF.slot.plain SF.entry (@check_slot (model prog w) _ _ { s with toks := s.toks + 1 } "object.__setattr__" "object" "__setattr__" (.ref x) [.str name s.toks, v] [] _ SF.kind SF.split sub (SF.args (.ref x) (.str name s.toks) v) ?_)
  have hmm : Looks (model prog w) s.heap (mroOf (.ref C)) cd.mro := (looks_clsIn X hc).andThen .now
  rw [osa_eq, refuse_eq]
  refine wpAny_bind (wpAny_bind (I.type.here (s := { s with toks := s.toks + 1 }) (wpAny_bind (hmm.here (s := { s with toks := s.toks + 1 }) ?_))))
  rw [hm, refuseLoop_ref, refuseLoop_ref, PySem.F.store_ValueError.passes]
  refine wpAny_pure (wpAny_bind (I.type.here (s := { s with toks := s.toks + 1 }) (wpAny_bind ((looks_findIn X hn).here (s := { s with toks := s.toks + 1 }) (wpAny_bind ?_)))))
  refine wpAny_pure ?_
  show wpAny _ _ (Builtin.ObjectAttr.storeInOwnDict (.ref x) (.ref C) (.str name s.toks) name v _) _ _ _
  unfold Builtin.ObjectAttr.storeInOwnDict
  refine wpAny_bind (wpAny_pure (wpAny_bind (wpAny_bind (wpAny_loadPart hx (wpAny_bind ((looks_clsIn X hc).here (s := { s with toks := s.toks + 1 }) ?_))))))
  rw [hd]
  have hx₁ : (s.heap.push { cls := .type "dict", data := .dict #[] }).get? x = some ⟨.ref C, none, .fields vs, sl⟩ := Heap.get?_push_of_some _ hx
  have hxs : x ≠ s.heap.objs.size := Nat.ne_of_lt (Heap.lt_size hx)
  refine wpAny_bind (wpAny_alloc (s := { s with toks := s.toks + 1 }) ?_)
  refine wpAny_bind (wpAny_update (s := { s with heap := s.heap.push { cls := .type "dict", data := .dict #[] }, toks := s.toks + 1 }) hx₁ ?_)
  refine wpAny_pure ?_
  have hgd : ((s.heap.push { cls := .type "dict", data := .dict #[] }).update x fun o => { cls := o.cls, dict := some s.heap.objs.size, data := o.data, slots := o.slots }).get? s.heap.objs.size
      = some { cls := .type "dict", data := .dict #[] } :=
    (Heap.get?_update_ne _ _ _ _ hxs.symm).trans (Heap.get?_push_at rfl rfl)
  have hnd : ((s.heap.push { cls := .type "dict", data := .dict #[] }).update x fun o => { cls := o.cls, dict := some s.heap.objs.size, data := o.data, slots := o.slots }).Ns s.heap.objs.size (fun _ => none) :=
    ⟨_, #[], _, hgd, rfl, fun e he => absurd he (by simp), fun _ => rfl⟩
  show wpAny _ _ (Builtin.ObjectAttr.storeInDict s.heap.objs.size (.str name _) name v) _ _ _
  unfold Builtin.ObjectAttr.storeInDict Builtin.ObjectAttr.newKeyGuard
  refine wpAny_bind (wpAny_pure (wpAny_bind (wpAny_nsSet1 (Heap.Ns1.of_empty hnd) fun h' hn' hs => ?_)))
  obtain ⟨oD, esD, epD, hoD, hdD, hcD⟩ := hn'.count (Within.cons name v Within.nil)
  refine wpAny_bind (wpAny_lookBehind hoD (by rw [hdD]; exact pastItsLine_dict (Nat.le_trans hcD (by rw [List.length_cons, List.length_nil, sizeLine_eq]; omega))) ?_)
  refine wpAny_pure ?_
  refine h h' s.heap.objs.size (Heap.get?_none_of_le (Nat.le_refl _)) ?_ hn' (fun b o hb e => ?_) _
  · exact (hs.2 x hxs).trans (Heap.get?_update_self _ hx₁ rfl)
  · exact (hs.2 b (Nat.ne_of_lt (Heap.lt_size e))).trans ((Heap.get?_update_ne _ _ _ _ hb).trans (Heap.get?_push_of_some _ e))
end
end Hs
set_option Elab.async false
set_option linter.all false
set_option maxRecDepth 100000
namespace Hs
open PySem PySem.Spec PySem.Calls PyProof.Rows PySem.W
def wrapI (x : Addr) : Obj := { cls := .type "method-wrapper", data := .fields #[.builtin "ValueError.__init__", .ref x] }
theorem slot_wget : Slot "wrapper_descriptor" "__get__" "wrapper_descriptor.__get__" :=
  .of (owner := "wrapper_descriptor") (n := "__get__") (by rw [typeLookup_type, builtinLookup_eq_fast]; kernel_rfl) (by decide +kernel) (by decide +kernel) (by decide +kernel)
    (by first | exact .inl (by decide +kernel) | exact .inr (by decide +kernel)) (by rw [isSubtype_type]; kernel_rfl)
theorem entry_wget : entryFor table "wrapper_descriptor.__get__" = some Builtin.«wrapper_descriptor.__get__» := entryFor_of_tree (by kernel_rfl)
theorem args_wget (a b c : Value) : argsOk "wrapper_descriptor.__get__" ⟨[a, b, c], []⟩ := by unfold argsOk; kernel_rfl
theorem type_vi : typeOf (.builtin "ValueError.__init__") = pure (.type "wrapper_descriptor") := by show builtinType _ = _; rw [builtinType_eq_fast]; kernel_rfl
section
variable {prog : Program} {w : World} {M : Model} {A : Around} {E : Value → Shared → Prop} {h : Heap} {g : Array GenState} {d : Drawn} {t : Nat} {os : OsState}
theorem run_wget {x C : Addr} {P : Fin → Shared → Prop} (hi : Looks M h (isInstance (.ref x) (.type "ValueError")) true) (k : P (.done (.ret (.ref h.objs.size))) ⟨h.push (wrapI x), g, d, t, os⟩) :
    wpAny M A (Builtin.«wrapper_descriptor.__get__» ⟨[.builtin "ValueError.__init__", .ref x, .ref C], []⟩) P E ⟨h, g, d, t, os⟩ := by
  unfold Builtin.«wrapper_descriptor.__get__»
  refine wpAny_bind (wpAny_of_eq (a := (.builtin "ValueError.__init__", some (.ref x), some (.ref C))) (by first | rfl | kernel_rfl) ?_)
  show wpAny M A ((kfb_private% "checkInstance") (.builtin "ValueError.__init__") (.ref x) >>= fun _ => (newFields "method-wrapper" [.builtin "ValueError.__init__", .ref x]) >>= fun v => ret v) P E _
  refine wpAny_bind ?_
  show wpAny M A ((kfb_private% "nameAndClass") (.builtin "ValueError.__init__") >>= _) _ E _
  refine wpAny_bind (wpAny_of_eq (a := ((Str.ofString "__init__", Value.type "ValueError") : Str × Value)) (by first | rfl | kernel_rfl) ?_)
  refine wpAny_bind (Looks.at hi ?_)
  refine wpAny_pure ?_
  exact wpAny_bind (wpAny_newObj_type (wpAny_pure k))
theorem ga_init {so D x C : Addr} {l₀ l : List Value} {K : Frag} {tk : Tok} {Q : Fin → Shared → Prop}
    (hso : h.get? so = some { cls := .type "super", dict := none, data := .fields #[.ref D, .ref x, .ref C], slots := #[] }) (hno : Looks (model prog w) h (opaqueClassAbove (.ref C)) none)
    (hC : Looks (model prog w) h (mroOf (.ref C)) l₀) (hl : (l₀.dropWhile (· != .ref D)).drop 1 = l) (X : K.In h)
    (hf : alongIn K "__init__" l = some (some (.builtin "ValueError.__init__"))) (hxC : x ≠ C) (hi : Looks (model prog w) h (isInstance (.ref x) (.type "ValueError")) true)
    (hq : Q (.done (.ret (.ref h.objs.size))) ⟨h.push (wrapI x), g, d, t, os⟩) :
    wpAny (model prog w) A (Builtin.«super.__getattribute__» ⟨[.ref so, .str "__init__" tk], []⟩) Q E ⟨h, g, d, t, os⟩ := by
  have hn : ((Str.ofString "__init__") == (Str.ofString "__class__" : Str)) = false := by decide
  have hlk := slot_wget.lookup
  have hTb : (⟨h, g, d, t, os⟩ : Shared).TypeIs (.builtin "ValueError.__init__") "wrapper_descriptor" := type_vi
  have hne : (Value.ref x == Value.ref C) = false := by simp [hxC]
  have hdt : ({ cls := .type "super", dict := none, data := .fields #[.ref D, .ref x, .ref C], slots := #[] } : Obj).data = .fields #[.ref D, .ref x, .ref C] := rfl
  have f0 : (#[.ref D, .ref x, .ref C] : Array Value)[0]? = some (.ref D) := rfl
  have f1 : (#[.ref D, .ref x, .ref C] : Array Value)[1]? = some (.ref x) := rfl
  have f2 : (#[.ref D, .ref x, .ref C] : Array Value)[2]? = some (.ref C) := rfl
  unfold Builtin.«super.__getattribute__»
  repeat (first
    | (with_reducible refine wpAny_field hso hdt f0 ?_) | (with_reducible refine wpAny_field hso hdt f1 ?_) | (with_reducible refine wpAny_field hso hdt f2 ?_)
    | (with_reducible refine ks_wpAny_notOpaque hno ?_)
    | (with_reducible refine Looks.at hC ?_; rw [hl])
    | (refine ks_forIn_along X (fun _ _ => rfl) rfl ?_ hf)
    | (with_reducible refine wpAny_typeOf hTb ?_)
    | (with_reducible refine wpAny_of_eq hlk ?_)
    | (with_reducible refine wpAny_call_entry slot_wget hTb entry_wget ?_ (args_wget _ _ _))
    | (with_reducible refine run_wget hi ?_)
    | (with_reducible refine ⟨_, rfl, ?_⟩)
    | (simp only [hn, hne, Bool.or_false, Bool.false_eq_true, if_false])
    | wp_step
    | dsimp only)
  all_goals exact hq
theorem getm_init {so D x C : Addr} {l₀ l : List Value} {K : Frag} {pl : Sem Bool} {Q : Value × List Value → Shared → Prop}
    (hso : h.get? so = some { cls := .type "super", dict := none, data := .fields #[.ref D, .ref x, .ref C], slots := #[] }) (hno : Looks (model prog w) h (opaqueClassAbove (.ref C)) none)
    (hC : Looks (model prog w) h (mroOf (.ref C)) l₀) (hl : (l₀.dropWhile (· != .ref D)).drop 1 = l) (X : K.In h)
    (hf : alongIn K "__init__" l = some (some (.builtin "ValueError.__init__"))) (hxC : x ≠ C) (hi : Looks (model prog w) h (isInstance (.ref x) (.type "ValueError")) true)
    (hq : Q (.ref h.objs.size, []) ⟨h.push (wrapI x), g, d, t + 1, os⟩) :
    wpAny (model prog w) A (getMethod (.ref so) "__init__" pl) Q E ⟨h, g, d, t, os⟩ := by
  have hlk := F.ks_slot_super_ga.lookup
  have hcan := F.ks_canon_super_ga
  have hT : ∀ t', (⟨h, g, d, t', os⟩ : Shared).TypeIs (.ref so) "super" := fun _ => ⟨_, hso, rfl⟩
  unfold getMethod
  refine wpAny_bind (wpAny_specialOf (hT _) hlk ?_)
  show wpAny _ _ (if (Manifest.canonical "super.__getattribute__" != "object.__getattribute__") = true then _ else _) _ _ _
  rw [if_pos hcan]
  unfold getAttr getAttrBy
  refine wpAny_bind (wpAny_bind (wpAny_mkText (wpAny_holding (wpAny_bind (wpAny_typeOf (hT _) (wpAny_bind (wpAny_of_eq hlk ?_)))))))
  show wpAny _ _ (getAttrByItsOwn (.ref so) (.str "__init__" t) (.type "super") (.builtin "super.__getattribute__") true false) _ _ _
  unfold getAttrByItsOwn hookBefore callGetattribute boundAndCalled
  refine wpAny_bind (wpAny_of_eq (show (if onTheHeap (.type "super") then typeLookup (.type "super") "__getattr__" else pure none) = pure none from rfl) ?_)
  refine wpAny_bind (wpAny_attempt (wpAny_holding ?_))
  show wpAny _ _ (bindSpecial (.builtin "super.__getattribute__") (.ref so) >>= _) _ _ _
  refine wpAny_bind (wpAny_of_eq (F.ks_slot_super_ga.bind _) ?_)
  refine wpAny_mono (Q := fun v s' => v = .ref h.objs.size ∧ s' = ⟨h.push (wrapI x), g, d, t + 1, os⟩) (E := fun _ _ => False)
    (wpAny_call_entry F.ks_slot_super_ga (hT _) F.ks_entry_super_ga (ga_init hso hno hC hl X hf hxC hi ⟨_, rfl, rfl, rfl⟩) (F.ks_gaArgs_super _ _)) (fun v s' hv => ?_) fun _ _ z => z.elim
  obtain ⟨rfl, rfl⟩ := hv
  exact wpAny_pure (wpAny_pure hq)
theorem call_wrap {q x C : Addr} {v a1 a2 a3 a4 a5 : Value} {tt : Addr} {oC : Obj} {cdC : ClassData} {Q : Value → Shared → Prop} (hC : h.get? C = some oC) (hcd : oC.data = .cls cdC) (hq : h.get? q = some (wrapI x)) (hx : h.get? x = some { cls := .ref C, data := .fields #[.ref tt, a1, a2, a3, a4, a5] })
    (k : ∀ h' t2, h'.get? x = some { cls := .ref C, data := .fields #[.ref t2, a1, a2, a3, a4, a5] } → h'.get? t2 = some { cls := .type "tuple", data := .seq #[v] } → h.get? t2 = none → (∀ b o, b ≠ x → h.get? b = some o → h'.get? b = some o) → Q .none ⟨h', g, d, t, os⟩) :
    wpAny (model prog w) A (call (.ref q) [v]) Q E ⟨h, g, d, t, os⟩ := by
  have F := PySem.F.excBase_ValueError
  refine wpAny_call (codeAny_of_tree ?_)
  show wpAny _ A.in1 (callAny (.ref q) _) _ _ _
  unfold callAny
  refine wpAny_bind (wpAny_load hq ?_)
  show wpAny _ _ (checkBoundCall "ValueError.__init__" ⟨[.ref x, v], []⟩ >>= fun _ => again (.builtin "ValueError.__init__" ⟨[.ref x, v], []⟩) >>= fun z => pure z) _ _ _
  refine wpAny_bind ?_
  unfold checkBoundCall
  simp only [F.initKind, F.initRow]
  rw [if_pos (by decide)]
  unfold Bind.checkArgs
  repeat (first | (with_reducible refine wpAny_load hC ?_; rw [hcd]) | wp_step)
  refine ⟨Code.quiet_builtin _ (by decide +kernel), codeAny_builtin F.initEntry ?_⟩
  unfold Builtin.«BaseException.__init__» Builtin.BaseException.bexcPut
  have hx₁ : (h.push { cls := .type "tuple", data := .seq [v].toArray }).get? x = some { cls := .ref C, data := .fields #[.ref tt, a1, a2, a3, a4, a5] } := Heap.get?_push_of_some _ hx
  have hxs : x ≠ h.objs.size := Nat.ne_of_lt (Heap.lt_size hx)
  show wpAny _ _ (newTuple [v] >>= _) _ _ _
  refine wpAny_bind (wpAny_newTuple ?_ (by rw [sizeLine_eq]; show 1 ≤ _; decide))
  refine wpAny_bind (wpAny_bind (wpAny_field hx₁ rfl (x := .ref tt) rfl ?_))
  refine wpAny_bind (wpAny_setField_rec hx₁ (by simp) fun h1 e1 s1 => ?_)
  refine wpAny_letGo ?_
  refine wpAny_pure ?_
  refine k h1 h.objs.size (by simpa using e1) ((s1.2 _ hxs.symm).trans (Heap.get?_push_at rfl rfl)) (Heap.get?_none_of_le (Nat.le_refl _)) fun b o hb e => ?_
  exact (s1.2 b hb).trans (Heap.get?_push_of_some _ e)
end
end Hs
set_option Elab.async false
set_option linter.all false
set_option maxRecDepth 100000
namespace Hs
open PySem PySem.Spec PySem.Calls PyProof.Rows PySem.W L2
abbrev vbm4 : List Value := [.type "ValueError", .type "Exception", .type "BaseException", .type "object"]
def excInI (K : Frag) (C S fI : Addr) : Bool := match K.lookup C with
  | some ⟨.type "type", _, .cls cd, sl⟩ => (match cd.mro, sl.toList with
    | .ref C' :: bm, [_, _, _, _, some (.builtin n), _] => C' == C && n == "ValueError.__new__" && !cd.hasDel && tailIn K vbm4 bm && nsOkIn K cd.ns && nsIn K cd.ns "__init__" == some (some (.ref fI)) && bm == .ref S :: vbm4 && cd.hasDict
    | _, _ => false)
  | _ => false
def TextOk (prog : Program) (w : World) (txt : PySem.Expr) (p : Str) (v : Value) : Prop := ∀ (A : Around) (E : Value → Shared → Prop) (env : Env) (s : Shared) (m : Str → Option Value) (Q : Value → Shared → Prop), env.scope.kind = .function → env.kindOf p = some .local → s.heap.Ns env.locals m → m p = some v →
  (∀ x tk tk', Q (.str x tk) { s with toks := tk' }) → wpAny (model prog w) A (eval txt env) Q E s
def InitBody (fld p : Str) (pts : List PySem.Expr) (tp : Pos) (body : List Stmt) : Prop := ∃ p0 p1 p2 p3 p4 p5 p6 p7 p8, (p2.endLine == p3.line) = true ∧ body = [.Expr (.Call (.Attribute (.Call (.Name "super" p0) [] [] p1) "__init__" p2) [.JoinedStr pts tp] [] p3) p4, .Assign [.Attribute (.Name "self" p5) fld p6] (.Name p p7) p8]
structure InitE (prog : Program) (K : Frag) (C S fI : Addr) (p fld : Str) (pts : List PySem.Expr) (tp : Pos) : Prop where
  cls : excInI K C S fI = true
  set : findIn K (.ref C) "__setattr__" = some (some (.builtin "object.__setattr__"))
  nof : findIn K (.ref C) fld = some none
  along : alongIn K "__init__" (.ref S :: vbm4) = some (some (.builtin "ValueError.__init__"))
  opq : nsIn K cStatics "thirdparty.any" = some none
  sup : nsIn K mainGlobals "super" = some none
  top : (prog.main.scope.names.lookup ("super" : Str)).isSome = false
  fn : ∃ (qual : Str) (params : Arguments) (body : List Stmt) (scope : Scope) (dV kV doc pm ct : Value) (an od : Option Addr) (osl : Array (Option Value)) (cda cc : Addr) (vs : Array Value) (file : Str) (tf : Tok) (ccl cl : Value) (cdd cld : Option Addr) (ccs csl : Array (Option Value)) (ar : Arg),
    K.lookup fI = some ⟨.type "function", od, .func (ksFn "__init__" qual params body scope dV kV doc pm an (.ref cda) ct cc), osl⟩ ∧ codeIn K (.ref cda) qual = true ∧ InitBody fld p pts tp body ∧
    (params.posonlyargs ++ params.args).head? = some ar ∧ ar.arg = "self" ∧ K.lookup cda = some ⟨ccl, cdd, .fields vs, ccs⟩ ∧ vs[2]? = some (.str file tf) ∧ ((prog.main.file : Str) == file) = true ∧
    K.lookup cc = some ⟨cl, cld, .cell (some (.ref C)), csl⟩ ∧ scope.names.lookup ("super" : Str) = some .globalImplicit ∧ scope.names.lookup ("__class__" : Str) = some .free ∧ scope.names.lookup ("self" : Str) = some .local ∧ scope.names.lookup p = some .local ∧
    scope.kind = .function ∧ scope.isCoroutine = false ∧ scope.isGenerator = false ∧ (∀ x ∈ scope.names, x.2 ≠ .cell) ∧
    (∀ a b : Value, bindArgs (ksFn "__init__" qual params body scope dV kV doc pm an (.ref cda) ct cc) ⟨[a, b], []⟩ = pure [((Str.ofString "self" : Str), a), (p, b)])
section
variable {M : Model} {prog : Program} {w : World} {A : Around} {E : Value → Shared → Prop} {s : Shared}
theorem callWith_wrap {pos : Pos} {u x : Addr} {args : List (Bool × Sem Value)} {Q : Value → Shared → Prop} (hplain : args.any (·.1) = false)
    (h : wpAny M A (evalArgs (.ref u) true args []) (fun y s₁ => s₁.heap.get? u = some (wrapI x) ∧ wpAny M A (call (.ref u) ([] ++ y.pos) y.kw) Q E s₁) E s) : wpAny M A (callWith pos (.ref u) [] args []) Q E s := by
  unfold callWith
  refine wpAny_bind (wpAny_holding (wpAny_mono h (fun y s₁ h₁ => wpAny_bind (wpAny_standAt ?_)) fun _ _ x => x))
  obtain ⟨ho, hcall⟩ := h₁
  simp only [hplain, List.any_nil, Bool.or_false]
  refine wpAny_bind (m := keeperOf (.ref u)) ?_
  unfold keeperOf
  refine wpAny_bind (wpAny_load ho ?_)
  simp only [wrapI, show (Value.type "method-wrapper" != Value.type "method") = true by decide, show (Value.type "method-wrapper" == Value.type "builtin_function_or_method" || Value.type "method-wrapper" == Value.type "method-wrapper") = true by decide, if_true]
  refine wpAny_pure ?_
  exact wpAny_bind (wpAny_mono hcall (fun r s₂ hr => wpAny_bind (wpAny_holding (wpAny_point (wpAny_pure hr)))) fun _ _ x => x)
theorem mc_eq {p0 p1 p2 p3 tp : Pos} {pts : List PySem.Expr} {env : Env} (hpos : (p2.endLine == p3.line) = true) : eval (.Call (.Attribute (.Call (.Name "super" p0) [] [] p1) "__init__" p2) [.JoinedStr pts tp] [] p3) env = (do
      let ov ← attributeBase (.Call (.Name "super" p0) [] [] p1) "__init__" env (eval (.Call (.Name "super" p0) [] [] p1) env)
      standAt p2.atName
      let (f, first) ← holding [ov] (getMethod ov "__init__" (do return (← importBound (.Call (.Name "super" p0) [] [] p1) env).getD true))
      callWith p3 f first (backTo p3 (starEach [.JoinedStr pts tp] env)) []) := by
  have e : methodCallPos true (.Call (.Name "super" p0) [] [] p1) env p2 p3 = pure p3 := by
    unfold methodCallPos
    rw [if_pos (by rw [hpos]; rfl)]
  show (do
      let ov ← attributeBase (.Call (.Name "super" p0) [] [] p1) "__init__" env (eval (.Call (.Name "super" p0) [] [] p1) env)
      standAt p2.atName
      let (f, first) ← holding [ov] (getMethod ov "__init__" (do return (← importBound (.Call (.Name "super" p0) [] [] p1) env).getD true))
      let cp ← methodCallPos true (.Call (.Name "super" p0) [] [] p1) env p2 p3
      callWith cp f first (backTo p3 (starEach [.JoinedStr pts tp] env)) []) = _
  simp only [e, pure_bind]
theorem boot_super : bootBuiltins "super" = some (.type "super") := by decide +kernel
end
section
variable {prog : Program} {w : World} {A : Around} {E : Value → Shared → Prop} {s : Shared} {K : Frag} {mg : Str → Option Value} {base : Heap} {C S fI e tt : Addr} {p fld : Str} {pts : List PySem.Expr} {tp : Pos} {v a1 a2 a3 a4 a5 : Value}
theorem init_run {Q : Value → Shared → Prop} (M0 : Mod K mg base) (bk : ∀ b o, base.get? b = some o → s.heap.get? b = some o) (I : InitE prog K C S fI p fld pts tp) (hpn : p ≠ "self") (hnb : base.get? e = none)
    (he : s.heap.get? e = some { cls := .ref C, data := .fields #[.ref tt, a1, a2, a3, a4, a5] }) (hroom : A.depth < recursionLimit) (ht : TextOk prog w (.JoinedStr pts tp) p v) (hdb : (p == ("__debug__" : Str)) = false)
    (k : ∀ h' dx t2 tk, h'.get? e = some ⟨.ref C, some dx, .fields #[.ref t2, a1, a2, a3, a4, a5], #[]⟩ → s.heap.get? dx = none → dx ≠ e → h'.Ns1 dx (fun y => if y = fld then some v else none) → (∀ b o, b ≠ e → s.heap.get? b = some o → h'.get? b = some o) → Q .none { s with heap := h', toks := tk }) :
    wpAny (model prog w) A (call (.ref fI) [.ref e, v]) Q E s := by
  have X : K.In s.heap := M0.kin.keeps bk
  obtain ⟨qual, params, body, scope, dV, kV, doc, pm, ct, an, od, osl, cda, cc, vs, file, tf, ccl, cl, cdd, cld, ccs, csl, ar, hf, hcode, ⟨p0, p1, p2, p3, p4, p5, p6, p7, p8, hpos, rfl⟩, har, hars, hcda, hvs, hfile, hcell, ks, kc, kself, kp, kk, kco, kg, knc, hbind⟩ := I.fn
  obtain ⟨cd, hcl, hmro, hhd⟩ : ∃ cd, clsIn K C = some cd ∧ cd.mro = .ref C :: .ref S :: vbm4 ∧ cd.hasDict = true := by
    have q := I.cls
    unfold excInI at q
    split at q
    · rename_i dd cd sl ho
      split at q
      · rename_i C' bm k0 k1 k2 k3 n k5 hm hs
        simp only [Bool.and_eq_true, beq_iff_eq] at q
        obtain ⟨⟨⟨⟨⟨⟨⟨q1, _⟩, _⟩, _⟩, _⟩, _⟩, q2⟩, q3⟩ := q
        subst q1
        refine ⟨cd, by unfold clsIn; rw [ho], by rw [hm, q2], q3⟩
      · cases q
    · cases q
  obtain ⟨oC, hoC, hdC⟩ : ∃ oC, s.heap.get? C = some oC ∧ oC.data = .cls cd := by
    unfold clsIn at hcl
    split at hcl
    · rename_i c d cd' sl ho
      cases hcl
      exact ⟨_, X _ _ ho, rfl⟩
    · cases hcl
  obtain ⟨mb, hb1, hb2⟩ := M0.blt
  refine wpAny_call (ks_codeAny_call_defAt (fd := ksFn "__init__" qual params _ scope dV kV doc pm an (.ref cda) ct cc) (binds := [((Str.ofString "self" : Str), .ref e), (p, v)]) hroom (X _ _ hf) rfl (M0.nolimit.keeps bk) (codeRec_of X hcode) rfl (.of_eq (hbind _ _)) knc ?_ (fun h₁ hns hk₁ => ?_) kco kg kk)
  · intro y hy
    simp at hy
    rcases hy with rfl | rfl
    · exact kself
    · exact kp
  have X1 : K.In h₁ := X.keeps hk₁
  have hm1 : ([((Str.ofString "self" : Str), Value.ref e), (p, v)].reverse.lookup ("self" : Str)) = some (.ref e) := by
    have hsp : ((Str.ofString "self" : Str) == p) = false := beq_eq_false_iff_ne.mpr hpn.symm
    simp [List.lookup, hsp]
  have hm2 : ([((Str.ofString "self" : Str), Value.ref e), (p, v)].reverse.lookup p) = some v := by simp [List.lookup]
  obtain ⟨hh, g, d, t, os⟩ := s
  have hinst : ∀ {h : Heap}, K.In h → h.get? e = some { cls := .ref C, data := .fields #[.ref tt, a1, a2, a3, a4, a5] } → Looks (model prog w) h (isInstance (.ref e) (.type "ValueError")) true := fun Xh hx =>
    (show InstAt _ e _ C none from ⟨hx, rfl, rfl, trivial⟩).type.andThen (looks_mroIn Xh (by unfold mroIn; rw [hcl, Option.bind_some, hmro]; rfl))
  have halong : alongIn K "__init__" (.ref S :: vbm4) = some (some (.builtin "ValueError.__init__")) := I.along
  have heC : e ≠ C := ks_ne X (show InstAt _ e _ C none from ⟨he, rfl, rfl, trivial⟩) hcl
  have hsub : mroIn K C (.ref C) = some true := by unfold mroIn; rw [hcl, Option.bind_some, hmro]; simp
  have hint : interactive (callEnv (ksFn "__init__" qual params [.Expr (.Call (.Attribute (.Call (.Name "super" p0) [] [] p1) "__init__" p2) [.JoinedStr pts tp] [] p3) p4, .Assign [.Attribute (.Name "self" p5) fld p6] (.Name p p7) p8] scope dV kV doc pm an (.ref cda) ct cc) hh.objs.size fI) = false := by
    unfold interactive
    rw [show (callEnv (ksFn "__init__" qual params [.Expr (.Call (.Attribute (.Call (.Name "super" p0) [] [] p1) "__init__" p2) [.JoinedStr pts tp] [] p3) p4, .Assign [.Attribute (.Name "self" p5) fld p6] (.Name p p7) p8] scope dV kV doc pm an (.ref cda) ct cc) hh.objs.size fI).scope.kind = .function from kk]
    rfl
  refine ks_wpAt_execs_cons (ks_wpAt_Expr_any (ks_wpAt_MethodCall ?_ (mc_eq hpos)) hint)
  refine ks_wpAt_super_base ks kc (by decide) rfl (X1 _ _ hf) rfl har rfl (X1 _ _ hcda) rfl hvs hfile I.top ?_
  refine ks_loadName_global kk ks (loadGlobal_builtin ((M0.glob.keeps bk).keeps hk₁) (mg_none_of M0.kin M0.glob I.sup) ((hb1.keeps bk).keeps hk₁) ((hb2 _ (by decide +kernel)).trans boot_super) ⟨rfl, ?_⟩)
  refine wpAny_loadName_free kk kc rfl ⟨_, X1 _ _ hcell, rfl⟩ ?_
  rw [hars]
  refine wpAny_loadName_local kk kself hns hm1 ?_
  refine ks_wpAny_isType_cls (hk₁ _ _ hoC) hdC ⟨rfl, ?_⟩
  refine ks_wpAny_call_super (hk₁ _ _ hoC) hdC (hk₁ _ _ he) rfl (fun c z => by cases z) (looks_mroIn X1 hsub) (fun h2 e2 k2 => ?_)
  have X2 : K.In h2 := X1.keeps k2
  refine getm_init e2 (looks_opaque X2 I.opq) (l₀ := cd.mro) ((looks_clsIn X2 hcl).andThen .now) (l := .ref S :: vbm4) (by rw [hmro]; simp [List.dropWhile]) X2 ?_ heC (hinst X2 (k2 _ _ (hk₁ _ _ he))) ?_
  · exact halong
  have k3 : ∀ b o, h2.get? b = some o → (h2.push (wrapI e)).get? b = some o := fun b o z => Heap.get?_push_of_some _ z
  have hns3 : (h2.push (wrapI e)).Ns hh.objs.size (fun x => List.lookup x [((Str.ofString "self" : Str), Value.ref e), (p, v)].reverse) := (hns.keeps k2).keeps k3
  refine callWith_wrap (x := e) rfl ?_
  refine evalArgs_plain (spliced_cons (ht _ _ _ _ _ _ kk kp hns3 hm2 fun x tk tk' => spliced_nil ?_))
  refine ⟨Heap.get?_push_at rfl rfl, ?_⟩
  refine call_wrap (k3 _ _ (k2 _ _ (hk₁ _ _ hoC))) hdC (Heap.get?_push_at rfl rfl) (k3 _ _ (k2 _ _ (hk₁ _ _ he))) fun h4 t2 e4 et nt k4 => ?_
  have k14 : ∀ b o, b ≠ e → hh.get? b = some o → h4.get? b = some o := fun b o hb z => k4 b o hb (k3 _ _ (k2 _ _ (hk₁ _ _ z)))
  have k24 : ∀ b o, b ≠ e → h₁.get? b = some o → h4.get? b = some o := fun b o hb z => k4 b o hb (k3 _ _ (k2 _ _ z))
  have hLe : hh.objs.size ≠ e := (Nat.ne_of_lt (Heap.lt_size he)).symm
  have hns4 : h4.Ns hh.objs.size (fun x => List.lookup x [((Str.ofString "self" : Str), Value.ref e), (p, v)].reverse) := by
    obtain ⟨o, es, ep, ho, r⟩ := hns
    exact ⟨o, es, ep, k24 _ _ hLe ho, r⟩
  have X4 : K.In h4 := fun b o z => k14 b o (fun q => by
    have z2 := M0.kin _ _ z
    rw [q, hnb] at z2
    cases z2) (X _ _ z)
  refine ks_wpAt_execs_cons (ks_wpAt_Assign_Attr (wpAt_of_wpAny (wpAny_Name (wpAny_loadName_local kk kp hns4 hm2 ?_) hdb)))
  refine wpAny_Name (wpAny_loadName_local kk kself hns4 hm1 ?_) (by decide)
  refine store_exc X4 hcl hmro hhd I.set I.nof e4 fun h5 dx n5 e5 d5 k5 tk => ?_
  refine wpAt_of_wpAny (wpAny_execs_nil ?_)
  refine k h5 dx t2 _ e5 ?_ ?_ d5 fun b o hb z => k5 b o hb (k14 b o hb z)
  · cases q : hh.get? dx with
    | none => rfl
    | some o =>
      by_cases z : dx = e
      · subst z; rw [e4] at n5; cases n5
      · rw [k14 _ _ z q] at n5; cases n5
  · intro z; subst z; rw [e4] at n5; cases n5
end
end Hs
set_option Elab.async false
set_option linter.all false
set_option maxRecDepth 100000
namespace Hs
open PySem PySem.Spec PySem.Calls PyProof.Rows PySem.W
section
variable {prog : Program} {w : World} {A : Around} {E : Value → Shared → Prop} {h : Heap} {g : Array GenState} {d : Drawn} {t : Nat} {os : OsState} {K : Frag} {a C : Addr} {o : Obj} {od : Obj} {f : Str} {v : Value}
theorem lookIn_ns {dx : Addr} {m : Str → Option Value} (hn : h.Ns1 dx m) (ho : h.get? dx = some od) (hv : m f = some v) : lookIn f od = some (some v) := by
  obtain ⟨o, es, ep, e, hd, _, _, hf⟩ := hn
  cases e.symm.trans ho
  unfold lookIn
  rw [hd]
  have q := (hf f).trans hv
  unfold nsFind findBy at q
  rw [← Array.find?_toList] at q
  dsimp only
  cases z : es.toList.find? (·.key.isStr f) with
  | none => rw [z] at q; cases q
  | some en => rw [z] at q; exact congrArg _ q
theorem exc_entryV {tk : Tok} {Q : Fin → Shared → Prop} (X : K.In h) (I : InstAt h a o C (some od)) (hf : findObj K C (some od) f = some (.value v)) (hq : Q (.done (.ret v)) ⟨h, g, d, t, os⟩) :
    wpAny (model prog w) A (Builtin.«object.__getattribute__» ⟨[.ref a, .str f tk], []⟩) Q E ⟨h, g, d, t, os⟩ := by
  have L0 := I.type (M := model prog w)
  have L1 := looks_find (M := model prog w) X I hf
  refine wpAny_bind (wpAny_pure (wpAny_bind (wpAny_pure (wpAny_bind (L0.at (wpAny_bind (L1.at ?_)))))))
  exact wpAny_pure hq
theorem exc_read {Q : Value → Shared → Prop} (G : ExcGet K C) (X : K.In h) (I : InstAt h a o C (some od)) (hf : findObj K C (some od) f = some (.value v)) (hh : handedIn v = true) (hq : Q v ⟨h, g, d, t + 1, os⟩) : wpAny (model prog w) A (getAttr (.ref a) f true) Q E ⟨h, g, d, t, os⟩ := by
  have L0 := I.type (M := model prog w)
  have L1 := looks_findIn (M := model prog w) X G.ga
  have L2 := looks_findIn (M := model prog w) X G.gn
  unfold getAttr getAttrBy
  refine wpAny_bind (wpAny_mkText (wpAny_holding (wpAny_bind (L0.at (wpAny_bind (L1.at ?_))))))
  show wpAny _ _ (getAttrByItsOwn (.ref a) _ (.ref C) (.builtin "BaseException.__getattribute__") true true) _ _ _
  have f3 := PySem.F.excAttr_ValueError.ga.bind (.ref a)
  unfold getAttrByItsOwn
  repeat (any_goals (first | assumption | with_reducible refine Looks.at (by assumption) ?_ | wp_step))
  refine codeAny_call_builtin PySem.F.excAttr_ValueError.ga.plain PySem.F.entry_bexc_ga (exc_check G X I (exc_entryV X I hf ?_))
  show wpAny _ _ (handedOut v) _ _ _
  exact wpAny_of_eq (handedOut_of hh) hq
end
end Hs
namespace Hs
open PySem PySem.Spec PyProof.Rows L2
def XO (e C : Addr) (od : Option Addr) : HO := .ext fun h => ∃ vs sl, h.get? e = some ⟨.ref C, od, .fields vs, sl⟩
section
variable {X : Cx} {e C S fI : Addr} {b : Bool} {cv : V} {cu : Value} {od : Option Addr} {x f p fld : Str} {np cpos pos : Pos} {a : Expr} {ta : TE} {t : TA} {j : Nat} {pts : List Expr} {tp : Pos}
def Kept (H : Hp) (e C : Addr) (od : Option Addr) : Prop := H e = some (XO e C od) ∧ (od = none ∨ ∃ dx fs, od = some dx ∧ H dx = some (.xd fs))
theorem Kept.same {H H' : Hp} (k : Kept H e C od) (s : Same H H') : Kept H' e C od := ⟨s _ _ k.1, k.2.imp id fun ⟨dx, fs, a, b⟩ => ⟨dx, fs, a, s _ _ b⟩⟩
theorem handed_V {v : V} {u : Value} (r : RelV v u) : PySem.W.handedIn u = true := by
  cases v <;> first | (obtain ⟨t, rfl⟩ := r; rfl) | (cases r; rfl)
end
theorem ns_some {K : PySem.W.Frag} {h : Heap} {N : Addr} {m : Str → Option Value} {n : Str} {v : Value} (X : K.In h) (G : h.Ns N m) (e : PySem.W.nsIn K N n = some (some v)) : m n = some v := by
  obtain ⟨o, es, ep, ho, hd, _, hf⟩ := G
  unfold PySem.W.nsIn at e
  split at e
  · rename_i c d es' n' sl q
    have := X _ _ q
    rw [ho] at this
    cases this
    cases hd
    split at e
    · rename_i en he
      cases e
      rw [← hf]
      unfold nsFind findBy
      rw [← Array.find?_toList, he]
      rfl
    · split at e <;> cases e
  · cases e
theorem un_laidN {fs ex : List Addr} {H : Hp} {h h' : Heap} {a : Addr} {o : HO} (k : ∀ b u, h.get? b = some u → h'.get? b = some u) (hg : h.get? a = none) (hn : H a = none) : Un fs ex H (upd H a o) h h' where
  keep := fun b u q _ _ _ => k b u q
  slot := fun b u q _ _ _ => ⟨u.slots, k b u q⟩
  free := fun b u q n _ => by rw [upd_ne (fun z => by rw [z, hg] at q; cases q)]; exact n
  there := fun b u q _ => ⟨u, k b u q⟩
  tups := fun b xs q => by rw [upd_ne (ne_of_none q hn)]; exact q
  frzs := fun b u xs q => by rw [upd_ne (ne_of_none q hn)]; exact q
  tbls := fun b ps q => ⟨#[], by rw [upd_ne (ne_of_none q hn), q]; simp⟩
theorem hok_laidN {P : Program} {w : World} {H : Hp} {h h' : Heap} {a : Addr} {o : HO} (x : HOk P w H h) (k : ∀ b u, h.get? b = some u → h'.get? b = some u) (hn : H a = none) (new : ObjOk P w (upd H a o) h' a o) : HOk P w (upd H a o) h' := fun b u e => by
  by_cases hb : b = a
  · subst hb; rw [upd_same] at e; cases e; exact new
  · rw [upd_ne hb] at e
    exact (x b u e).stay (fun c v _ q => k c v q) (fun c q => by rw [upd_ne (ne_of_none q hn)]; exact q) fun c xs q => by rw [upd_ne (ne_of_none q hn)]; exact q
section
variable {X : Cx} {e C S fI : Addr} {b : Bool} {cv : V} {cu : Value} {od : Option Addr} {x f p fld : Str} {np cpos pos : Pos} {a : Expr} {ta : TE} {t : TA} {j : Nat} {pts : List Expr} {tp : Pos}
theorem text_s {prog : Program} {w : World} {c : Str} {kd : Nat} {q1 q2 q3 tp : Pos} {p : Str} {y : Str} {tk : Tok} (hy : y.length ≤ 2000) (hc : c.length ≤ 2000) (hdb : (p == ("__debug__" : Str)) = false) : TextOk prog w (.JoinedStr [.Constant (.str c) kd q1, .FormattedValue (.Name p q2) (-1) none q3] tp) p (.str y tk) := by
  intro A E env s m Q hk hl hn hv h
  have h0 : Str.empty.length = 0 := rfl
  refine JoinedStr_many (joinParts_cons (Calls.Constant_str ?_))
  refine ⟨by rw [strLen_append, sizeLine_eq]; omega, joinParts_cons (FormattedValue_plain (wpAny_Name (wpAny_loadName_local hk hl hn hv ?_) hdb))⟩
  refine formatField_str (fun t' tk' => ⟨by rw [strLen_append, strLen_append, sizeLine_eq]; omega, joinParts_nil (h _ _ _) (by rw [strLen_append, strLen_append, sizeLine_eq]; omega)⟩) (by rw [sizeLine_eq]; omega)
end
end Hs
set_option Elab.async false
set_option linter.all false
set_option maxRecDepth 100000
namespace Hs
open PySem PySem.Spec PySem.Calls PyProof.Rows
section
variable {M : Model} {prog : Program} {w : World} {A : Around} {E : Value → Shared → Prop} {env : Env}
variable {nm q : Str} {C N : Addr} {bs bm : List Value} {hdct : Bool} {sn : List Str} {sub : List Value} {ab : Bool} {col : Option Bool} {dd : Option Addr} {k0 k1 k2 k3 k5 : Option Value} {newId : String}
theorem raise_madeD {s : Shared} {x : Sem Value} {Q : Flow → Shared → Prop} (hbase : bm.contains (.type "BaseException") = true) (hh : A.handled = none)
    (h : wpAny M A x (fun v s₁ => ∃ e t od, v = .ref e ∧ s₁.heap.get? C = some (excClassObj nm q C N bs bm hdct sn sub ab col dd k0 k1 k2 k3 k5 newId) ∧
      s₁.heap.get? e = some ⟨.ref C, od, .fields #[.ref t, .none, .none, .none, .bool false, .none], #[]⟩ ∧ E (.ref e) s₁) E s) :
    wpAny M A (raiseStmt env (some x) none) Q E s := by
  have hcB : (Value.ref C :: bm).contains (.type "BaseException") = true := by rw [List.contains_cons, hbase, Bool.or_true]
  unfold raiseStmt
  refine wpAny_bind (wpAny_mono h (fun v s₁ h₁ => ?_) fun _ _ x => x)
  obtain ⟨e, t, od, rfl, hC, he, hE⟩ := h₁
  obtain ⟨hp, g, d, tk, os⟩ := s₁
  repeat (first | with_reducible refine wpAny_loadPart_at he ?_ | with_reducible refine wpAny_loadPart_at hC ?_ | (with_reducible refine wpAny_isSubtype_exc hC ?_; rw [hcB]) | wp_step)
  exact wpAny_raiseNew_none hh hE
end
end Hs
namespace Hs
open PySem PySem.Spec PyProof.Rows L2
section
variable {X : Cx} {E : L2.St → XK} {e C S fI : Addr} {b : Bool} {cv : V} {cu : Value} {od : Option Addr} {x f p fld : Str} {np cpos pos : Pos} {a : Expr} {ta : TE} {t : TA} {j : Nat} {pts : List Expr} {tp : Pos} {oe : Obj}
theorem initCls {K : PySem.W.Frag} {base : Heap} {P : Program} (kin : K.In base) (IE : InitE P K C S fI p fld pts tp) : ∃ (tl : List Value) (N : Addr) (nm q : Str) (bs : List Value) (hdct : Bool) (sn : List Str) (sub : List Value) (ab : Bool) (col : Option Bool) (dd : Option Addr) (k0 k1 k2 k3 k5 : Option Value) (mN : Str → Option Value),
      base.get? C = some (excClassObj nm q C N bs tl hdct sn sub ab col dd k0 k1 k2 k3 k5 "ValueError.__new__") ∧ base.Ns N mN ∧ mN "__init__" = some (.ref fI) ∧ OwnTail base vbm4 tl := by
  have own := IE.cls
  unfold excInI at own
  split at own
  next dct cdt slt look =>
    split at own
    next C2 tl s0 s1 s2 s3 nw s5 mroEq slEq =>
      simp only [Bool.and_eq_true, beq_iff_eq] at own
      obtain ⟨⟨⟨⟨⟨⟨⟨e1, e2⟩, e3⟩, e4⟩, e5⟩, e6⟩, _⟩, _⟩ := own
      subst e1 e2
      obtain ⟨nm, bs, mro, ns, qn, hdd, sn, sub, ab, col, del⟩ := cdt
      have e3 : del = false := by simpa using e3
      have mroEq : mro = .ref C2 :: tl := mroEq
      subst e3 mroEq
      obtain rfl : slt = #[s0, s1, s2, s3, some (.builtin "ValueError.__new__"), s5] := by
        cases slt with
        | mk l => exact congrArg Array.mk slEq
      exact ⟨tl, ns, nm, qn, bs, hdd, sn, sub, ab, col, dct, s0, s1, s2, s3, s5, _, kin _ _ look, .of_isNs (PySem.W.isNs_of_in kin e5), ns_some kin (.of_isNs (PySem.W.isNs_of_in kin e5)) e6, PySem.W.tail_of_in kin e4⟩
    next => cases own
  next => cases own
theorem mkI_core {ok : V → Prop} {R : V → Hp → Prop} {pins : List (Addr × Obj)} {σ : L2.St} {H : Hp} {s : Shared} {Q : Value → Shared → Prop} (IE : InitE X.prog X.K C S fI p fld pts tp) (hpn : p ≠ "self") (hm : X.mg x = some (.ref C)) (kp : PySem.W.keepIn X.K (.ref C) = true) (hr : Room j X.A) (hj : 1 ≤ j) (hdp : (p == ("__debug__" : Str)) = false)
    (htx : ∀ v u, ok v → RelV v u → TextOk X.prog X.w (.JoinedStr pts tp) p u) (ha : PA X [a] t) (hg : Gl X x) (hdb : (x == ("__debug__" : Str)) = false) (he : starEach [a] X.env = [(false, eval a X.env)]) (I : L2.Inv X pins σ H s) (h : t σ H fun vs H1 => ∃ v, vs = [v] ∧ ok v ∧ R v H1)
    (hQ : ∀ (s1 : Shared) (H1 : Hp) (v : V) (u : Value) (e dx : Addr) (h2 : Heap) (t2 : Addr) (tk2 : Nat), L2.Inv X pins σ H1 s1 → RelV v u → R v H1 → s1.heap.get? e = none → s1.heap.get? dx = none → dx ≠ e → h2.get? e = some ⟨.ref C, some dx, .fields #[.ref t2, .none, .none, .none, .bool false, .none], #[]⟩ →
      h2.Ns1 dx (fun y => if y = fld then some u else none) → (∀ b o, s1.heap.get? b = some o → h2.get? b = some o) → Q (.ref e) { s1 with heap := h2, toks := tk2 }) :
    wpAny (model X.prog X.w) X.A (eval (.Call (.Name x np) [a] [] pos) X.env) Q X.xe s := by
  obtain ⟨tl, N, nm, q, bs, hdct, sn, sub, ab, col, dd, k0, k1, k2, k3, k5, mN, hC, hN, hni, T⟩ := initCls I.ok.mod.kin IE
  obtain ⟨_, _, _, _, _, _, _, _, _, _, _, _, _, _, _, _, _, _, _, _, _, _, _, _, hfI, _⟩ := id IE.fn
  refine wpAny_Call_Name_kw (ld_glob I hg hm ?_ hdb)
  refine PySem.W.callWith_K (h₀ := X.base) I.ok.mod.kin kp (thn (ha pos pins s σ H _ I h) fun us s1 ⟨vs, H1, I1, r, v, ev, hok, q⟩ => ⟨I1.kIn, ?_⟩) he rfl
  subst ev
  obtain ⟨u, rfl, ru⟩ := r.one
  obtain ⟨hp, g, d, tk, os⟩ := s1
  refine call_initT PySem.F.excBase_ValueError (T.keeps I1.bk) (I1.bk _ _ hC) (hN.keeps I1.bk) hni (I1.kIn _ _ hfI) rfl fun h' e hm' => ?_
  obtain ⟨tt, het, htn, _⟩ := hm'.there
  have hr1 : (X.A.under (.builtin "type.__call__" ⟨.ref C :: [u], []⟩)).depth < recursionLimit := ((hr.mono hj).make C [u] []).depth
  have hnb : X.base.get? e = none := by
    cases z : X.base.get? e with
    | none => rfl
    | some o => have := I1.bk _ _ z; rw [hm'.new] at this; cases this
  refine init_run (base := X.base) (s := ⟨h', g, d, tk, os⟩) I.ok.mod (fun b o z => hm'.keeps _ _ (I1.bk _ _ z)) IE hpn hnb het hr1 (htx v u hok ru) hdp fun h2 dx t2 tk2 e2 n2 ne2 d2 k2 => ⟨rfl, ?_⟩
  have nd : hp.get? dx = none := by
    cases z : hp.get? dx with
    | none => rfl
    | some o => have := hm'.keeps _ _ z; rw [n2] at this; cases this
  exact hQ ⟨hp, g, d, tk, os⟩ H1 v u e dx h2 t2 tk2 I1 ru q hm'.new nd ne2 e2 d2 fun b o z => k2 b o (fun w => by rw [w, hm'.new] at z; cases z) (hm'.keeps _ _ z)
def tRaiseI (C : Addr) (fld : Str) (ok : V → Prop) (E : L2.St → XK) (t : TA) : TS := fun _ σ H => t σ H fun vs H1 => ∃ v, vs = [v] ∧ ok v ∧ ∀ dx, H1 dx = none → E σ (.ref C) (some dx) (upd H1 dx (.xd [(fld, v)]))
theorem ps_raiseI {ok : V → Prop} (hc : X.calm = true) (IE : InitE X.prog X.K C S fI p fld pts tp) (hpn : p ≠ "self") (hm : X.mg x = some (.ref C)) (kp : PySem.W.keepIn X.K (.ref C) = true) (hr : Room j X.A) (hj : 1 ≤ j) (hdp : (p == ("__debug__" : Str)) = false)
    (htx : ∀ v u, ok v → RelV v u → TextOk X.prog X.w (.JoinedStr pts tp) p u) (G : Good X E) (ha : PA X [a] t) (hg : Gl X x := by rfl) (hdb : (x == ("__debug__" : Str)) = false := by decide) (he : starEach [a] X.env = [(false, eval a X.env)] := by rfl) :
    PS X (.Raise (some (.Call (.Name x np) [a] [] cpos)) none pos) (tRaiseI C fld ok E t) := by
  intro pins s σ H D I h
  obtain ⟨tl, N, nm, q, bs, hdct, sn, sub, ab, col, dd, k0, k1, k2, k3, k5, mN, hC, hN, hni, T⟩ := initCls I.ok.mod.kin IE
  rw [arm_exec_Raise]
  simp only [evalOpt, Option.map]
  refine wpAny_bind (wpAny_standAt (raise_madeD (C := C) (nm := nm) (q := q) (N := N) (bs := bs) (bm := tl) (hdct := hdct) (sn := sn) (sub := sub) (ab := ab) (col := col) (dd := dd) (k0 := k0) (k1 := k1) (k2 := k2) (k3 := k3) (k5 := k5) (newId := "ValueError.__new__") (T.hasType PySem.F.excBase_ValueError.hasBase) (I.ok.hd hc) ?_))
  refine wpAny_bind (wpAny_mono (mkI_core (np := np) (pos := cpos) IE hpn hm kp hr hj hdp htx ha hg hdb he I h (Q := fun v s₁ => ∃ e t od, v = .ref e ∧ s₁.heap.get? C = some (excClassObj nm q C N bs tl hdct sn sub ab col dd k0 k1 k2 k3 k5 "ValueError.__new__") ∧
      s₁.heap.get? e = some ⟨.ref C, od, .fields #[.ref t, .none, .none, .none, .bool false, .none], #[]⟩ ∧ X.xe (.ref e) s₁) ?_) (fun v s₃ h₃ => wpAny_bind (wpAny_standAt (wpAny_pure h₃))) fun _ _ x => x)
  intro s1 H1 v u e dx h2 t2 tk2 I1 ru qR ne nd nde e2 d2 kk
  refine ⟨e, t2, some dx, rfl, kk _ _ (I1.bk _ _ hC), e2, ?_⟩
  have nh : ∀ c, s1.heap.get? c = none → H1 c = none := fun c hc => by
    cases z : H1 c with
    | none => rfl
    | some u => exact (objOk_there (I1.hok c u z) hc).elim
  have n1 := nh e ne
  have n3 := nh dx nd
  refine G pins σ H1 s1 _ _ I1 ⟨e, .ref C, some dx, upd H1 dx (.xd [(fld, v)]), _, rfl, rfl, I1.bare, un_laidN kk nd n3, hok_laidN I1.hok kk n3 ?_, ne, by rw [upd_ne nde.symm]; exact n1, ⟨⟨_, e2⟩, rfl⟩, .inl rfl, qR dx n3⟩
  refine ⟨_, d2, fun y => ?_⟩
  by_cases z : y = fld
  · subst z
    simp [List.lookup]
    exact ru
  · have zz : (y == fld) = false := beq_eq_false_iff_ne.mpr z
    simp [List.lookup, zz, z, RelO]
def OdOk (H : Hp) (od : Option Addr) : Prop := od = none ∨ ∃ dx fs, od = some dx ∧ H dx = some (.xd fs)
theorem OdOk.same {H H' : Hp} (k : OdOk H od) (s : Same H H') : OdOk H' od := k.imp id fun ⟨dx, fs, a, b⟩ => ⟨dx, fs, a, s _ _ b⟩
def rIsH (e : Addr) (od : Option Addr) (cv : V) (b : Bool) : List V → Hp → VK → Prop := fun vs H Q => vs = [.ref e, cv] ∧ OdOk H od ∧ Q (.bl b) H
theorem call_isH (hp : (e, oe) ∈ X.pn) (rc : Rec oe (.ref C) od) (G : ExcGet X.K C) (hr : L2.RelV cv cu) (hk : PySem.W.kitOne X.K (.ref C) cu = some b) (hcv : ∀ u, L2.RelV cv u → u = cu) : CallR X (.builtin "isinstance") (rIsH e od cv b) := by
  intro pins s σ H xs us Q I r h
  obtain ⟨rfl, hd, q⟩ := h
  obtain ⟨u, v, rfl, ru, rv⟩ := r.two
  cases ru
  obtain rfl := hcv v rv
  obtain ⟨he, _⟩ := I.pin (e, oe) (List.mem_append_left _ hp)
  obtain ⟨vs, sl, rfl, _⟩ := rc
  rcases hd with rfl | ⟨dx, fs, rfl, hx⟩
  · exact PySem.W.kia_one (kitx_exc (o := ⟨.ref C, none, .fields vs, sl⟩) (odo := none) G) I.kIn ⟨he, rfl, rfl, trivial⟩ hk (by intro z; cases z) fun tk => ⟨.bl b, H, I.tok tk, rfl, q⟩
  · obtain ⟨mA, ⟨oD, es, ep, hoD, r⟩, _⟩ : ∃ mA, s.heap.Ns1 dx mA ∧ _ := I.hok dx _ hx
    exact PySem.W.kia_one (kitx_exc (o := ⟨.ref C, some dx, .fields vs, sl⟩) (odo := some oD) G) I.kIn ⟨he, rfl, rfl, hoD⟩ hk (by intro z; cases z) fun tk => ⟨.bl b, H, I.tok tk, rfl, q⟩
def tHF (K : PySem.W.Frag) (e C dx : Addr) (ta : TE) (f : Str) : TE := fun σ H Q => ta σ H fun x H1 => ∃ fs v, x = .ref e ∧ H1 dx = some (.xd fs) ∧ fs.lookup f = some v ∧ Q v H1
theorem pe_hfld {dx : Addr} (hp : (e, oe) ∈ X.pn) (rc : Rec oe (.ref C) (some dx)) (G : ExcGet X.K C) (hd : PySem.W.hasDictIn X.K C = true) (hn : PySem.W.findIn X.K (.ref C) f = some none) (he : PE X a ta) (hb : attributeBase a f X.env (eval a X.env) = eval a X.env) : PE X (.Attribute a f pos) (tHF X.K e C dx ta f) := by
  intro pins s σ H Q I h
  refine attr_of hb (thn (he pins s σ H _ I h) fun u s1 ⟨x, H1, I1, rx, fs, v, ex, ed, l, q⟩ => ?_)
  subst ex
  obtain rfl : u = Value.ref e := rx
  obtain ⟨hx, _⟩ := I1.pin (e, oe) (List.mem_append_left _ hp)
  obtain ⟨vs, sl, rfl, _⟩ := rc
  obtain ⟨mA, ns, ra⟩ : ∃ mA, s1.heap.Ns1 dx mA ∧ ∀ f, RelO (fs.lookup f) (mA f) := I1.hok dx _ ed
  obtain ⟨oD, es, ep, hoD, _⟩ := id ns
  have rf := ra f
  rw [l] at rf
  cases z : mA f with
  | none => rw [z] at rf; exact rf.elim
  | some u =>
    rw [z] at rf
    have rf : RelV v u := rf
    obtain ⟨hp, g, d, t, os⟩ := s1
    exact exc_read G I1.kIn (⟨hx, rfl, rfl, hoD⟩ : PySem.W.InstAt _ _ _ _ (some oD)) (PySem.W.findObj_own hd hn (by rfl) (lookIn_ns ns hoD z)) (handed_V rf) ⟨v, H1, I1.tok _, rf, q⟩
end
end Hs
set_option Elab.async false
set_option linter.all false
set_option maxRecDepth 100000
namespace Hs
open PySem PySem.Spec PyProof.Rows L2
section
variable {X : Cx} {E : L2.St → XK} {S S2 : Addr} {x x2 n : Str} {np hpos np2 hpos2 pos : Pos} {b0 b02 : Stmt} {body suite suite2 : List Stmt} {tb : TS} {th th2 : Addr → Obj → TS} {i : Nat}
abbrev endsH (D : Ends) (i : Nat) : Ends := { nx := fun σ2 H2 => D.nx (σ2.set i none) H2, rt := D.rt, bk := fun σ2 H2 => D.bk (σ2.set i none) H2, ct := fun σ2 H2 => D.ct (σ2.set i none) H2 }
theorem handler_ok {pins : List (Addr × Obj)} {σ' : L2.St} {H' : Hp} {s1 : Shared} {D : Ends} {e : Addr} {cls : Value} {od : Option Addr} {vs1 : Array Value} {sl : Array (Option Value)} {rest : List ExceptHandler} (I : X.Ok) (hN : X.N.Nodup) (hi : X.N[i]? = some n) (hn : X.env.scope.names.lookup n = some .local) (hm : X.mg x = some (.ref S)) (ok : PySem.W.exmOne X.K cls (.ref S) = some true)
    (hs : ∀ oe, PSs (hdl X e oe) (b0 :: suite) (th e oe)) (J1 : L2.Inv X pins σ' H' s1) (J2 : L2.Inv (hdl X e ⟨cls, od, .fields vs1, sl⟩) pins σ' H' s1) (he1 : s1.heap.get? e = some ⟨cls, od, .fields vs1, sl⟩) (xo1 : Exo s1.heap e cls od vs1) (t1 : Tra s1.heap e vs1)
    (h2 : th e ⟨cls, od, .fields vs1, sl⟩ (endsH D i) (σ'.set i (some (.ref e))) H') (hg : Gl X x) (hdb : (x == ("__debug__" : Str)) = false) :
    wpAny (model X.prog X.w) X.A (handleBy (.ref e) X.env (.ExceptHandler (some (.Name x np)) (some n) (b0 :: suite) hpos :: rest)) (SP X pins D) X.xe s1 := by
  refine wpAny_handleBy_cons (A := X.A) (codeAny_handlers_test (ld_glob J2 hg hm ?_ hdb)) (by intro z; cases z)
  refine PySem.W.exm_one (K := X.K) (cls := cls) J1.kIn ((PySem.W.Looks.ld he1).andThen PySem.W.Looks.now) ok _ _ _ _ (fun _ _ z => z) ?_
  refine codeAny_handlers_suite_as ?_
  refine land_same xo1 t1 fun h3 sm => ?_
  have J3 := inv_same J2 sm
  refine store_ok (X := hdl X e ⟨cls, od, .fields vs1, sl⟩) (v := .ref e) J3 hN hi (.inl hn) rfl (fun s4 J4 => ?_) (.inr hn)
  have P := hs ⟨cls, od, .fields vs1, sl⟩ pins s4 _ H' _ J4 h2
  refine thnF P fun fl s5 q5 => ?_
  have fin : ∀ {σ5 : L2.St} {H5 : Hp}, L2.Inv (hdl X e ⟨cls, od, .fields vs1, sl⟩) pins σ5 H5 s5 → ∀ Q : Unit → Shared → Prop, (∀ s6, L2.Inv X pins (σ5.set i none) H5 s6 → Q () s6) →
      wpAny (model X.prog X.w) X.A (do bindName X.env n .none; unbindBehindTheSuite X.env n hpos) Q X.xe s5 := fun {σ5 H5} J5 Q k => by
    obtain ⟨m, hn5, hl5⟩ := J5.loc
    refine wpAny_nameGoes_keeps hn hn5 (by rw [show X.env.scope.kind = .function from I.kind]; rfl) fun h6 v hns sb => k _ ?_
    exact inv_gone I (fun p hp => List.mem_append_left _ hp) J5 hN hi hl5 hns sb
  cases fl with
  | next => obtain ⟨σ5, H5, J5, q5⟩ := q5; exact fin J5 _ fun s6 J6 => ⟨_, H5, J6, q5⟩
  | brk => obtain ⟨σ5, H5, J5, q5⟩ := q5; exact fin J5 _ fun s6 J6 => ⟨_, H5, J6, q5⟩
  | cont => obtain ⟨σ5, H5, J5, q5⟩ := q5; exact fin J5 _ fun s6 J6 => ⟨_, H5, J6, q5⟩
  | ret u => obtain ⟨v, σ5, H5, J5, r5, q5⟩ := q5; exact fin J5 _ fun s6 J6 => ⟨v, _, H5, J6, r5, q5⟩
def tTry2 (E : L2.St → XK) (tb : TS) (th th2 : Addr → Obj → TS) (i : Nat) (ok1 ok2 : Value → Option Bool) : TS := fun D σ H =>
  tb D σ H ∧ ∀ σ' cls od H', E σ' cls od H' → (ok1 cls = some true ∧ ∀ e oe, H' e = none → Rec oe cls od → th e oe (endsH D i) (σ'.set i (some (.ref e))) H') ∨
    (ok1 cls = some false ∧ ok2 cls = some true ∧ ∀ e oe, H' e = none → Rec oe cls od → th2 e oe (endsH D i) (σ'.set i (some (.ref e))) H')
theorem ps_try2 (hex : X.ex = []) (hst : X.stack = X.env :: X.outer) (hfr : X.env.frame = some X.env.locals) (hN : X.N.Nodup) (hi : X.N[i]? = some n) (hn : X.env.scope.names.lookup n = some .local) (hm : X.mg x = some (.ref S)) (hm2 : X.mg x2 = some (.ref S2))
    (hb : ∀ pn xe, Good (inTry X pn xe) E → PSs (inTry X pn xe) body tb) (hs : ∀ e oe, PSs (hdl X e oe) (b0 :: suite) (th e oe)) (hs2 : ∀ e oe, PSs (hdl X e oe) (b02 :: suite2) (th2 e oe)) (hg : Gl X x := by rfl) (hdb : (x == ("__debug__" : Str)) = false := by decide) (hg2 : Gl X x2 := by rfl) (hdb2 : (x2 == ("__debug__" : Str)) = false := by decide) :
    PS X (.Try body [.ExceptHandler (some (.Name x np)) (some n) (b0 :: suite) hpos, .ExceptHandler (some (.Name x2 np2)) (some n) (b02 :: suite2) hpos2] [] [] pos) (tTry2 E tb th th2 i (fun c => PySem.W.exmOne X.K c (.ref S)) (fun c => PySem.W.exmOne X.K c (.ref S2))) := by
  intro pins s σ H D I h
  obtain ⟨h1, h2⟩ := h
  refine wpAny_Try_except ?_
  let XE : Value → Shared → Prop := fun ev s1 => ∃ e cls od σ' H' vs, ev = .ref e ∧ L2.Inv X pins σ' H' s1 ∧ Off X pins H' e ∧ Exo s1.heap e cls od vs ∧ Tra s1.heap e vs ∧ E σ' cls od H'
  have G : Good (inTry X (X.pn ++ pins) XE) E := fun pins1 σ1 H1 s1 ev s2 I1 c => by
    obtain ⟨e, cls, od, H', vs, rfl, J, f, x, t, q⟩ := cxf_inv I1 hex c
    exact ⟨e, cls, od, σ1, H', vs, rfl, inv_untry J, ⟨f.free, f.loc, f.old, f.cell, fun p hp => f.pin p (List.mem_append_left _ hp)⟩, x, t, q⟩
  refine wpAny_mono (hb _ XE G [] s σ H D (inv_try I XE) h1) (fun f s1 q => ?_) fun ev s1 q => ?_
  · cases f with
    | next => obtain ⟨σ', H', J, q⟩ := q; exact wpAny_execs_nil ⟨σ', H', inv_untry J, q⟩
    | brk => obtain ⟨σ', H', J, q⟩ := q; exact ⟨σ', H', inv_untry J, q⟩
    | cont => obtain ⟨σ', H', J, q⟩ := q; exact ⟨σ', H', inv_untry J, q⟩
    | ret u => obtain ⟨v, σ', H', J, r, q⟩ := q; exact ⟨v, σ', H', inv_untry J, r, q⟩
  · obtain ⟨e, cls, od, σ', H', vs, rfl, J, f, xo, t, q⟩ := q
    have hfs : X.A.frames = some (X.env :: X.outer) := by rw [← hst]; exact J.ok.frames
    have hff : s1.heap.FunFrames X.base (X.env :: X.outer) := by rw [← hst]; exact J.stack
    refine note_land hfs hff hfr xo t fun h' nt => ?_
    rw [← hst] at nt
    have J1 := noted_inv J f nt
    obtain ⟨vs1, xo1, t1⟩ := nt.exo
    obtain ⟨⟨sl, he1⟩, hc1⟩ := id xo1
    have J2 : L2.Inv (hdl X e ⟨cls, od, .fields vs1, sl⟩) pins σ' H' { s1 with heap := h' } := inv_hdl J1 f he1 ⟨_, rfl⟩
    rcases h2 σ' cls od H' q with ⟨ok, h2⟩ | ⟨no, ok, h2⟩
    · exact handler_ok I.ok hN hi hn hm ok (hs e) J1 J2 he1 xo1 t1 (h2 e _ f.free ⟨vs1, sl, rfl, hc1⟩) hg hdb
    · refine wpAny_handleBy_cons (A := X.A) (codeAny_handlers_test (ld_glob J2 hg hm ?_ hdb)) (by intro z; cases z)
      refine PySem.W.exm_one (K := X.K) (cls := cls) J1.kIn ((PySem.W.Looks.ld he1).andThen PySem.W.Looks.now) no _ _ _ _ (fun _ _ z => z) ?_
      exact handler_ok I.ok hN hi hn hm2 ok (hs2 e) J1 J2 he1 xo1 t1 (h2 e _ f.free ⟨vs1, sl, rfl, hc1⟩) hg2 hdb2
end
end Hs
set_option Elab.async false
set_option linter.all false
set_option maxRecDepth 100000
set_option maxHeartbeats 1000000
namespace Hs
open PySem L2
structure Cls12 (mg : Str → Option Value) (D : Nat → Addr) : Prop where
  m0 : mg "Harm" = some (.ref (D 0))
  m1 : mg "NoHalf" = some (.ref (D 1))
  m2 : mg "NoMarks" = some (.ref (D 2))
  m3 : mg "NoPlain" = some (.ref (D 3))
  m4 : mg "NoRim" = some (.ref (D 4))
  m5 : mg "NoRow" = some (.ref (D 5))
  m6 : mg "NoSkin" = some (.ref (D 6))
  m7 : mg "NoText" = some (.ref (D 7))
  m8 : mg "NothingLeft" = some (.ref (D 8))
  m9 : mg "TooMany" = some (.ref (D 9))
  m10 : mg "Unfit" = some (.ref (D 10))
  m11 : mg "Unlike" = some (.ref (D 11))
  noV : mg "ValueError" = none
structure KindOf (K : PySem.W.Frag) (D : Nat → Addr) (C : Addr) (b : Nat → Bool) : Prop where
  get : ExcGet K C
  k0 : PySem.W.kitOne K (.ref C) (.ref (D 0)) = some (b 0)
  k1 : PySem.W.kitOne K (.ref C) (.ref (D 1)) = some (b 1)
  k2 : PySem.W.kitOne K (.ref C) (.ref (D 2)) = some (b 2)
  k3 : PySem.W.kitOne K (.ref C) (.ref (D 3)) = some (b 3)
  k4 : PySem.W.kitOne K (.ref C) (.ref (D 4)) = some (b 4)
  k5 : PySem.W.kitOne K (.ref C) (.ref (D 5)) = some (b 5)
  k6 : PySem.W.kitOne K (.ref C) (.ref (D 6)) = some (b 6)
  k7 : PySem.W.kitOne K (.ref C) (.ref (D 7)) = some (b 7)
  k8 : PySem.W.kitOne K (.ref C) (.ref (D 8)) = some (b 8)
  k9 : PySem.W.kitOne K (.ref C) (.ref (D 9)) = some (b 9)
  k10 : PySem.W.kitOne K (.ref C) (.ref (D 10)) = some (b 10)
  k11 : PySem.W.kitOne K (.ref C) (.ref (D 11)) = some (b 11)
  kV : PySem.W.kitOne K (.ref C) (.type "ValueError") = some true
def strsD : List Expr → Option (List Str)
  | [] => some []
  | .Constant (.str x) _ _ :: es => (strsD es).map (x :: ·)
  | _ => none
def tStrs (ss : List Str) : TA := fun _ H Q => Q (ss.map V.str) H
theorem pa_strs {X : Cx} : ∀ (es : List Expr) (ss : List Str), strsD es = some ss → PA X es (tStrs ss)
  | [], ss, h => by
    cases h
    exact pa_nil
  | .Constant (.str x) k p :: es, ss, h => by
    obtain ⟨r, hr, rfl⟩ := Option.map_eq_some_iff.mp (show (strsD es).map (x :: ·) = some ss from h)
    exact pa_cons pe_str (pa_strs es r hr)
def tSetS (i : Nat) (ss : List Str) : TS := fun D σ H => ss.length ≤ 1000 ∧ ∀ p, H p = none → D.nx (σ.set i (some (.ref p))) (upd H p (.lst (ss.map V.str)))
theorem ps_setS {X : Cx} {i : Nat} {x : Str} {es : List Expr} {p1 p2 p3 : Pos} (ss : List Str) (hN : X.N.Nodup) (hi : X.N[i]? = some x) (hx : Loc X.env.scope x) (hf : X.fn x = true) (h : strsD es = some ss) : PS X (.Assign [.Name x p1] (.List es p2) p3) (tSetS i ss) := by
  refine (ps_set hN hi hx (pe_lst (pa_strs es ss h)) rfl (.inl hf)).by fun D σ H q => ?_
  exact ⟨by rw [List.length_map]; exact lt63 q.1, fun p hp => q.2 p hp⟩
def tCatS (i : Nat) (ss : List Str) : TS := fun D σ H => ∃ l xs, σ[i]? = some (some (.ref l)) ∧ H l = some (.lst xs) ∧ xs.length + ss.length ≤ 1000 ∧ ∀ q p, H q = none → upd H q (.lst (ss.map V.str)) p = none →
  D.nx (σ.set i (some (.ref p))) (upd (upd H q (.lst (ss.map V.str))) p (.lst (xs ++ ss.map V.str)))
theorem ps_catS {X : Cx} {i : Nat} {x : Str} {es : List Expr} {p1 p2 p3 p4 p5 : Pos} (ss : List Str) (hN : X.N.Nodup) (hi : X.N[i]? = some x) (hx : Loc X.env.scope x) (hf : X.fn x = true) (h : strsD es = some ss) (hd : (x == ("__debug__" : Str)) = false := by decide)
    (hcd : (x == ("__classdict__" : Str)) = false := by decide) : PS X (.Assign [.Name x p1] (.BinOp (.Name x p2) .Add (.List es p3) p4) p5) (tCatS i ss) := by
  refine (ps_set hN hi hx (pe_op op_cat (pe_var hi (hx.elim .inl fun z => .inr (.inl z)) hd hcd) (pe_lst (pa_strs es ss h))) rfl (.inl hf)).by fun D σ H q => ?_
  obtain ⟨l, xs, e1, e2, z, q⟩ := q
  have hl : (ss.map V.str).length = ss.length := List.length_map _
  refine ⟨_, e1, by rw [hl]; exact lt63 (by omega), fun q1 hq1 => ⟨l, q1, xs, _, rfl, rfl, ?_, upd_same, by rw [hl]; exact lt63 z, fun p hp => q q1 p hq1 hp⟩⟩
  rw [upd_ne (ne_of_none e2 hq1)]; exact e2
theorem bt_ValueError : bootBuiltins "ValueError" = some (.type "ValueError") := by decide +kernel
def kW10 : List Str := ["Harm", "NoHalf", "NoMarks", "NoPlain", "NoRim", "NoRow", "NoSkin", "NoText", "NothingLeft", "TooMany"]
def kW3 : List Str := ["Unfit", "Unlike", "+"]
def kWords : List Str := kW10 ++ kW3
def kSome (b : Nat → Bool) : List Bool := [b 0, b 1, b 2, b 3, b 4, b 5, b 6, b 7, b 8, b 9, b 10, b 11, true]
def kPick : List Str → List Bool → List Str
  | w :: ws, b :: bs => if b = true then w :: kPick ws bs else kPick ws bs
  | _, _ => []
theorem kPick_sum : ∀ (ws : List Str) (bs : List Bool), ((kPick ws bs).map (·.length)).sum ≤ (ws.map (·.length)).sum
  | [], bs => by simp [kPick]
  | w :: ws, [] => by simp [kPick]
  | w :: ws, b :: bs => by
    have := kPick_sum ws bs
    unfold kPick
    split <;> simp <;> omega
theorem kPick_len : ∀ (ws : List Str) (bs : List Bool), (kPick ws bs).length ≤ ws.length
  | [], bs => by simp [kPick]
  | w :: ws, [] => by simp [kPick]
  | w :: ws, b :: bs => by
    have := kPick_len ws bs
    unfold kPick
    split <;> simp <;> omega
theorem kPick_step : ∀ (ws : List Str) (bs : List Bool) (i : Nat) (w : Str) (b : Bool), ws[i]? = some w → bs[i]? = some b →
    kPick (ws.take (i + 1)) (bs.take (i + 1)) = kPick (ws.take i) (bs.take i) ++ (if b = true then [w] else [])
  | [], _, i, w, b, h, _ => by simp at h
  | _ :: _, [], i, w, b, _, h => by simp at h
  | v :: ws, c :: bs, 0, w, b, h1, h2 => by
    simp at h1 h2; subst h1; subst h2
    simp [kPick]
  | v :: ws, c :: bs, i + 1, w, b, h1, h2 => by
    have e := kPick_step ws bs i w b (by simpa using h1) (by simpa using h2)
    simp only [List.take_succ_cons] at e ⊢
    simp only [kPick]
    rw [e]
    split <;> simp
def kText (b : Nat → Bool) : Str := Txt.join "" (kPick kWords (kSome b))
section
variable {P : Program} {w : World} {K : PySem.W.Frag} {mg : Str → Option Value} {base : Heap} {f : Addr} {fd : FuncData}
def spKinds (K : PySem.W.Frag) (D : Nat → Addr) : Addr → Obj → Hp → VK → Prop := fun _ oe H Q => ∃ C b od, Rec oe (.ref C) od ∧ OdOk H od ∧ KindOf K D C b ∧ ∀ H', Same H H' → Q (.str (kText b)) H'
theorem scKinds : FnScope ["e", "some", "words", "k"] ["e"] (defScope s__law_kinds) := ⟨rfl, rfl, rfl, by decide +kernel, rfl, by decide +kernel, by decide +kernel⟩
def listIn : Expr → List Expr
  | .List es _ => es
  | .BinOp _ _ (.List es _) _ => es
  | _ => []
def asgVal : Stmt → Expr
  | .Assign _ e _ => e
  | _ => .Constant .none 0 ⟨0, 0, 0, 0⟩
theorem kW10_ok : strsD (listIn (asgVal ((defBody s__law_kinds).getD 3 (.Pass ⟨0, 0, 0, 0⟩)))) = some kW10 := by kernel_rfl
theorem kW3_ok : strsD (listIn (asgVal ((defBody s__law_kinds).getD 4 (.Pass ⟨0, 0, 0, 0⟩)))) = some kW3 := by kernel_rfl
theorem kS3 : (defBody s__law_kinds).getD 3 (.Pass ⟨0, 0, 0, 0⟩) = .Assign [.Name "words" ⟨223, 4, 223, 9⟩] (.List (listIn (asgVal ((defBody s__law_kinds).getD 3 (.Pass ⟨0, 0, 0, 0⟩)))) ⟨223, 12, 223, 116⟩) ⟨223, 4, 223, 116⟩ := by kernel_rfl
theorem kS4 : (defBody s__law_kinds).getD 4 (.Pass ⟨0, 0, 0, 0⟩) = .Assign [.Name "words" ⟨224, 4, 224, 9⟩] (.BinOp (.Name "words" ⟨224, 12, 224, 17⟩) .Add (.List (listIn (asgVal ((defBody s__law_kinds).getD 4 (.Pass ⟨0, 0, 0, 0⟩)))) ⟨224, 20, 224, 44⟩) ⟨224, 12, 224, 44⟩) ⟨224, 4, 224, 44⟩ := by kernel_rfl
@[irreducible] def stK (i : Nat) : Stmt := (defBody s__law_kinds).getD i (.Pass ⟨0, 0, 0, 0⟩)
theorem st_un {X : Cx} {t : TS} (i : Nat) (h : PS X ((defBody s__law_kinds).getD i (.Pass ⟨0, 0, 0, 0⟩)) t) : PS X (stK i) t := by unfold stK; exact h
theorem body_kinds : defBody s__law_kinds = [stK 0, stK 1, stK 2, stK 3, stK 4, stK 5, stK 6] := by kernel_rfl
theorem ps_w3 {X : Cx} (hN : X.N.Nodup) (hi : X.N[2]? = some (Str.ofString "words")) (hx : Loc X.env.scope (Str.ofString "words")) (hf : X.fn (Str.ofString "words") = true) : PS X (stK 3) (tSetS 2 kW10) := by
  unfold stK
  rw [kS3]
  exact @ps_setS X 2 (Str.ofString "words") (listIn (asgVal ((defBody s__law_kinds).getD 3 (.Pass ⟨0, 0, 0, 0⟩)))) _ _ _ kW10 hN hi hx hf kW10_ok
theorem ps_w4 {X : Cx} (hN : X.N.Nodup) (hi : X.N[2]? = some (Str.ofString "words")) (hx : Loc X.env.scope (Str.ofString "words")) (hf : X.fn (Str.ofString "words") = true) : PS X (stK 4) (tCatS 2 kW3) := by
  unfold stK
  rw [kS4]
  exact @ps_catS X 2 (Str.ofString "words") (listIn (asgVal ((defBody s__law_kinds).getD 4 (.Pass ⟨0, 0, 0, 0⟩)))) _ _ _ _ _ kW3 hN hi hx hf kW3_ok (by decide) (by decide)
theorem ok_kinds {D : Nat → Addr} (B : Bi mg) (M : Cls12 mg D) (F : Fun K "_law_kinds" "_law_kinds" s__law_kinds f fd) (bn : Binds K fd ["e"] []) (m : mg "_law_kinds" = some (.ref f)) : FnH P w K mg base "_law_kinds" 1 (spKinds K D) := by
  refine fnH_of F scKinds bn m fun cdv A outer s H e oe Q hr hq h => ?_
  obtain ⟨C, b, od, rc, kp, Z, q⟩ := h
  have hp : (e, oe) ∈ (cxH P w K mg base ["e", "some", "words", "k"] "_law_kinds" (defScope s__law_kinds) f cdv A outer s H e oe).pn := List.mem_singleton.mpr rfl
  rw [body_kinds]
  refine ⟨_, (pss_cons (st_un 0 (ps_set (i := 1) scKinds.nd rfl (Or.inr rfl) (pe_lst (pa_cons (pe_callB (call_isH hp rc Z.get (cv := .ref (D 0)) rfl Z.k0 (fun _ r => r)) rfl B.isinstance_ bt_isinstance (pa_cons (pv 0) (pa_cons (pe_glob rfl M.m0 (v := .ref (D 0)) rfl) pa_nil))) (pa_cons (pe_callB (call_isH hp rc Z.get (cv := .ref (D 1)) rfl Z.k1 (fun _ r => r)) rfl B.isinstance_ bt_isinstance (pa_cons (pv 0) (pa_cons (pe_glob rfl M.m1 (v := .ref (D 1)) rfl) pa_nil))) (pa_cons (pe_callB (call_isH hp rc Z.get (cv := .ref (D 2)) rfl Z.k2 (fun _ r => r)) rfl B.isinstance_ bt_isinstance (pa_cons (pv 0) (pa_cons (pe_glob rfl M.m2 (v := .ref (D 2)) rfl) pa_nil))) (pa_cons (pe_callB (call_isH hp rc Z.get (cv := .ref (D 3)) rfl Z.k3 (fun _ r => r)) rfl B.isinstance_ bt_isinstance (pa_cons (pv 0) (pa_cons (pe_glob rfl M.m3 (v := .ref (D 3)) rfl) pa_nil))) pa_nil)))))))
   (pss_cons (st_un 1 (ps_set (i := 1) scKinds.nd rfl (Or.inr rfl) (pe_op op_cat (pv 1) (pe_lst (pa_cons (pe_callB (call_isH hp rc Z.get (cv := .ref (D 4)) rfl Z.k4 (fun _ r => r)) rfl B.isinstance_ bt_isinstance (pa_cons (pv 0) (pa_cons (pe_glob rfl M.m4 (v := .ref (D 4)) rfl) pa_nil))) (pa_cons (pe_callB (call_isH hp rc Z.get (cv := .ref (D 5)) rfl Z.k5 (fun _ r => r)) rfl B.isinstance_ bt_isinstance (pa_cons (pv 0) (pa_cons (pe_glob rfl M.m5 (v := .ref (D 5)) rfl) pa_nil))) (pa_cons (pe_callB (call_isH hp rc Z.get (cv := .ref (D 6)) rfl Z.k6 (fun _ r => r)) rfl B.isinstance_ bt_isinstance (pa_cons (pv 0) (pa_cons (pe_glob rfl M.m6 (v := .ref (D 6)) rfl) pa_nil))) (pa_cons (pe_callB (call_isH hp rc Z.get (cv := .ref (D 7)) rfl Z.k7 (fun _ r => r)) rfl B.isinstance_ bt_isinstance (pa_cons (pv 0) (pa_cons (pe_glob rfl M.m7 (v := .ref (D 7)) rfl) pa_nil))) pa_nil))))))))
   (pss_cons (st_un 2 (ps_set (i := 1) scKinds.nd rfl (Or.inr rfl) (pe_op op_cat (pv 1) (pe_lst (pa_cons (pe_callB (call_isH hp rc Z.get (cv := .ref (D 8)) rfl Z.k8 (fun _ r => r)) rfl B.isinstance_ bt_isinstance (pa_cons (pv 0) (pa_cons (pe_glob rfl M.m8 (v := .ref (D 8)) rfl) pa_nil))) (pa_cons (pe_callB (call_isH hp rc Z.get (cv := .ref (D 9)) rfl Z.k9 (fun _ r => r)) rfl B.isinstance_ bt_isinstance (pa_cons (pv 0) (pa_cons (pe_glob rfl M.m9 (v := .ref (D 9)) rfl) pa_nil))) (pa_cons (pe_callB (call_isH hp rc Z.get (cv := .ref (D 10)) rfl Z.k10 (fun _ r => r)) rfl B.isinstance_ bt_isinstance (pa_cons (pv 0) (pa_cons (pe_glob rfl M.m10 (v := .ref (D 10)) rfl) pa_nil))) (pa_cons (pe_callB (call_isH hp rc Z.get (cv := .ref (D 11)) rfl Z.k11 (fun _ r => r)) rfl B.isinstance_ bt_isinstance (pa_cons (pv 0) (pa_cons (pe_glob rfl M.m11 (v := .ref (D 11)) rfl) pa_nil))) pa_nil))))))))
   (pss_cons (@ps_w3 (cxH P w K mg base ["e", "some", "words", "k"] "_law_kinds" (defScope s__law_kinds) f cdv A outer s H e oe) scKinds.nd rfl (Or.inr rfl) rfl)
   (pss_cons (@ps_w4 (cxH P w K mg base ["e", "some", "words", "k"] "_law_kinds" (defScope s__law_kinds) f cdv A outer s H e oe) scKinds.nd rfl (Or.inr rfl) rfl)
   (pss_cons (st_un 5 (ps_expr (pe_bm PySem.F.plainAttrs_list PySem.F.slot_list_append PySem.F.type_list_append mt_append (pv 1) (pa_cons (pe_callB (call_isH hp rc Z.get (cv := .ty "ValueError") rfl Z.kV (fun _ r => r)) rfl B.isinstance_ bt_isinstance (pa_cons (pv 0) (pa_cons (pe_ty rfl M.noV bt_ValueError) pa_nil))) pa_nil))))
   (pss_one (st_un 6 (ps_ret (pe_join pe_str (pe_lcQ (own := [("k", 3)]) (g := gName 3) ⟨e, oe, _, _, hq, List.mem_singleton.mpr rfl, rc⟩ scKinds.nd (piq_range1 B.range_ (pa_cons pe_int pa_nil)) (blkOk_by (own := [("k", 3)]) (N := ["e", "some", "words", "k"]) (sc := (defScope s__law_kinds)) (by decide +kernel)) (fun _ _ _ _ _ => (pg_name (i := 3) scKinds.nd rfl (Or.inl rfl))) (fun _ _ _ _ _ => (pts_one (pt_val (pe_ix (ix_listK (K := K) rfl) (pv 1) (pv 3) (fun _ _ => rfl))))) (fun _ _ _ _ _ => (pe_ix (ix_listK (K := K) rfl) (pv 2) (pv 3) (fun _ _ => rfl)))))))))))))), ?_⟩
  refine ⟨_, rfl, rfl, kp, _, rfl, rfl, kp, _, rfl, rfl, kp, _, rfl, rfl, kp, (by show 4 ≤ sizeLine; decide), fun p1 h1 => ?_⟩
  have s1 := same_put h1 (.lst [V.bl (b 0), V.bl (b 1), V.bl (b 2), V.bl (b 3)])
  have g1 : upd H p1 (.lst [V.bl (b 0), V.bl (b 1), V.bl (b 2), V.bl (b 3)]) p1 = some (.lst [V.bl (b 0), V.bl (b 1), V.bl (b 2), V.bl (b 3)]) := L2.upd_same
  generalize upd H p1 (.lst [V.bl (b 0), V.bl (b 1), V.bl (b 2), V.bl (b 3)]) = H1 at g1 s1
  have kp1 := kp.same s1
  refine ⟨_, rfl, _, rfl, rfl, kp1, _, rfl, rfl, kp1, _, rfl, rfl, kp1, _, rfl, rfl, kp1, (by show 4 ≤ sizeLine; decide), fun p2 h2 => ⟨p1, p2, _, _, rfl, rfl, by rw [upd_ne (ne_of_none g1 h2)]; exact g1, L2.upd_same, (by show 8 ≤ sizeLine; decide), fun p3 h3 => ?_⟩⟩
  have s3 := (s1.trans (same_put h2 (.lst [V.bl (b 4), V.bl (b 5), V.bl (b 6), V.bl (b 7)]))).trans (same_put h3 (.lst ([V.bl (b 0), V.bl (b 1), V.bl (b 2), V.bl (b 3)] ++ [V.bl (b 4), V.bl (b 5), V.bl (b 6), V.bl (b 7)])))
  have g3 : upd (upd H1 p2 (.lst [V.bl (b 4), V.bl (b 5), V.bl (b 6), V.bl (b 7)])) p3 (.lst ([V.bl (b 0), V.bl (b 1), V.bl (b 2), V.bl (b 3)] ++ [V.bl (b 4), V.bl (b 5), V.bl (b 6), V.bl (b 7)])) p3 = some (.lst [V.bl (b 0), V.bl (b 1), V.bl (b 2), V.bl (b 3), V.bl (b 4), V.bl (b 5), V.bl (b 6), V.bl (b 7)]) := L2.upd_same
  generalize upd (upd H1 p2 (.lst [V.bl (b 4), V.bl (b 5), V.bl (b 6), V.bl (b 7)])) p3 (.lst ([V.bl (b 0), V.bl (b 1), V.bl (b 2), V.bl (b 3)] ++ [V.bl (b 4), V.bl (b 5), V.bl (b 6), V.bl (b 7)])) = H3 at g3 s3
  have kp3 := kp.same s3
  refine ⟨_, rfl, _, rfl, rfl, kp3, _, rfl, rfl, kp3, _, rfl, rfl, kp3, _, rfl, rfl, kp3, (by show 4 ≤ sizeLine; decide), fun p4 h4 => ⟨p3, p4, _, _, rfl, rfl, by rw [upd_ne (ne_of_none g3 h4)]; exact g3, L2.upd_same, (by show 12 ≤ sizeLine; decide), fun p5 h5 => ?_⟩⟩
  have s5 := (s3.trans (same_put h4 (.lst [V.bl (b 8), V.bl (b 9), V.bl (b 10), V.bl (b 11)]))).trans (same_put h5 (.lst ([V.bl (b 0), V.bl (b 1), V.bl (b 2), V.bl (b 3), V.bl (b 4), V.bl (b 5), V.bl (b 6), V.bl (b 7)] ++ [V.bl (b 8), V.bl (b 9), V.bl (b 10), V.bl (b 11)])))
  have f5 : H p5 = none := (s3.trans (same_put h4 _)).free h5
  have g5 : upd (upd H3 p4 (.lst [V.bl (b 8), V.bl (b 9), V.bl (b 10), V.bl (b 11)])) p5 (.lst ([V.bl (b 0), V.bl (b 1), V.bl (b 2), V.bl (b 3), V.bl (b 4), V.bl (b 5), V.bl (b 6), V.bl (b 7)] ++ [V.bl (b 8), V.bl (b 9), V.bl (b 10), V.bl (b 11)])) p5 = some (.lst (([b 0, b 1, b 2, b 3, b 4, b 5, b 6, b 7, b 8, b 9, b 10, b 11]).map V.bl)) := L2.upd_same
  generalize upd (upd H3 p4 (.lst [V.bl (b 8), V.bl (b 9), V.bl (b 10), V.bl (b 11)])) p5 (.lst ([V.bl (b 0), V.bl (b 1), V.bl (b 2), V.bl (b 3), V.bl (b 4), V.bl (b 5), V.bl (b 6), V.bl (b 7)] ++ [V.bl (b 8), V.bl (b 9), V.bl (b 10), V.bl (b 11)])) = H5 at g5 s5
  refine ⟨by decide, fun p6 h6 => ⟨p6, _, rfl, L2.upd_same, by decide, fun p7 p8 h7 h8 => ?_⟩⟩
  have k6 := same_put h6 (.lst (kW10.map V.str))
  have k7 := same_put h7 (.lst (kW3.map V.str))
  have k8 := same_put h8 (.lst (kW10.map V.str ++ kW3.map V.str))
  have s8 := s5.trans (k6.trans (k7.trans k8))
  have g8 := k8 _ _ (k7 _ _ (k6 _ _ g5))
  have w8 : upd (upd (upd H5 p6 (.lst (kW10.map V.str))) p7 (.lst (kW3.map V.str))) p8 (.lst (kW10.map V.str ++ kW3.map V.str)) p8 = some (.lst (kWords.map V.str)) := by rw [L2.upd_same, ← List.map_append]; rfl
  have n58 : p8 ≠ p5 := (ne_of_none (k7 _ _ (k6 _ _ g5)) h8).symm
  generalize upd (upd (upd H5 p6 (.lst (kW10.map V.str))) p7 (.lst (kW3.map V.str))) p8 (.lst (kW10.map V.str ++ kW3.map V.str)) = H8 at s8 g8 w8
  have kp8 := kp.same s8
  refine ⟨_, rfl, .inl ⟨rfl, _, SqL.of g8⟩, _, rfl, rfl, kp8, p5, _, _, rfl, rfl, g8, (by show 12 < sizeLine; decide), ?_⟩
  have s9 : Same H (upd H8 p5 (.lst ((kSome b).map V.bl))) := fun c o q => by rw [upd_ne (ne_of_none q f5)]; exact s8 c o q
  have g9 : upd H8 p5 (.lst ((kSome b).map V.bl)) p5 = some (.lst ((kSome b).map V.bl)) := L2.upd_same
  have w9 : upd H8 p5 (.lst ((kSome b).map V.bl)) p8 = some (.lst (kWords.map V.str)) := by rw [upd_ne n58]; exact w8
  rw [show (([b 0, b 1, b 2, b 3, b 4, b 5, b 6, b 7, b 8, b 9, b 10, b 11]).map V.bl ++ [V.bl true]) = (kSome b).map V.bl from rfl]
  generalize upd H8 p5 (.lst ((kSome b).map V.bl)) = H9 at s9 g9 w9
  refine ⟨⟨_, rfl⟩, 13, rfl, by decide, by decide, fun Dd hD => ?_⟩
  have nD5 : p5 ≠ Dd := ne_of_none g9 hD
  have nD8 : p8 ≠ Dd := ne_of_none w9 hD
  refine lc_range (Pv := fun i H' => Same H H' ∧ H' Dd = some (.lst ((kPick (kWords.take i) ((kSome b).take i)).map V.str)) ∧ H' p5 = some (.lst ((kSome b).map V.bl)) ∧ H' p8 = some (.lst (kWords.map V.str))) ⟨s9.trans (same_put hD _), L2.upd_same, by rw [upd_ne nD5]; exact g9, by rw [upd_ne nD8]; exact w9⟩ (fun i H' hi pv => ?_) (fun H' pv => ?_)
  · obtain ⟨sm, gD, g5', g8'⟩ := pv
    have hi : i < 13 := hi
    have l1 : i < (kSome b).length := hi
    have l2 : i < kWords.length := hi
    have e1 : (kSome b)[i]? = some (kSome b)[i] := List.getElem?_eq_getElem l1
    have e2 : kWords[i]? = some kWords[i] := List.getElem?_eq_getElem l2
    have st := kPick_step kWords (kSome b) i _ _ e2 e1
    refine ⟨rfl, _, rfl, _, rfl, p5, _, _, .bl (kSome b)[i], rfl, rfl, SqL.of g5', atN (by omega) (by rw [show ((0 : Int) + (i : Int)).toNat = i by omega, List.getElem?_map, e1]; rfl), _, rfl, ite2 (fun c => ?_) (fun c => ?_)⟩
    · refine ⟨_, rfl, _, rfl, p8, _, _, .str kWords[i], rfl, rfl, SqL.of g8', atN (by omega) (by rw [show ((0 : Int) + (i : Int)).toNat = i by omega, List.getElem?_map, e2]; rfl), _, gD, ?_, ?_, ?_, ?_, ?_⟩
      · have z1 := kPick_len (kWords.take i) ((kSome b).take i)
        have z2 : (kWords.take i).length ≤ 13 := by rw [List.length_take]; omega
        rw [List.length_map, sizeLine_eq]; omega
      · exact fun c o q => by
          have hc : c ≠ Dd := fun z => by rw [z] at q; rw [s9.free hD] at q; cases q
          rw [upd_ne hc]; exact sm c o q
      · rw [L2.upd_same, st, c]; simp
      · rw [upd_ne nD5]; exact g5'
      · rw [upd_ne nD8]; exact g8'
    · refine ⟨sm, ?_, g5', g8'⟩
      have c' : (kSome b)[i] = false := by simpa using c
      rw [gD, st, c']; simp
  · obtain ⟨sm, gD, _, _⟩ := pv
    refine ⟨_, Dd, kPick kWords (kSome b), rfl, rfl, .inl (SqL.of gD), ?_, q H' sm⟩
    have z := kPick_sum kWords (kSome b)
    have z2 := kPick_len kWords (kSome b)
    have z3 : (kWords.map (·.length)).sum ≤ 100 := by decide
    have z4 : kWords.length = 13 := rfl
    have z5 : (Str.ofString "").length = 0 := rfl
    rw [z5]; omega
end
end Hs
set_option linter.all false
namespace Hs
abbrev InR (n : Nat) (x : Int) : Prop := 0 ≤ x ∧ x < n
inductive Trail (f : Int → Option Int) (h0 : Int) : Int → List Int → Prop
  | last {x : Int} : (f x = none ∨ f x = some h0) → Trail f h0 x [x]
  | step {x y : Int} {l : List Int} : f x = some y → y ≠ h0 → Trail f h0 y l → Trail f h0 x (x :: l)
def trl (f : Int → Option Int) (h0 : Int) : Nat → Int → List Int
  | 0, x => [x]
  | k + 1, x => x :: (match f x with
    | none => []
    | some y => if y = h0 then [] else trl f h0 k y)
def fstF (f : Int → Option Int) (h0 : Int) : Nat → Int → Int
  | 0, x => x
  | k + 1, x => match f x with
    | none => x
    | some y => if y = h0 then h0 else fstF f h0 k y
theorem trl_of {f : Int → Option Int} {h0 x : Int} {l : List Int} (t : Trail f h0 x l) : ∀ k, l.length ≤ k + 1 → trl f h0 k x = l := by
  induction t with
  | last h =>
    intro k _
    cases k with
    | zero => rfl
    | succ k =>
      unfold trl
      rcases h with h | h
      · rw [h]
      · rw [h]; simp
  | @step x y l h hy t ih =>
    intro k hk
    have hl : 1 ≤ l.length := by cases t <;> simp
    cases k with
    | zero => rw [List.length_cons] at hk; omega
    | succ k =>
      unfold trl
      rw [h]
      simp only [if_neg hy]
      rw [ih k (by simpa using hk)]
theorem fstF_of {f : Int → Option Int} {h0 x : Int} {l : List Int} (t : Trail f h0 x l) : ∀ k, l.length ≤ k → ∃ z ∈ l, (f z = none ∧ fstF f h0 k x = z) ∨ (f z = some h0 ∧ fstF f h0 k x = h0) := by
  induction t with
  | @last x h =>
    intro k hk
    cases k with
    | zero => simp at hk
    | succ k =>
      refine ⟨x, by simp, ?_⟩
      unfold fstF
      rcases h with h | h
      · exact .inl ⟨h, by rw [h]⟩
      · exact .inr ⟨h, by rw [h]; simp⟩
  | @step x y l h hy t ih =>
    intro k hk
    cases k with
    | zero => simp at hk
    | succ k =>
      obtain ⟨z, hz, q⟩ := ih k (by simpa using hk)
      refine ⟨z, List.mem_cons_of_mem _ hz, ?_⟩
      unfold fstF
      rw [h]
      simp only [if_neg hy]
      exact q
theorem Trail.head {f : Int → Option Int} {h0 x : Int} {l : List Int} (t : Trail f h0 x l) : ∃ r, l = x :: r := by
  cases t with
  | last h => exact ⟨[], rfl⟩
  | step h hy t => exact ⟨_, rfl⟩
theorem Trail.fin {f : Int → Option Int} {h0 x : Int} {l : List Int} (t : Trail f h0 x l) : ∃ z, l.getLast? = some z ∧ (f z = none ∨ f z = some h0) := by
  induction t with
  | @last x h => exact ⟨x, rfl, h⟩
  | @step x y l h hy t ih =>
    obtain ⟨z, e, q⟩ := ih
    obtain ⟨r, rfl⟩ := t.head
    exact ⟨z, by rw [List.getLast?_cons_cons]; exact e, q⟩
theorem Trail.all {f : Int → Option Int} {h0 x : Int} {l : List Int} (t : Trail f h0 x l) {P : Int → Prop} (h : P x) (st : ∀ a b, P a → f a = some b → P b) : ∀ z ∈ l, P z := by
  induction t with
  | @last x _ => intro z hz; rw [List.mem_singleton.mp hz]; exact h
  | @step x y l e hy t ih =>
    intro z hz
    rcases List.mem_cons.mp hz with rfl | hz
    · exact h
    · exact ih (st _ _ h e) z hz
theorem Trail.from {f : Int → Option Int} {h0 x : Int} {l : List Int} (t : Trail f h0 x l) : ∀ z ∈ l, z = x ∨ ∃ w ∈ l, f w = some z := by
  induction t with
  | @last x _ => intro z hz; exact .inl (List.mem_singleton.mp hz)
  | @step x y l e hy t ih =>
    intro z hz
    rcases List.mem_cons.mp hz with rfl | hz
    · exact .inl rfl
    · rcases ih z hz with rfl | ⟨w, hw, q⟩
      · exact .inr ⟨x, by simp, e⟩
      · exact .inr ⟨w, List.mem_cons_of_mem _ hw, q⟩
theorem Trail.into {f : Int → Option Int} {h0 x : Int} {l : List Int} (t : Trail f h0 x l) : ∀ z ∈ l, ∀ y, f z = some y → y = h0 ∨ y ∈ l := by
  induction t with
  | @last x h =>
    intro z hz y e
    rw [List.mem_singleton.mp hz] at e
    rcases h with h | h
    · rw [h] at e; cases e
    · rw [h] at e; exact .inl (Option.some.inj e).symm
  | @step x y l h hy t ih =>
    intro z hz w e
    rcases List.mem_cons.mp hz with rfl | hz
    · rw [h] at e
      obtain rfl := Option.some.inj e
      obtain ⟨r, rfl⟩ := t.head
      exact .inr (by simp)
    · rcases ih z hz w e with q | q
      · exact .inl q
      · exact .inr (List.mem_cons_of_mem _ q)
theorem nd_len : ∀ (n : Nat) (l : List Int), l.Nodup → (∀ z ∈ l, InR n z) → l.length ≤ n
  | 0, l, _, h => by
    cases l with
    | nil => simp
    | cons a r => have := h a (by simp); omega
  | n + 1, l, nd, h => by
    have ih := nd_len n (l.erase (n : Int)) (nd.erase _) fun z hz => by
      obtain ⟨h1, h2⟩ := (List.Nodup.mem_erase_iff nd).mp hz
      have := h z h2
      omega
    by_cases m : (n : Int) ∈ l
    · rw [List.length_erase_of_mem m] at ih; omega
    · rw [List.erase_of_not_mem m] at ih; omega
theorem trail_go {f : Int → Option Int} {n : Nat} {h0 : Int} (rng : ∀ x y, InR n x → f x = some y → InR n y) (inj : ∀ x y z, InR n x → InR n y → f x = some z → f y = some z → x = y) :
    ∀ (k : Nat) (v : List Int) (x : Int), (v ++ [x]).Nodup → (∀ z ∈ v ++ [x], InR n z) → (∀ z ∈ v ++ [x], z = h0 ∨ ∃ w ∈ v, f w = some z) → n ≤ v.length + k → ∃ l, Trail f h0 x l ∧ (v ++ l).Nodup ∧ ∀ z ∈ v ++ l, InR n z
  | 0, v, x, nd, hr, _, hk => by
    have := nd_len n _ nd hr
    simp at this; omega
  | k + 1, v, x, nd, hr, hf, hk => by
    cases e : f x with
    | none => exact ⟨[x], .last (.inl e), nd, hr⟩
    | some y =>
      by_cases hy : y = h0
      · exact ⟨[x], .last (.inr (by rw [e, hy])), nd, hr⟩
      · have hx : InR n x := hr x (by simp)
        have ny : y ∉ v ++ [x] := fun m => by
          rcases hf y m with q | ⟨w, hw, q⟩
          · exact hy q
          · have := inj w x y (hr w (by simp [hw])) hx q e
            subst this
            have nd' := (List.nodup_append.mp nd).2.2 w hw w (by simp)
            exact nd' rfl
        obtain ⟨l, t, nd2, hr2⟩ := trail_go rng inj k (v ++ [x]) y (by
            rw [List.nodup_append]
            exact ⟨nd, by simp, fun a ha b hb => by rw [List.mem_singleton.mp hb]; exact fun z => ny (z ▸ ha)⟩)
          (fun z hz => by
            rcases List.mem_append.mp hz with m | m
            · exact hr z m
            · rw [List.mem_singleton.mp m]; exact rng x y hx e)
          (fun z hz => by
            rcases List.mem_append.mp hz with m | m
            · rcases hf z m with q | ⟨w, hw, q⟩
              · exact .inl q
              · exact .inr ⟨w, by simp [hw], q⟩
            · rw [List.mem_singleton.mp m]; exact .inr ⟨x, by simp, e⟩)
          (by simp; omega)
        refine ⟨x :: l, .step e hy t, ?_, ?_⟩
        · rwa [List.append_assoc] at nd2
        · rwa [List.append_assoc] at hr2
theorem trail_ex {f : Int → Option Int} {n : Nat} {h0 : Int} (rng : ∀ x y, InR n x → f x = some y → InR n y) (inj : ∀ x y z, InR n x → InR n y → f x = some z → f y = some z → x = y) (h : InR n h0) :
    ∃ l, Trail f h0 h0 l ∧ l.Nodup ∧ (∀ z ∈ l, InR n z) ∧ l.length ≤ n := by
  obtain ⟨l, t, nd, hr⟩ := trail_go (h0 := h0) rng inj n [] h0 (by simp) (by simpa using h) (by simp) (by simp)
  exact ⟨l, t, by simpa using nd, by simpa using hr, nd_len n l (by simpa using nd) (by simpa using hr)⟩
theorem trl_ex {f : Int → Option Int} {n : Nat} {h0 : Int} (rng : ∀ x y, InR n x → f x = some y → InR n y) (inj : ∀ x y z, InR n x → InR n y → f x = some z → f y = some z → x = y) (h : InR n h0) :
    Trail f h0 h0 (trl f h0 n h0) ∧ (trl f h0 n h0).Nodup ∧ (∀ z ∈ trl f h0 n h0, InR n z) ∧ (trl f h0 n h0).length ≤ n := by
  obtain ⟨l, t, nd, hr, hl⟩ := trail_ex rng inj h
  rw [trl_of t n (by omega)]
  exact ⟨t, nd, hr, hl⟩
def Lin (f : Int → Option Int) : List Int → Prop
  | [] => True
  | [_] => True
  | x :: y :: r => f x = some y ∧ Lin f (y :: r)
theorem Trail.lin {f : Int → Option Int} {h0 x : Int} {l : List Int} (t : Trail f h0 x l) : Lin f l := by
  induction t with
  | last h => trivial
  | @step x y l e hy t ih =>
    obtain ⟨r, rfl⟩ := t.head
    exact ⟨e, ih⟩
theorem Lin.from {f : Int → Option Int} : ∀ {x : Int} {l : List Int}, Lin f (x :: l) → ∀ z ∈ l, ∃ w, w ∈ x :: l ∧ f w = some z
  | x, [], _, z, hz => by cases hz
  | x, y :: r, h, z, hz => by
    rcases List.mem_cons.mp hz with rfl | hz
    · exact ⟨x, by simp, h.1⟩
    · obtain ⟨w, hw, e⟩ := Lin.from h.2 z hz
      exact ⟨w, List.mem_cons_of_mem _ hw, e⟩
theorem trail_of_lin {f : Int → Option Int} {h0 : Int} : ∀ {x : Int} {l : List Int}, Lin f (x :: l) → (∀ z ∈ l, z ≠ h0) → (∀ z, (x :: l).getLast? = some z → f z = none ∨ f z = some h0) → Trail f h0 x (x :: l)
  | x, [], _, _, hl => .last (hl x rfl)
  | x, y :: r, h, hn, hl => .step h.1 (hn y (by simp)) (trail_of_lin h.2 (fun z hz => hn z (List.mem_cons_of_mem _ hz)) fun z hz => hl z (by rw [List.getLast?_cons_cons]; exact hz))
end Hs
set_option linter.all false
namespace Hs
def lkM (ms : List (Option Int)) (x : Int) : Option Int := (ms[x.toNat]?).getD none
def ahd (on : List Int) (h : Int) : Int := ((on.idxOf h : Nat) : Int)
def lefM (on : List Int) (ms : List (Option Int)) (h : Int) : Option Int := lkM ms (ahd on h)
def rigM (on : List Int) (ms : List (Option Int)) (h : Int) : Option Int := (lkM ms h).map (lk on)
def onwF (on : List Int) (x : Int) : Option Int := some (lk on x)
def patL (on : List Int) (h : Int) : List Int := trl (onwF on) h on.length h
def fstK (on : List Int) (ms : List (Option Int)) (h : Int) : Int := fstF (rigM on ms) h on.length h
def knotL (on : List Int) (ms : List (Option Int)) (h : Int) : List Int := trl (lefM on ms) (fstK on ms h) on.length (fstK on ms h)
def rimF (on : List Int) (ms : List (Option Int)) (x : Int) : Option Int := if lkM ms x = none then some (fstK on ms (lk on x)) else none
def rimL (on : List Int) (ms : List (Option Int)) (h : Int) : List Int := trl (rimF on ms) h on.length h
theorem ahd_get {on : List Int} {h : Int} (m : h ∈ on) : on[on.idxOf h]? = some h := by
  rw [List.getElem?_eq_getElem (List.idxOf_lt_length_iff.mpr m)]; simp
theorem ahd_rng {on : List Int} {h : Int} (m : h ∈ on) : 0 ≤ ahd on h ∧ ahd on h < on.length := by
  have := List.idxOf_lt_length_iff.mpr m
  unfold ahd; omega
theorem idx_first {on : List Int} {h : Int} : ∀ i, i < on.idxOf h → on[i]? ≠ some h := fun i hi e => by
  obtain ⟨hl, e⟩ := List.getElem?_eq_some_iff.mp e
  have := List.not_of_lt_findIdx (p := fun x => x == h) (xs := on) hi
  exact absurd this (by simp [e])
theorem lkM_some {ms : List (Option Int)} {half m : Int} (e : lkM ms half = some m) : ms[half.toNat]? = some (some m) := by
  unfold lkM at e
  cases e2 : ms[half.toNat]? with
  | none => rw [e2] at e; cases e
  | some o => rw [e2] at e; exact congrArg some e
section
variable {on : List Int} {ms : List (Option Int)} (S : SkinOk on ms)
include S
theorem SkinOk.mem {h : Int} (g : InR on.length h) : h ∈ on := S.sur h g.1 g.2
theorem SkinOk.lkR {x : Int} (g : InR on.length x) : InR on.length (lk on x) :=
  S.rng _ (List.mem_of_getElem? (lk_get (by omega)))
theorem SkinOk.lkI {x y : Int} (g : InR on.length x) (k : InR on.length y) (e : lk on x = lk on y) : x = y := by
  have h1 := lk_get (l := on) (x := x) (by omega)
  have h2 := lk_get (l := on) (x := y) (by omega)
  rw [e] at h1
  have := nd_at S.nd h1 h2
  omega
theorem SkinOk.lkA {y : Int} (g : InR on.length y) : lk on (ahd on y) = y := by
  have h := ahd_get (S.mem g)
  have r := ahd_rng (S.mem g)
  have h2 := lk_get (l := on) (x := ahd on y) (by omega)
  have e : (ahd on y).toNat = on.idxOf y := by unfold ahd; omega
  rw [e, h] at h2
  exact (Option.some.inj h2).symm
theorem SkinOk.ahR {y : Int} (g : InR on.length y) : InR on.length (ahd on y) := ahd_rng (S.mem g)
theorem SkinOk.ahL {x : Int} (g : InR on.length x) : ahd on (lk on x) = x := S.lkI (S.ahR (S.lkR g)) g (S.lkA (S.lkR g))
theorem SkinOk.mate {x m : Int} (g : InR on.length x) (e : lkM ms x = some m) : InR on.length m ∧ lkM ms m = some x ∧ m ≠ x := by
  obtain ⟨h1, h2, h3, h4⟩ := S.ok x.toNat m (lkM_some e)
  refine ⟨⟨h1, h2⟩, ?_, fun z => h3 (by omega)⟩
  unfold lkM
  rw [h4]
  show some ((x.toNat : Nat) : Int) = some x
  congr 1; omega
theorem SkinOk.lefR {x y : Int} (g : InR on.length x) (e : lefM on ms x = some y) : InR on.length y := (S.mate (S.ahR g) e).1
theorem SkinOk.rigR {x y : Int} (g : InR on.length x) (e : rigM on ms x = some y) : InR on.length y := by
  obtain ⟨m, h1, h2⟩ := Option.map_eq_some_iff.mp e
  rw [← h2]; exact S.lkR (S.mate g h1).1
theorem SkinOk.rigL {x y : Int} (g : InR on.length x) (e : rigM on ms x = some y) : lefM on ms y = some x := by
  obtain ⟨m, h1, h2⟩ := Option.map_eq_some_iff.mp e
  obtain ⟨gm, hm, _⟩ := S.mate g h1
  unfold lefM
  rw [← h2, S.ahL gm, hm]
theorem SkinOk.lefG {x y : Int} (g : InR on.length x) (e : lefM on ms x = some y) : rigM on ms y = some x := by
  obtain ⟨gy, hy, _⟩ := S.mate (S.ahR g) e
  unfold rigM
  rw [hy]
  show some (lk on (ahd on x)) = some x
  rw [S.lkA g]
theorem SkinOk.lefI {x y z : Int} (g : InR on.length x) (k : InR on.length y) (a : lefM on ms x = some z) (b : lefM on ms y = some z) : x = y :=
  Option.some.inj ((S.lefG g a).symm.trans (S.lefG k b))
theorem SkinOk.rigI {x y z : Int} (g : InR on.length x) (k : InR on.length y) (a : rigM on ms x = some z) (b : rigM on ms y = some z) : x = y :=
  Option.some.inj ((S.rigL g a).symm.trans (S.rigL k b))
theorem SkinOk.pat {h : Int} (g : InR on.length h) : Trail (onwF on) h h (patL on h) ∧ (patL on h).Nodup ∧ (∀ z ∈ patL on h, InR on.length z) ∧ (patL on h).length ≤ on.length :=
  trl_ex (fun x y gx e => by cases e; exact S.lkR gx) (fun x y z gx gy a b => S.lkI gx gy ((Option.some.inj a).trans (Option.some.inj b).symm)) g
theorem SkinOk.rigT {h : Int} (g : InR on.length h) : ∃ l, Trail (rigM on ms) h h l ∧ l.Nodup ∧ (∀ z ∈ l, InR on.length z) ∧ l.length ≤ on.length :=
  trail_ex (fun x y gx e => S.rigR gx e) (fun x y z gx gy a b => S.rigI gx gy a b) g
theorem SkinOk.lefT {h : Int} (g : InR on.length h) : ∃ l, Trail (lefM on ms) h h l ∧ l.Nodup ∧ (∀ z ∈ l, InR on.length z) ∧ l.length ≤ on.length :=
  trail_ex (fun x y gx e => S.lefR gx e) (fun x y z gx gy a b => S.lefI gx gy a b) g
theorem SkinOk.fst {h : Int} (g : InR on.length h) : InR on.length (fstK on ms h) ∧ ((rigM on ms (fstK on ms h) = none) ∨ fstK on ms h = h) := by
  obtain ⟨l, t, _, hr, hl⟩ := S.rigT g
  obtain ⟨z, hz, q⟩ := fstF_of t on.length hl
  rcases q with ⟨a, b⟩ | ⟨a, b⟩
  · unfold fstK; rw [b]; exact ⟨hr z hz, .inl a⟩
  · unfold fstK; rw [b]; exact ⟨g, .inr rfl⟩
theorem SkinOk.knot {h : Int} (g : InR on.length h) : Trail (lefM on ms) (fstK on ms h) (fstK on ms h) (knotL on ms h) ∧ (knotL on ms h).Nodup ∧ (∀ z ∈ knotL on ms h, InR on.length z) ∧ (knotL on ms h).length ≤ on.length :=
  trl_ex (fun x y gx e => S.lefR gx e) (fun x y z gx gy a b => S.lefI gx gy a b) (S.fst g).1
theorem SkinOk.knot_of {h : Int} (g : InR on.length h) {l : List Int} (t : Trail (lefM on ms) (fstK on ms h) (fstK on ms h) l) (hl : l.length ≤ on.length + 1) : knotL on ms h = l := trl_of t _ hl
theorem SkinOk.round {h z : Int} (g : InR on.length h) {l : List Int} (t : Trail (lefM on ms) h h l) (hz : z ∈ l) (e : lefM on ms z = some h) : fstK on ms h = h := by
  obtain ⟨r, tr, _, hr, hl⟩ := S.rigT g
  have lr : ∀ x ∈ l, InR on.length x := t.all (P := fun x => InR on.length x) g fun a b ga e => S.lefR ga e
  obtain ⟨w, hw, q⟩ := fstF_of tr on.length hl
  have back : ∀ x ∈ l, ∃ y ∈ l, rigM on ms x = some y := fun x hx => by
    rcases t.from x hx with rfl | ⟨y, hy, q⟩
    · exact ⟨z, hz, S.lefG (lr z hz) e⟩
    · exact ⟨y, hy, S.lefG (lr y hy) q⟩
  have inl : ∀ x ∈ r, x ∈ l := by
    obtain ⟨r', e'⟩ := t.head
    refine tr.all (P := fun x => x ∈ l) (by rw [e']; simp) fun a b ha q => ?_
    obtain ⟨y, hy, q2⟩ := back a ha
    rw [q] at q2
    exact Option.some.inj q2 ▸ hy
  rcases q with ⟨a, b⟩ | ⟨a, b⟩
  · obtain ⟨y, _, q2⟩ := back w (inl w hw)
    rw [a] at q2; cases q2
  · exact b
theorem SkinOk.open' {h z : Int} (g : InR on.length h) {l r : List Int} (t : Trail (lefM on ms) h h l) (hz : z ∈ l) (e : lefM on ms z = none) (tr : Trail (rigM on ms) h h r) : ∀ x ∈ r, rigM on ms x ≠ some h := fun x hx ex => by
  have rr : ∀ x ∈ r, InR on.length x := tr.all (P := fun x => InR on.length x) g fun a b ga e => S.rigR ga e
  have back : ∀ y ∈ r, ∃ w ∈ r, lefM on ms y = some w := fun y hy => by
    rcases tr.from y hy with rfl | ⟨w, hw, q⟩
    · exact ⟨x, hx, S.rigL (rr x hx) ex⟩
    · exact ⟨w, hw, S.rigL (rr w hw) q⟩
  have inr : ∀ y ∈ l, y ∈ r := by
    obtain ⟨r', e'⟩ := tr.head
    refine t.all (P := fun x => x ∈ r) (by rw [e']; simp) fun a b ha q => ?_
    obtain ⟨w, hw, q2⟩ := back a ha
    rw [q] at q2
    exact Option.some.inj q2 ▸ hw
  obtain ⟨w, _, q⟩ := back z (inr z hz)
  rw [e] at q; cases q
theorem SkinOk.row {g : Int} {l : List Int} (gl : ∀ z ∈ g :: l, InR on.length z) (hg : rigM on ms g = none) (L : Lin (lefM on ms) (g :: l)) (hl : ∀ z, (g :: l).getLast? = some z → lefM on ms z = none) : Trail (lefM on ms) g g (g :: l) := by
  refine trail_of_lin L (fun z hz e => ?_) fun z hz => .inl (hl z hz)
  obtain ⟨w, hw, q⟩ := L.from z hz
  have := S.lefG (gl w hw) q
  rw [e, hg] at this; cases this
end
theorem fstF_none {f : Int → Option Int} {h0 x : Int} (h : f x = none) : ∀ k, fstF f h0 k x = x
  | 0 => rfl
  | k + 1 => by unfold fstF; rw [h]
theorem fstF_step {f : Int → Option Int} {h0 x y : Int} (h : f x = some y) (hy : y ≠ h0) (k : Nat) : fstF f h0 (k + 1) x = fstF f h0 k y := by
  show (match f x with | none => x | some y => if y = h0 then h0 else fstF f h0 k y) = _
  rw [h]; simp [hy]
end Hs
set_option linter.all false
namespace Hs
theorem Trail.none_last {f : Int → Option Int} {h0 x : Int} {l : List Int} (t : Trail f h0 x l) : ∀ z ∈ l, f z = none → l.getLast? = some z := by
  induction t with
  | @last x h => intro z hz _; rw [List.mem_singleton.mp hz]; rfl
  | @step x y l h hy t ih =>
    intro z hz e
    obtain ⟨r, rfl⟩ := t.head
    rcases List.mem_cons.mp hz with rfl | hz
    · rw [h] at e; cases e
    · rw [List.getLast?_cons_cons]; exact ih z hz e
section
variable {on : List Int} {ms : List (Option Int)} (S : SkinOk on ms)
include S
theorem SkinOk.fst_open {y : Int} (g : InR on.length y) (e : lefM on ms y = none) : rigM on ms (fstK on ms y) = none := by
  obtain ⟨r, tr, _, hr, hl⟩ := S.rigT g
  obtain ⟨w, hw, q⟩ := fstF_of tr on.length hl
  rcases q with ⟨a, b⟩ | ⟨a, b⟩
  · unfold fstK; rw [b]; exact a
  · have := S.rigL (hr w hw) a
    rw [e] at this; cases this
theorem SkinOk.back {h0 x g : Int} {r W : List Int} (t : Trail (rigM on ms) h0 x r) (hr : ∀ z ∈ r, InR on.length z) (hg : g ∈ W) (hl : r.getLast? = some g) (tw : Trail (lefM on ms) g g W) : ∀ z ∈ r, z ∈ W := by
  induction t with
  | @last x h =>
    intro z hz
    rw [List.mem_singleton.mp hz]
    have : x = g := by simpa using hl
    rw [this]; exact hg
  | @step x y l h hy t ih =>
    obtain ⟨r', e'⟩ := t.head
    have ih := ih (fun z hz => hr z (List.mem_cons_of_mem _ hz)) (by rw [e'] at hl ⊢; rwa [List.getLast?_cons_cons] at hl)
    intro z hz
    rcases List.mem_cons.mp hz with rfl | hz
    · have hy := ih y (by rw [e']; simp)
      rcases tw.into y hy _ (S.rigL (hr _ (by simp)) h) with q | q
      · rw [q]; exact hg
      · exact q
    · exact ih z hz
theorem SkinOk.fst_inj {y y' : Int} (g : InR on.length y) (g' : InR on.length y') (e : lefM on ms y = none) (e' : lefM on ms y' = none) (q : fstK on ms y = fstK on ms y') : y = y' := by
  have key : ∀ {y : Int}, InR on.length y → lefM on ms y = none → y ∈ knotL on ms y := fun {y} g e => by
    obtain ⟨tw, _, hw, _⟩ := S.knot g
    obtain ⟨W', eW⟩ := tw.head
    obtain ⟨r, tr, _, hr, hl⟩ := S.rigT g
    obtain ⟨z, hz, fz⟩ := tr.fin
    have fo := S.fst_open g e
    obtain ⟨w, hw2, q2⟩ := fstF_of tr on.length hl
    have zg : z = fstK on ms y := by
      rcases fz with fz | fz
      · have := tr.none_last w hw2
        rcases q2 with ⟨a, b⟩ | ⟨a, b⟩
        · have := this a
          rw [hz] at this
          unfold fstK; rw [b]; exact Option.some.inj this
        · have := S.rigL (hr w hw2) a
          rw [e] at this; cases this
      · have := S.rigL (hr z (List.mem_of_getLast? hz)) fz
        rw [e] at this; cases this
    obtain ⟨r', er⟩ := tr.head
    exact S.back tr hr (by rw [eW]; simp) (by rw [hz, zg]) tw y (by rw [er]; simp)
  have h1 := key g e
  have h2 := key g' e'
  have eK : knotL on ms y = knotL on ms y' := by unfold knotL; rw [q]
  rw [← eK] at h2
  have l1 := (S.knot g).1.none_last y h1 e
  have l2 := (S.knot g).1.none_last y' h2 e'
  rw [l1] at l2
  exact Option.some.inj l2
theorem SkinOk.free_left {x : Int} (g : InR on.length x) (e : lkM ms x = none) : lefM on ms (lk on x) = none := by
  unfold lefM; rw [S.ahL g]; exact e
theorem SkinOk.fst_free {x : Int} (g : InR on.length x) (e : lkM ms x = none) : InR on.length (fstK on ms (lk on x)) ∧ lkM ms (fstK on ms (lk on x)) = none := by
  refine ⟨(S.fst (S.lkR g)).1, ?_⟩
  have := S.fst_open (S.lkR g) (S.free_left g e)
  unfold rigM at this
  exact Option.map_eq_none_iff.mp this
theorem rimF_some {x y : Int} (q : rimF on ms x = some y) : lkM ms x = none ∧ y = fstK on ms (lk on x) := by
  unfold rimF at q
  split at q
  · exact ⟨by assumption, (Option.some.inj q).symm⟩
  · cases q
theorem SkinOk.rim {h : Int} (g : InR on.length h) : Trail (rimF on ms) h h (rimL on ms h) ∧ (rimL on ms h).Nodup ∧ (∀ z ∈ rimL on ms h, InR on.length z) ∧ (rimL on ms h).length ≤ on.length :=
  trl_ex (fun x y gx e => by
      obtain ⟨a, b⟩ := rimF_some S e
      rw [b]; exact (S.fst_free gx a).1)
    (fun x y z gx gy a b => by
      obtain ⟨a1, a2⟩ := rimF_some S a
      obtain ⟨b1, b2⟩ := rimF_some S b
      exact S.lkI gx gy (S.fst_inj (S.lkR gx) (S.lkR gy) (S.free_left gx a1) (S.free_left gy b1) (a2.symm.trans b2))) g
theorem SkinOk.rim_free {h : Int} (g : InR on.length h) (e : lkM ms h = none) : ∀ z ∈ rimL on ms h, InR on.length z ∧ lkM ms z = none :=
  (S.rim g).1.all (P := fun z => InR on.length z ∧ lkM ms z = none) ⟨g, e⟩ fun a b ga q => by
    obtain ⟨a1, a2⟩ := rimF_some S q
    rw [a2]; exact S.fst_free ga.1 a1
end
end Hs
set_option Elab.async false
set_option linter.all false
set_option maxRecDepth 100000
set_option maxHeartbeats 1000000
namespace Hs
open PySem L2
section
variable {P : Program} {w : World} {K : PySem.W.Frag} {mg : Str → Option Value} {base : Heap} {f : Addr} {fd : FuncData} {cN : Addr}
def spCheck (K : PySem.W.Frag) (cN : Addr) : Sp := fun vs H Q E => ∃ (p po : Addr) (rest on : List V) (half : Int), vs = [.ref p, .int half] ∧ SqT K H p (.ref po :: rest) ∧ SqT K H po on ∧ half.natAbs.log2 < 1920 ∧
  (0 ≤ half ∧ half < on.length → Q .non H) ∧ (¬ (0 ≤ half ∧ half < on.length) → E (.ref cN) none H)
theorem scCheck : FnScope ["skin", "half"] ["skin", "half"] (defScope s_check_half) := ⟨rfl, rfl, rfl, by decide +kernel, rfl, by decide +kernel, by decide +kernel⟩
theorem ok_check (B : Bi mg) (own : OwnE K cN) (hN : mg "NoHalf" = some (.ref cN)) (F : Fun K "check_half" "check_half" s_check_half f fd) : FnOk P w K mg base (CXf P w) 1 f fd ["skin", "half"] (spCheck K cN) := by
  refine FunX.ok F scCheck (fun vs H Q E h => ?_) (fun cdv A outer s H vs Q E hr h G => ?_)
  · obtain ⟨p, po, rest, on, half, rfl, _⟩ := h; rfl
  obtain ⟨p, po, rest, on, half, rfl, hp, ho, hb, q1, q2⟩ := h
  refine ⟨_, (pss_one (ps_if (pt_not (pt_chain op_le op_lt pe_int (pv 1) (pe_callB call_len_seq rfl B.len_ bt_len (pa_cons (pe_ix ix_tup (pv 0) pe_int (fun _ _ => rfl)) pa_nil))))
   (pss_one (ps_raise rfl own hN G (pa_cons pe_str pa_nil)))
   pss_nil)), ?_⟩
  refine ⟨_, rfl, _, _, rfl, rfl, _, rfl, ite2 (fun c1 => ?_) (fun c1 => ?_)⟩
  · refine ⟨_, rfl, p, _, _, .ref po, rfl, rfl, hp, at0 _ _, po, on, rfl, .inr ho, _, _, rfl, rfl, _, rfl, ite2 (fun c2 => ?_) (fun c2 => ?_)⟩
    · have z : ¬ (0 ≤ half ∧ half < on.length) := by simp at c1 c2; omega
      exact ⟨(by show 1 ≤ 100; decide), q2 z⟩
    · exact q1 (by simp at c1 c2; omega)
  · refine ⟨_, rfl, ite2 (fun c2 => ?_) (fun c2 => ?_)⟩
    · have z : ¬ (0 ≤ half ∧ half < on.length) := by simp at c1; omega
      exact ⟨(by show 1 ≤ 100; decide), q2 z⟩
    · exact absurd c2 (by decide)
structure SkAt (H : Hp) (p : Addr) (on : List Int) (ms : List (Option Int)) : Prop where
  ok : SkinOk on ms
  ex : ∃ po pm, H p = some (.tup [.ref po, .ref pm]) ∧ H po = some (.tup (on.map V.int)) ∧ H pm = some (.tup (ms.map mV))
theorem SkAt.same {H H' : Hp} {p : Addr} {on : List Int} {ms : List (Option Int)} (S : SkAt H p on ms) (s : Same H H') : SkAt H' p on ms := by
  obtain ⟨k, po, pm, h1, h2, h3⟩ := S
  exact ⟨k, po, pm, s _ _ h1, s _ _ h2, s _ _ h3⟩
theorem at_lkM {ms : List (Option Int)} {x : Int} (h0 : 0 ≤ x) (h : x < ms.length) : atI (ms.map mV) x = some (mV (lkM ms x)) := by
  refine atN h0 ?_
  unfold lkM
  rw [List.getElem?_map, List.getElem?_eq_getElem (by omega)]; rfl
theorem at_lk {on : List Int} {x : Int} (h0 : 0 ≤ x) (h : x < on.length) : atI (on.map V.int) x = some (.int (lk on x)) := by
  refine atN h0 ?_
  rw [List.getElem?_map, lk_get (by omega)]; rfl
theorem flat_map (on : List Int) : (on.map V.int).all flatV = true := by
  rw [List.all_map]; exact List.all_eq_true.mpr fun _ _ => rfl
theorem eqV_self (i : Int) : eqV (.int i) (.int i) = true := by simp [eqV]
theorem eqV_ne {i j : Int} (h : i ≠ j) : eqV (.int i) (.int j) = false := by simp [eqV, h]
def spHalf (cN : Addr) (g : List Int → List (Option Int) → Int → V) : Sp := fun vs H Q E => ∃ (p : Addr) (on : List Int) (ms : List (Option Int)) (half : Int), vs = [.ref p, .int half] ∧ SkAt H p on ms ∧ half.natAbs.log2 < 1920 ∧
  (0 ≤ half ∧ half < on.length → Q (g on ms half) H) ∧ (¬ (0 ≤ half ∧ half < on.length) → E (.ref cN) none H)
theorem idx_args {K : PySem.W.Frag} {H : Hp} {po : Addr} {on : List Int} {half : Int} {Q : VK} (h2 : H po = some (.tup (on.map V.int))) (m : half ∈ on) (q : Q (.int (ahd on half)) H) : rIndexT K (.ref po) [.int half] H Q := by
  refine ⟨po, _, _, on.idxOf half, .int half, rfl, rfl, SqT.of h2, rfl, flat_map on, by rw [List.getElem?_map, ahd_get m]; rfl, eqV_self half, fun i z' hi hz => ?_, q⟩
  rw [List.getElem?_map] at hz
  cases w : on[i]? with
  | none => rw [w] at hz; cases hz
  | some v =>
    rw [w] at hz
    cases hz
    exact eqV_ne fun c => idx_first i hi (by rw [w, c])
def gAhead : List Int → List (Option Int) → Int → V := fun on _ h => .int (ahd on h)
def gLeft : List Int → List (Option Int) → Int → V := fun on ms h => mV (lefM on ms h)
def gRight : List Int → List (Option Int) → Int → V := fun on ms h => mV (rigM on ms h)
theorem scAhead : FnScope ["skin", "half"] ["skin", "half"] (defScope s_ahead_of) := ⟨rfl, rfl, rfl, by decide +kernel, rfl, by decide +kernel, by decide +kernel⟩
theorem ok_ahead_of (B : Bi mg) (FC : FnX P w K mg base "check_half" ["skin", "half"] 1 (spCheck K cN)) (F : Fun K "ahead_of" "ahead_of" s_ahead_of f fd) : FnOk P w K mg base (CXf P w) 2 f fd ["skin", "half"] (spHalf cN gAhead) := by
  refine FunX.ok F scAhead (fun vs H Q E h => ?_) (fun cdv A outer s H vs Q E hr h G => ?_)
  · obtain ⟨p, on, ms, half, rfl, _⟩ := h; rfl
  obtain ⟨p, on, ms, half, rfl, ⟨sk, po, pm, h1, h2, h3⟩, hb, q1, q2⟩ := h
  have hl : (on.map V.int).length = on.length := List.length_map _
  refine ⟨_, (pss_cons (ps_expr (pe_callX FC hr (by decide) G (pa_cons (pv 0) (pa_cons (pv 1) pa_nil))))
   (pss_one (ps_ret (pe_bm PySem.F.plainAttrs_tuple PySem.F.slot_tuple_index PySem.F.type_tuple_index mt_indexT (pe_ix ix_tup (pv 0) pe_int (fun _ _ => rfl)) (pa_cons (pv 1) pa_nil))))), ?_⟩
  refine ⟨_, rfl, _, rfl, p, po, _, _, half, rfl, SqT.of h1, SqT.of h2, hb, fun g => ?_, fun g => q2 (by rw [hl] at g; exact g)⟩
  rw [hl] at g
  exact ⟨_, rfl, _, _, _, .ref po, rfl, rfl, SqT.of h1, at0 _ _, .inr (.inl ⟨rfl, _, h2⟩), _, rfl, idx_args h2 (sk.mem g) (q1 g)⟩
end
end Hs
set_option Elab.async false
set_option linter.all false
set_option maxRecDepth 100000
set_option maxHeartbeats 1000000
namespace Hs
open PySem L2
theorem gd_i (k : Nat) (i : Int) : Gd k (.int i) := ⟨by simp [PyData.canLay0], by simp [PyData.depth], by simp [wd]⟩
theorem gd_n (k : Nat) : Gd k .none := ⟨by simp [PyData.canLay0], by simp [PyData.depth], by simp [wd]⟩
theorem gd_s (k : Nat) {x : Str} (h : PyData.strOk x = true) : Gd k (.str x) := ⟨by simpa [PyData.canLay0] using h, by simp [PyData.depth], by simp [wd]⟩
theorem _root_.L2.Gd.eqv {k : Nat} {d : PyData} (g : Gd k d) : PyData.eqv d d = true := SeqAt.eqv_refl d g.lay
theorem gdA_nil (k : Nat) : GdA k [] := fun d h => by cases h
theorem gdA_cons {k : Nat} {d : PyData} {ds : List PyData} (g : Gd k d) (h : GdA k ds) : GdA k (d :: ds) := fun x hx => by
  rcases List.mem_cons.mp hx with rfl | hx
  · exact g
  · exact h x hx
theorem yesT {σ : St} {H : Hp} {A B : Hp → Prop} (h : A H) : tYes σ H (fun b H3 => if b = true then A H3 else B H3) := by
  have z : (if true = true then A H else B H) := by rw [if_pos rfl]; exact h
  exact z
theorem same_set {H H' : Hp} {p : Addr} {o : HO} (s : Same H H') (h : H p = none) : Same H (upd H' p o) := fun b u q => by rw [upd_ne (ne_of_none q h)]; exact s b u q
theorem dpAll_of {K : PySem.W.Frag} {H : Hp} : ∀ (rs : List Addr) (ds : List PyData), rs.length = ds.length → (∀ (j : Nat) r d, rs[j]? = some r → ds[j]? = some d → Dp K H (.ref r) d) → DpAll K H (rs.map V.ref) ds
  | [], [], _, _ => .nil
  | r :: rs, d :: ds, hl, h => .cons (h 0 r d rfl rfl) (dpAll_of rs ds (by simpa using hl) fun j r' d' h1 h2 => h (j + 1) r' d' (by simpa using h1) (by simpa using h2))
  | [], _ :: _, hl, _ => by simp at hl
  | _ :: _, [], hl, _ => by simp at hl
end Hs
set_option Elab.async false
set_option linter.all false
set_option maxRecDepth 100000
set_option maxHeartbeats 1000000
namespace Hs
open PySem L2
theorem trail_two {f : Int → Option Int} {h0 x : Int} {l : List Int} (t : Trail f h0 x l) : (l = [x] ∧ (f x = none ∨ f x = some h0)) ∨ ∃ y r, l = x :: r ∧ f x = some y ∧ y ≠ h0 ∧ Trail f h0 y r := by
  cases t with
  | last h => exact .inl ⟨rfl, h⟩
  | step h hy t => exact .inr ⟨_, _, rfl, h, hy, t⟩
theorem small_log {z : Int} (h : z.natAbs ≤ 1000000000) : z.natAbs.log2 < 1920 := by
  by_cases e : z.natAbs = 0
  · rw [e]; decide
  · exact (Nat.log2_lt e).mpr (Nat.lt_of_le_of_lt h (by decide +kernel))
section
variable {P : Program} {w : World} {K : PySem.W.Frag} {mg : Str → Option Value} {base : Heap} {f : Addr} {fd : FuncData} {cN cR : Addr}
def spHalfT (cN : Addr) (g : List Int → List (Option Int) → Int → List Int) : Sp := fun vs H Q E => ∃ (p : Addr) (on : List Int) (ms : List (Option Int)) (half : Int), vs = [.ref p, .int half] ∧ SkAt H p on ms ∧ half.natAbs.log2 < 1920 ∧
  (InR on.length half → ∀ r H', Same H H' → H r = none → H' r = some (.tup ((g on ms half).map V.int)) → Q (.ref r) H') ∧ (¬ InR on.length half → E (.ref cN) none H)
def gPatch : List Int → List (Option Int) → Int → List Int := fun on _ h => patL on h
theorem scPatch : FnScope ["skin", "half", "onward", "walk", "at"] ["skin", "half"] (defScope s_patch_of) := ⟨rfl, rfl, rfl, by decide +kernel, rfl, by decide +kernel, by decide +kernel⟩
theorem ok_patch_of (B : Bi mg) (FC : FnX P w K mg base "check_half" ["skin", "half"] 1 (spCheck K cN)) (F : Fun K "patch_of" "patch_of" s_patch_of f fd) : FnOk P w K mg base (CXf P w) 2 f fd ["skin", "half"] (spHalfT cN gPatch) := by
  refine FunX.ok F scPatch (fun vs H Q E h => ?_) (fun cdv A outer s H vs Q E hr h G => ?_)
  · obtain ⟨p, on, ms, half, rfl, _⟩ := h; rfl
  obtain ⟨p, on, ms, half, rfl, ⟨sk, po, pm, h1, h2, h3⟩, hb, q1, q2⟩ := h
  have hl : (on.map V.int).length = on.length := List.length_map _
  refine ⟨_, (pss_cons (ps_expr (pe_callX FC hr (by decide) G (pa_cons (pv 0) (pa_cons (pv 1) pa_nil))))
   (PSs.nox (pss_cons (ps_set (i := 2) scPatch.nd rfl (Or.inl rfl) (pe_ix ix_tup (pv 0) pe_int (fun _ _ => rfl)))
   (pss_cons (ps_set (i := 3) scPatch.nd rfl (Or.inl rfl) (pe_lst (pa_cons (pv 1) pa_nil)))
   (pss_cons (ps_set (i := 4) scPatch.nd rfl (Or.inl rfl) (pe_ix ix_tup (pv 2) (pv 1) (fun _ _ => rfl)))
   (pss_cons (ps_while PassesOwn.never (pt_cmpR op_ne (pv 4) (pv 1) (nomark _))
   (pss_cons (ps_expr (pe_bm PySem.F.plainAttrs_list PySem.F.slot_list_append PySem.F.type_list_append mt_append (pv 3) (pa_cons (pv 4) pa_nil)))
   (pss_one (ps_set (i := 4) scPatch.nd rfl (Or.inl rfl) (pe_ix ix_tup (pv 2) (pv 4) (fun _ _ => rfl))))))
   (pss_one (ps_ret (pe_callTy call_tuple_of rfl B.tuple_ bt_tuple (pa_cons (pv 3) pa_nil)))))))))), ?_⟩
  refine ⟨_, rfl, _, rfl, p, po, _, _, half, rfl, SqT.of h1, SqT.of h2, hb, fun g => ?_, fun g => q2 (by rw [hl] at g; exact g)⟩
  rw [hl] at g
  have q := q1 g
  have hle := sk.le
  obtain ⟨tr, _, rg, len⟩ := sk.pat g
  refine ⟨_, rfl, p, _, _, .ref po, rfl, rfl, SqT.of h1, at0 _ _, _, rfl, (by show 1 ≤ sizeLine; decide), fun lw hlw => ?_⟩
  refine ⟨_, rfl, _, rfl, po, _, _, _, rfl, rfl, SqT.of (up hlw h2), at_lk g.1 g.2, ?_⟩
  refine ⟨fun m σ H' => ∃ (pre rest : List Int) (a : Int), m = rest.length ∧ σ = [some (.ref p), some (.int half), some (.ref po), some (.ref lw), some (.int a)] ∧ Same H H' ∧ H' lw = some (.lst (pre.map V.int)) ∧ patL on half = pre ++ rest ∧
      ((rest = [] ∧ a = half) ∨ (Trail (onwF on) half a rest ∧ a ≠ half)), ?_, ?_⟩
  · rcases trail_two tr with ⟨e, h⟩ | ⟨y, r, e, hy, ne, t⟩
    · refine ⟨_, [half], [], lk on half, rfl, rfl, same_put hlw _, upd_same, e, .inl ⟨rfl, ?_⟩⟩
      rcases h with h | h
      · cases h
      · exact Option.some.inj h
    · obtain rfl := Option.some.inj hy
      exact ⟨_, [half], r, lk on half, rfl, rfl, same_put hlw _, upd_same, e, .inr ⟨t, ne⟩⟩
  rintro m σ H' ⟨pre, rest, a, rfl, rfl, sm, hw, eP, hc⟩
  have pl : pre.length + rest.length ≤ 400 := by rw [← List.length_append, ← eP]; omega
  refine ⟨_, rfl, _, rfl, rfl, _, rfl, ite2 (fun c => ?_) (fun c => ?_)⟩
  · have c : a ≠ half := by simpa using c
    rcases hc with ⟨_, z⟩ | ⟨t, _⟩
    · exact absurd z c
    refine ⟨_, fun _ _ z => z, ?_⟩
    have ga : InR on.length a := rg a (by rw [eP]; obtain ⟨r', e'⟩ := t.head; rw [e']; simp)
    refine ⟨_, rfl, .inl ⟨rfl, _, SqL.of hw⟩, _, rfl, lw, _, _, rfl, rfl, hw, ?_, ?_⟩
    · rw [List.length_map, sizeLine_eq]; omega
    have sm' : Same H (upd H' lw (.lst (pre.map V.int ++ [.int a]))) := same_set sm hlw
    refine ⟨_, rfl, _, rfl, po, _, _, _, rfl, rfl, SqT.of (sm' _ _ h2), at_lk ga.1 ga.2, ?_⟩
    have hw' : upd H' lw (.lst (pre.map V.int ++ [.int a])) lw = some (.lst ((pre ++ [a]).map V.int)) := by rw [upd_same, List.map_append]; rfl
    rcases trail_two t with ⟨e, h⟩ | ⟨y, r, e, hy, ne, t'⟩
    · refine ⟨0, by rw [e]; simp, pre ++ [a], [], lk on a, rfl, rfl, sm', hw', by rw [eP, e]; simp, .inl ⟨rfl, ?_⟩⟩
      rcases h with h | h
      · cases h
      · exact Option.some.inj h
    · obtain rfl := Option.some.inj hy
      exact ⟨r.length, by rw [e]; simp, pre ++ [a], r, lk on a, rfl, rfl, sm', hw', by rw [eP, e]; simp, .inr ⟨t', ne⟩⟩
  · have c : a = half := by simpa using c
    have er : rest = [] := by
      rcases hc with ⟨z, _⟩ | ⟨_, z⟩
      · exact z
      · exact absurd c z
    rw [er, List.append_nil] at eP
    refine ⟨_, rfl, lw, _, rfl, .inl ⟨SqL.of hw, fun r hr => ?_⟩⟩
    refine q r _ (sm.trans (same_put hr _)) (sm.free hr) ?_
    show upd H' r (.tup (pre.map V.int)) r = some (.tup ((patL on half).map V.int))
    rw [upd_same, eP]
end
end Hs
set_option Elab.async false
set_option linter.all false
set_option maxRecDepth 100000
set_option maxHeartbeats 1000000
namespace Hs
open PySem L2
def gKnot : List Int → List (Option Int) → Int → List Int := knotL
theorem seq_join {t u : TS} {D : Ends} {σ : St} {H : Hp} (J : St → Hp → Prop) (h1 : ∀ {Nx : St → Hp → Prop}, (∀ σ H, J σ H → Nx σ H) → t { D with nx := Nx } σ H) (h2 : ∀ σ H, J σ H → u D σ H) : tSeq t u D σ H := h1 h2
theorem pss_pre {X : Cx} {l : List Stmt} {φ : Prop} {t : TS} (h : φ → PSs X l t) : PSs X l (fun D σ H => φ ∧ t D σ H) := fun a b c d e f g => h g.1 a b c d e f g.2
theorem room_calm {k : Nat} {A : Around} {v : Option Value} (r : Room k A) : Room k (calmed (A.mark v)) := ⟨rfl, r.dp, r.un⟩
theorem trail_det {f : Int → Option Int} {h0 x : Int} {l : List Int} (t : Trail f h0 x l) : ∀ {l' : List Int}, Trail f h0 x l' → l = l' := by
  induction t with
  | @last x h =>
    intro l' t'
    rcases trail_two t' with ⟨e, _⟩ | ⟨y, r, _, hy, ne, _⟩
    · exact e.symm
    · rcases h with h | h
      · rw [h] at hy; cases hy
      · rw [h] at hy; exact absurd (Option.some.inj hy).symm ne
  | @step x y l h hy t ih =>
    intro l' t'
    rcases trail_two t' with ⟨_, e⟩ | ⟨y', r, e, hy', ne, t2⟩
    · rcases e with e | e
      · rw [h] at e; cases e
      · rw [h] at e; exact absurd (Option.some.inj e) hy
    · rw [h] at hy'
      obtain rfl := Option.some.inj hy'
      rw [e, ih t2]
theorem at_last (xs : List V) (v : V) : atI (xs ++ [v]) (-1) = some v := by
  unfold atI ixN
  rw [if_neg (by decide), if_pos (by rw [List.length_append]; simp; omega)]
  have e : ((-1 : Int) + ((xs ++ [v]).length : Nat)).toNat = xs.length := by rw [List.length_append]; simp; omega
  rw [Option.bind_some, e]
  simp
theorem dpA_ints {K : PySem.W.Frag} {H : Hp} : ∀ xs : List Int, DpAll K H (xs.map V.int) (xs.map PyData.int)
  | [] => .nil
  | x :: r => .cons (.int x) (dpA_ints r)
theorem gd_ints (k : Nat) {xs : List Int} (h : xs.length ≤ 401) : Gd (k + 1) (.tuple (xs.map PyData.int)) := Gd.tup (fun d hd => by
  obtain ⟨i, _, rfl⟩ := List.mem_map.mp hd
  exact gd_i k i) (by rw [List.length_map]; omega)
section
variable {P : Program} {w : World} {K : PySem.W.Frag} {mg : Str → Option Value} {base : Heap} {f : Addr} {fd : FuncData} {cN cS cR : Addr} {D : Nat → Addr}
def spIn (g : List Int → List (Option Int) → Int → V) : Sp := fun vs H Q _ => ∃ (p : Addr) (on : List Int) (ms : List (Option Int)) (half : Int), vs = [.ref p, .int half] ∧ SkAt H p on ms ∧ (0 ≤ half ∧ half < on.length) ∧ Q (g on ms half) H
def spInT (g : List Int → List (Option Int) → Int → List Int) : Sp := fun vs H Q _ => ∃ (p : Addr) (on : List Int) (ms : List (Option Int)) (half : Int), vs = [.ref p, .int half] ∧ SkAt H p on ms ∧ InR on.length half ∧
  ∀ r H', Same H H' → H r = none → H' r = some (.tup ((g on ms half).map V.int)) → Q (.ref r) H'
theorem scLLeft : FnScope ["skin", "half"] ["skin", "half"] (defScope s__law_left) := ⟨rfl, rfl, rfl, by decide +kernel, rfl, by decide +kernel, by decide +kernel⟩
theorem ok_lleft (B : Bi mg) (F : Fun K "_law_left" "_law_left" s__law_left f fd) : FnOk P w K mg base CX0 1 f fd ["skin", "half"] (spIn gLeft) := by
  refine F.ok scLLeft (fun vs H Q E h => ?_) (fun cdv A outer s H vs Q E hr h => ?_)
  · obtain ⟨p, on, ms, half, rfl, _⟩ := h; rfl
  obtain ⟨p, on, ms, half, rfl, ⟨sk, po, pm, h1, h2, h3⟩, g, q⟩ := h
  refine ⟨_, (pss_one (ps_ret (pe_ix ix_tup (pe_ix ix_tup (pv 0) pe_int (fun _ _ => rfl)) (pe_bm PySem.F.plainAttrs_tuple PySem.F.slot_tuple_index PySem.F.type_tuple_index mt_indexT (pe_ix ix_tup (pv 0) pe_int (fun _ _ => rfl)) (pa_cons (pv 1) pa_nil)) (fun _ _ => rfl)))), ?_⟩
  have r := ahd_rng (sk.mem g)
  refine ⟨_, rfl, p, _, _, .ref pm, rfl, rfl, SqT.of h1, at1 _ _ _, _, rfl, p, _, _, .ref po, rfl, rfl, SqT.of h1, at0 _ _, .inr (.inl ⟨rfl, _, h2⟩), _, rfl, ?_⟩
  refine idx_args (K := K) (Q := fun y H2 => rIxT K (V.ref pm) y H2 Q) h2 (sk.mem g) ?_
  exact ⟨pm, _, _, _, rfl, rfl, SqT.of h3, at_lkM r.1 (by rw [sk.len]; exact r.2), q⟩
theorem scLRight : FnScope ["skin", "half"] ["skin", "half"] (defScope s__law_right) := ⟨rfl, rfl, rfl, by decide +kernel, rfl, by decide +kernel, by decide +kernel⟩
theorem ok_lright (B : Bi mg) (F : Fun K "_law_right" "_law_right" s__law_right f fd) : FnOk P w K mg base CX0 1 f fd ["skin", "half"] (spIn gRight) := by
  refine F.ok scLRight (fun vs H Q E h => ?_) (fun cdv A outer s H vs Q E hr h => ?_)
  · obtain ⟨p, on, ms, half, rfl, _⟩ := h; rfl
  obtain ⟨p, on, ms, half, rfl, ⟨sk, po, pm, h1, h2, h3⟩, g, q⟩ := h
  refine ⟨_, (pss_cons (ps_if (pt_cmpR op_isN (pe_ix ix_tup (pe_ix ix_tup (pv 0) pe_int (fun _ _ => rfl)) (pv 1) (fun _ _ => rfl)) pe_non (nomark _))
   (pss_one (ps_ret pe_non))
   pss_nil)
   (pss_one (ps_ret (pe_ix ix_tup (pe_ix ix_tup (pv 0) pe_int (fun _ _ => rfl)) (pe_ix ix_tup (pe_ix ix_tup (pv 0) pe_int (fun _ _ => rfl)) (pv 1) (fun _ _ => rfl)) (fun _ _ => rfl))))), ?_⟩
  have z := at_lkM (ms := ms) g.1 (by rw [sk.len]; exact g.2)
  refine ⟨_, rfl, p, _, _, .ref pm, rfl, rfl, SqT.of h1, at1 _ _ _, _, rfl, pm, _, _, _, rfl, rfl, SqT.of h3, z, ?_⟩
  unfold gRight rigM at q
  cases e : lkM ms half with
  | none =>
    rw [e] at q
    exact ⟨rfl, _, rfl, itP rfl q⟩
  | some m =>
    rw [e] at q z
    have hm := sk.ok half.toNat m (lkM_some e)
    exact ⟨rfl, _, rfl, itN rfl ⟨_, rfl, p, _, _, .ref po, rfl, rfl, SqT.of h1, at0 _ _, _, rfl, p, _, _, .ref pm, rfl, rfl, SqT.of h1, at1 _ _ _, _, rfl, pm, _, _, _, rfl, rfl, SqT.of h3, z, po, _, _, _, rfl, rfl, SqT.of h2, at_lk hm.1 hm.2.1, q⟩⟩
theorem scLPatch : FnScope ["skin", "half", "row"] ["skin", "half"] (defScope s__law_patch) := ⟨rfl, rfl, rfl, by decide +kernel, rfl, by decide +kernel, by decide +kernel⟩
theorem ok_lpatch (B : Bi mg) (F : Fun K "_law_patch" "_law_patch" s__law_patch f fd) : FnOk P w K mg base CX0 1 f fd ["skin", "half"] (spInT gPatch) := by
  refine F.ok scLPatch (fun vs H Q E h => ?_) (fun cdv A outer s H vs Q E hr h => ?_)
  · obtain ⟨p, on, ms, half, rfl, _⟩ := h; rfl
  obtain ⟨p, on, ms, half, rfl, ⟨sk, po, pm, h1, h2, h3⟩, g, q⟩ := h
  refine ⟨_, (pss_cons (ps_set (i := 2) scLPatch.nd rfl (Or.inl rfl) (pe_lst (pa_cons (pv 1) pa_nil)))
   (pss_cons (ps_while PassesOwn.never (pt_cmpR op_ne (pe_ix ix_tup (pe_ix ix_tup (pv 0) pe_int (fun _ _ => rfl)) (pe_ix ix_list (pv 2) (pe_un un_neg pe_int) (fun _ _ => rfl)) (fun _ _ => rfl)) (pv 1) (nomark _))
   (pss_one (ps_expr (pe_bm PySem.F.plainAttrs_list PySem.F.slot_list_append PySem.F.type_list_append mt_append (pv 2) (pa_cons (pe_ix ix_tup (pe_ix ix_tup (pv 0) pe_int (fun _ _ => rfl)) (pe_ix ix_list (pv 2) (pe_un un_neg pe_int) (fun _ _ => rfl)) (fun _ _ => rfl)) pa_nil)))))
   (pss_one (ps_ret (pe_callTy call_tuple_of rfl B.tuple_ bt_tuple (pa_cons (pv 2) pa_nil)))))), ?_⟩
  have hle := sk.le
  obtain ⟨tr, _, rg, len⟩ := sk.pat g
  refine ⟨_, rfl, (by show 1 ≤ sizeLine; decide), fun lw hlw => ?_⟩
  refine ⟨fun m σ H' => ∃ (pre rest : List Int) (x : Int), m = rest.length ∧ σ = [some (.ref p), some (.int half), some (.ref lw)] ∧ Same H H' ∧ H' lw = some (.lst (pre.map V.int ++ [.int x])) ∧ patL on half = pre ++ rest ∧ Trail (onwF on) half x rest,
    ⟨_, [], _, half, rfl, rfl, same_put hlw _, upd_same, rfl, tr⟩, ?_⟩
  rintro m σ H' ⟨pre, rest, x, rfl, rfl, sm, hw, eP, t⟩
  have pl : pre.length + rest.length ≤ 400 := by rw [← List.length_append, ← eP]; omega
  obtain ⟨r0, er0⟩ := t.head
  have gx : InR on.length x := rg x (by rw [eP, er0]; simp)
  refine ⟨_, rfl, p, _, _, .ref po, rfl, rfl, SqT.of (sm _ _ h1), at0 _ _, _, rfl, _, rfl, lw, _, _, _, rfl, rfl, SqL.of hw, at_last _ _, po, _, _, _, rfl, rfl, SqT.of (sm _ _ h2), at_lk gx.1 gx.2, _, rfl, rfl, _, rfl, ite2 (fun c => ?_) (fun c => ?_)⟩
  · have c : lk on x ≠ half := by simpa using c
    refine ⟨_, fun _ _ z => z, ?_⟩
    refine ⟨_, rfl, .inl ⟨rfl, _, SqL.of hw⟩, _, rfl, p, _, _, .ref po, rfl, rfl, SqT.of (sm _ _ h1), at0 _ _, _, rfl, _, rfl, lw, _, _, _, rfl, rfl, SqL.of hw, at_last _ _, po, _, _, _, rfl, rfl, SqT.of (sm _ _ h2), at_lk gx.1 gx.2, lw, _, _, rfl, rfl, hw, ?_, ?_⟩
    · rw [List.length_append, List.length_map, sizeLine_eq]; simp; omega
    rcases trail_two t with ⟨e, h⟩ | ⟨y, r, e, hy, ne, t'⟩
    · rcases h with h | h
      · cases h
      · exact absurd (Option.some.inj h) c
    · obtain rfl := Option.some.inj hy
      exact ⟨r.length, by rw [e]; simp, pre ++ [x], r, lk on x, rfl, rfl, same_set sm hlw, by rw [upd_same, List.map_append]; rfl, by rw [eP, e]; simp, t'⟩
  · have c : lk on x = half := by simpa using c
    have er : rest = [x] := by
      rcases trail_two t with ⟨e, _⟩ | ⟨y, r, e, hy, ne, t'⟩
      · exact e
      · exact absurd ((Option.some.inj hy).symm.trans c) ne
    refine ⟨_, rfl, lw, _, rfl, .inl ⟨SqL.of hw, fun r hr => ?_⟩⟩
    refine q r _ (sm.trans (same_put hr _)) (sm.free hr) ?_
    show upd H' r (.tup (pre.map V.int ++ [.int x])) r = some (.tup ((patL on half).map V.int))
    rw [upd_same, eP, er, List.map_append]; rfl
theorem scLKnot : FnScope ["skin", "half", "row"] ["skin", "half"] (defScope s__law_knot) := ⟨rfl, rfl, rfl, by decide +kernel, rfl, by decide +kernel, by decide +kernel⟩
theorem notin_two (o : Option Int) (h : Int) : (if true = true then !inV (mV o) [V.non, V.int h] else inV (mV o) [V.non, V.int h]) = decide (o ≠ none ∧ o ≠ some h) := by
  cases o with
  | none => simp [inV, mV, eqV]
  | some i =>
    by_cases e : i = h
    · subst e; simp [inV, mV, eqV]
    · have e' : ¬ h = i := fun z => e z.symm
      simp [inV, mV, eqV, e, e']
theorem flat_mV (o : Option Int) : flatV (mV o) = true := by cases o <;> rfl
theorem ok_lknot (B : Bi mg) (FL : Fn P w K mg base "_law_left" ["skin", "half"] 1 (spIn gLeft)) (FR : Fn P w K mg base "_law_right" ["skin", "half"] 1 (spIn gRight)) (F : Fun K "_law_knot" "_law_knot" s__law_knot f fd) : FnOk P w K mg base CX0 2 f fd ["skin", "half"] (spInT gKnot) := by
  refine F.ok scLKnot (fun vs H Q E h => ?_) (fun cdv A outer s H vs Q E hr h => ?_)
  · obtain ⟨p, on, ms, half, rfl, _⟩ := h; rfl
  obtain ⟨p, on, ms, half, rfl, S, g, q⟩ := h
  obtain ⟨sk, po, pm, h1, h2, h3⟩ := id S
  refine ⟨_, (pss_cons (ps_set (i := 2) scLKnot.nd rfl (Or.inl rfl) (pe_lst (pa_cons (pv 1) pa_nil)))
   (pss_cons (ps_while PassesOwn.never (pt_cmpR op_notIn_seq (pe_callF FL hr (by decide) (pa_cons (pv 0) (pa_cons (pe_ix ix_list (pv 2) (pe_un un_neg pe_int) (fun _ _ => rfl)) pa_nil))) (pe_tup (pa_cons pe_non (pa_cons (pv 1) pa_nil))) rfl)
   (pss_one (ps_expr (pe_bm PySem.F.plainAttrs_list PySem.F.slot_list_append PySem.F.type_list_append mt_append (pv 2) (pa_cons (pe_callF FL hr (by decide) (pa_cons (pv 0) (pa_cons (pe_ix ix_list (pv 2) (pe_un un_neg pe_int) (fun _ _ => rfl)) pa_nil))) pa_nil)))))
   (pss_cons (ps_if (pt_cmpR op_isN (pe_callF FL hr (by decide) (pa_cons (pv 0) (pa_cons (pe_ix ix_list (pv 2) (pe_un un_neg pe_int) (fun _ _ => rfl)) pa_nil))) pe_non (nomark _))
   (pss_one (ps_while PassesOwn.never (pt_cmpR op_notN (pe_callF FR hr (by decide) (pa_cons (pv 0) (pa_cons (pe_ix ix_list (pv 2) pe_int (fun _ _ => rfl)) pa_nil))) pe_non (nomark _))
   (pss_one (ps_expr (pe_bm PySem.F.plainAttrs_list PySem.F.slot_list_insert PySem.F.type_list_insert mt_insert (pv 2) (pa_cons pe_int (pa_cons (pe_callF FR hr (by decide) (pa_cons (pv 0) (pa_cons (pe_ix ix_list (pv 2) pe_int (fun _ _ => rfl)) pa_nil))) pa_nil)))))))
   pss_nil)
   (pss_one (ps_ret (pe_callTy call_tuple_of rfl B.tuple_ bt_tuple (pa_cons (pv 2) pa_nil))))))), ?_⟩
  have hle := sk.le
  obtain ⟨LT, tr, _, rg, len⟩ := sk.lefT g
  refine ⟨_, rfl, (by show 1 ≤ sizeLine; decide), fun lw hlw => ?_⟩
  dsimp only [gName]
  refine seq_join (J := fun σ H' => ∃ (pre : List Int) (x : Int), σ = [some (.ref p), some (.int half), some (.ref lw)] ∧ Same H H' ∧ H' lw = some (.lst (pre.map V.int ++ [.int x])) ∧ LT = pre ++ [x] ∧ (lefM on ms x = none ∨ lefM on ms x = some half)) (fun {Nx} hN => ?_) ?_
  · refine ⟨fun m σ H' => ∃ (pre rest : List Int) (x : Int), m = rest.length ∧ σ = [some (.ref p), some (.int half), some (.ref lw)] ∧ Same H H' ∧ H' lw = some (.lst (pre.map V.int ++ [.int x])) ∧ LT = pre ++ rest ∧ Trail (lefM on ms) half x rest,
      ⟨_, [], _, half, rfl, rfl, same_put hlw _, upd_same, rfl, tr⟩, ?_⟩
    rintro m σ H' ⟨pre, rest, x, rfl, rfl, sm, hw, eP, t⟩
    have pl : pre.length + rest.length ≤ 400 := by rw [← List.length_append, ← eP]; omega
    obtain ⟨r0, er0⟩ := t.head
    have gx : InR on.length x := rg x (by rw [eP, er0]; simp)
    refine ⟨_, rfl, _, rfl, _, rfl, lw, _, _, _, rfl, rfl, SqL.of hw, at_last _ _, p, on, ms, x, rfl, S.same sm, gx, _, rfl, (by show 2 ≤ sizeLine; decide), fun tp htp => ⟨tp, _, rfl, .inr (SqT.of upd_same), flat_mV _, rfl, _, rfl, ?_⟩⟩
    have sm2 := sm.trans (same_put htp (.tup [.non, .int half]))
    have hw2 := up htp hw (o := .tup [.non, .int half])
    rw [show gLeft on ms x = mV (lefM on ms x) from rfl, notin_two]
    generalize upd H' tp (.tup [.non, .int half]) = H2 at sm2 hw2 ⊢
    refine ite2 (fun c => ?_) (fun c => ?_)
    · have c := of_decide_eq_true c
      refine ⟨_, fun _ _ z => z, ?_⟩
      refine ⟨_, rfl, .inl ⟨rfl, _, SqL.of hw2⟩, _, rfl, _, rfl, _, rfl, lw, _, _, _, rfl, rfl, SqL.of hw2, at_last _ _, p, on, ms, x, rfl, S.same sm2, gx, lw, _, _, rfl, rfl, hw2, ?_, ?_⟩
      · rw [List.length_append, List.length_map, sizeLine_eq]; simp; omega
      rcases trail_two t with ⟨e, h⟩ | ⟨y, r, e, hy, ne, t'⟩
      · rcases h with h | h
        · exact absurd h c.1
        · exact absurd h c.2
      · have ey : gLeft on ms x = .int y := by unfold gLeft; rw [hy]; rfl
        rw [ey]
        exact ⟨r.length, by rw [e]; simp, pre ++ [x], r, y, rfl, rfl, same_set sm2 hlw, by rw [upd_same, List.map_append]; rfl, by rw [eP, e]; simp, t'⟩
    · have c' : lefM on ms x = none ∨ lefM on ms x = some half := by
        have c := of_decide_eq_false (Bool.eq_false_iff.mpr c)
        by_cases z : lefM on ms x = none
        · exact .inl z
        · exact .inr (by by_cases z2 : lefM on ms x = some half; · exact z2
                         · exact absurd ⟨z, z2⟩ c)
      have er : rest = [x] := by
        rcases trail_two t with ⟨e, _⟩ | ⟨y, r, e, hy, ne, t'⟩
        · exact e
        · rw [hy] at c'
          rcases c' with z | z
          · cases z
          · exact absurd (Option.some.inj z) ne
      exact hN _ _ ⟨pre, x, rfl, sm2, hw2, by rw [eP, er], c'⟩
  rintro σ H' ⟨pre, x, rfl, sm, hw, eP, hx⟩
  have xl : x ∈ LT := by rw [eP]; simp
  have gx : InR on.length x := rg x xl
  have hw0 : H' lw = some (.lst (LT.map V.int)) := by rw [hw, eP, List.map_append]; rfl
  have out : ∀ (H2 : Hp) (row : List Int), Same H H2 → H2 lw = some (.lst (row.map V.int)) → knotL on ms half = row → tRet (tCB (fun xs H Q => ∃ p ys, xs = [.ref p] ∧ ((SqL K H p ys ∧ ∀ l, H l = none → Q (.ref l) (upd H l (.tup ys))) ∨ (SqT K H p ys ∧ Q (.ref p) H))) (tCons (tVar 2) tNil)) { nx := fun _ H' => Q .non H', rt := Q } [some (.ref p), some (.int half), some (.ref lw)] H2 := fun H2 row s2 w2 e2 => by
    refine ⟨_, rfl, lw, _, rfl, .inl ⟨SqL.of w2, fun r hr => ?_⟩⟩
    refine q r _ (s2.trans (same_put hr _)) (s2.free hr) ?_
    rw [upd_same, ← e2]; rfl
  refine ⟨_, rfl, _, rfl, _, rfl, lw, _, _, _, rfl, rfl, SqL.of hw, at_last _ _, p, on, ms, x, rfl, S.same sm, gx, rfl, _, rfl, ?_⟩
  rw [show gLeft on ms x = mV (lefM on ms x) from rfl]
  rcases hx with hx | hx
  rotate_left
  · rw [hx]
    refine itN rfl ?_
    have fk := sk.round g tr xl hx
    exact out H' LT sm hw0 (sk.knot_of g (by rw [fk]; exact tr) (by omega))
  · rw [hx]
    refine itP rfl ?_
    obtain ⟨RT, tR, _, rR, lR⟩ := sk.rigT g
    have op := sk.open' g tr xl hx tR
    obtain ⟨L', eL⟩ := tr.head
    refine ⟨fun m σ H2 => ∃ (y : Int) (r l : List Int) (k : Nat), m = l.length ∧ σ = [some (.ref p), some (.int half), some (.ref lw)] ∧ Same H H2 ∧ H2 lw = some (.lst ((y :: r).map V.int)) ∧ Lin (lefM on ms) (y :: r) ∧ (∀ z, (y :: r).getLast? = some z → lefM on ms z = none) ∧ (∀ z ∈ y :: r, InR on.length z) ∧
        Trail (rigM on ms) half y l ∧ (∀ z ∈ l, InR on.length z ∧ rigM on ms z ≠ some half) ∧ l.length ≤ k ∧ fstF (rigM on ms) half k y = fstK on ms half ∧ r.length + l.length ≤ 800,
      ⟨_, half, L', RT, on.length, rfl, rfl, sm, by rw [hw0, eL], by rw [← eL]; exact tr.lin, fun z hz => ?_, by rw [← eL]; exact rg, tR, fun z hz => ⟨rR z hz, op z hz⟩, lR, rfl, ?_⟩, ?_⟩
    · rw [← eL, eP] at hz
      have : x = z := by simpa using hz
      rw [← this]; exact hx
    · have : LT.length = L'.length + 1 := by rw [eL]; rfl
      omega
    rintro m σ H2 ⟨y, r, l, k, rfl, rfl, s2, w2, LI, la, rgy, tl, hl, hk, ek, sz⟩
    obtain ⟨l0, el0⟩ := tl.head
    have gy := rgy y (by simp)
    obtain ⟨k', rfl⟩ : ∃ k', k = k' + 1 := ⟨k - 1, by rw [el0] at hk; simp at hk; omega⟩
    refine ⟨_, rfl, _, rfl, lw, _, _, _, rfl, rfl, SqL.of w2, at0 _ _, p, on, ms, y, rfl, S.same s2, gy, rfl, _, rfl, ?_⟩
    rw [show gRight on ms y = mV (rigM on ms y) from rfl]
    cases er : rigM on ms y with
    | none =>
      refine itN rfl ?_
      rw [fstF_none er] at ek
      have T := sk.row rgy er LI la
      refine out H2 (y :: r) s2 w2 ?_
      have kt := (sk.knot g).1
      rw [← ek] at kt
      exact trail_det kt T
    | some z =>
      have zh : z ≠ half := fun e => (hl y (by rw [el0]; simp)).2 (by rw [er, e])
      refine itP rfl ⟨_, fun _ _ z => z, ?_⟩
      refine ⟨_, rfl, .inl ⟨rfl, _, SqL.of w2⟩, _, rfl, _, rfl, lw, _, _, _, rfl, rfl, SqL.of w2, at0 _ _, p, on, ms, y, rfl, S.same s2, gy, lw, _, _, _, rfl, rfl, w2, by decide, by omega, ?_, ?_⟩
      · rw [List.length_map, List.length_cons, sizeLine_eq]
        rw [el0] at sz; simp at sz; omega
      rcases trail_two tl with ⟨_, h⟩ | ⟨z', l2, e2, hz', ne, t2⟩
      · rw [er] at h
        rcases h with h | h
        · cases h
        · exact absurd (Option.some.inj h) zh
      rw [er] at hz'
      obtain rfl := Option.some.inj hz'
      have ez : gRight on ms y = .int z := by unfold gRight; rw [er]; rfl
      rw [ez]
      rw [fstF_step er zh] at ek
      refine ⟨l2.length, by rw [e2]; simp, z, y :: r, l2, k', rfl, rfl, same_set s2 hlw, by rw [upd_same]; rfl, ⟨sk.rigL gy er, LI⟩, fun u hu => la u (by rwa [List.getLast?_cons_cons] at hu), fun u hu => ?_, t2, fun u hu => hl u (by rw [e2]; simp [hu]), by rw [e2] at hk; simpa using hk, ek, ?_⟩
      · rcases List.mem_cons.mp hu with e | hu
        · rw [e]; exact sk.rigR gy er
        · exact rgy u hu
      · rw [e2] at sz; simp at sz ⊢; omega
theorem scLRim : FnScope ["skin", "half", "row", "there"] ["skin", "half"] (defScope s__law_rim) := ⟨rfl, rfl, rfl, by decide +kernel, rfl, by decide +kernel, by decide +kernel⟩
def spRimL : Sp := fun vs H Q _ => ∃ (p : Addr) (on : List Int) (ms : List (Option Int)) (half : Int), vs = [.ref p, .int half] ∧ SkAt H p on ms ∧ InR on.length half ∧ lkM ms half = none ∧
  ∀ r H', Same H H' → H r = none → H' r = some (.tup ((rimL on ms half).map V.int)) → Q (.ref r) H'
theorem ok_lrim (B : Bi mg) (FKn : Fn P w K mg base "_law_knot" ["skin", "half"] 2 (spInT gKnot)) (F : Fun K "_law_rim" "_law_rim" s__law_rim f fd) : FnOk P w K mg base CX0 3 f fd ["skin", "half"] spRimL := by
  refine F.ok scLRim (fun vs H Q E h => ?_) (fun cdv A outer s H vs Q E hr h => ?_)
  · obtain ⟨p, on, ms, half, rfl, _⟩ := h; rfl
  obtain ⟨p, on, ms, half, rfl, S, g, e0, q⟩ := h
  obtain ⟨sk, po, pm, h1, h2, h3⟩ := id S
  refine ⟨_, (pss_cons (ps_set (i := 2) scLRim.nd rfl (Or.inl rfl) (pe_lst (pa_cons (pv 1) pa_nil)))
   (pss_one (ps_while PassesOwn.never (pt_val pe_bl)
   (pss_cons (ps_set (i := 3) scLRim.nd rfl (Or.inl rfl) (pe_ix ix_tup (pe_callF FKn hr (by decide) (pa_cons (pv 0) (pa_cons (pe_ix ix_tup (pe_ix ix_tup (pv 0) pe_int (fun _ _ => rfl)) (pe_ix ix_list (pv 2) (pe_un un_neg pe_int) (fun _ _ => rfl)) (fun _ _ => rfl)) pa_nil))) pe_int (fun _ _ => rfl)))
   (pss_cons (ps_if (pt_cmpR op_eq (pv 3) (pv 1) (nomark _))
   (pss_one (ps_ret (pe_callTy call_tuple_of rfl B.tuple_ bt_tuple (pa_cons (pv 2) pa_nil))))
   pss_nil)
   (pss_one (ps_expr (pe_bm PySem.F.plainAttrs_list PySem.F.slot_list_append PySem.F.type_list_append mt_append (pv 2) (pa_cons (pv 3) pa_nil))))))))), ?_⟩
  have hle := sk.le
  obtain ⟨tr, _, rg, len⟩ := sk.rim g
  have fr := sk.rim_free g e0
  have stp : ∀ x, lkM ms x = none → rimF on ms x = some (fstK on ms (lk on x)) := fun x hx => by unfold rimF; rw [if_pos hx]
  refine ⟨_, rfl, (by show 1 ≤ sizeLine; decide), fun lw hlw => ?_⟩
  refine ⟨fun m σ H' => ∃ (pre rest : List Int) (x : Int) (v : Option V), m = rest.length ∧ σ = [some (.ref p), some (.int half), some (.ref lw), v] ∧ Same H H' ∧ H' lw = some (.lst (pre.map V.int ++ [.int x])) ∧ rimL on ms half = pre ++ rest ∧ Trail (rimF on ms) half x rest,
    ⟨_, [], _, half, _, rfl, rfl, same_put hlw _, upd_same, rfl, tr⟩, ?_⟩
  rintro m σ H' ⟨pre, rest, x, v, rfl, rfl, sm, hw, eP, t⟩
  have pl : pre.length + rest.length ≤ 400 := by rw [← List.length_append, ← eP]; omega
  obtain ⟨r0, er0⟩ := t.head
  obtain ⟨gx, fx⟩ := fr x (by rw [eP, er0]; simp)
  refine ⟨_, rfl, itP rfl ⟨_, fun _ _ z => z, ?_⟩⟩
  refine ⟨_, rfl, _, rfl, p, _, _, .ref po, rfl, rfl, SqT.of (sm _ _ h1), at0 _ _, _, rfl, _, rfl, lw, _, _, _, rfl, rfl, SqL.of hw, at_last _ _, po, _, _, _, rfl, rfl, SqT.of (sm _ _ h2), at_lk gx.1 gx.2, p, on, ms, _, rfl, S.same sm, sk.lkR gx, fun tk H2 s2 f2 e2 => ?_⟩
  obtain ⟨kr, ek⟩ := (sk.knot (sk.lkR gx)).1.head
  have e2 : H2 tk = some (.tup (.int (fstK on ms (lk on x)) :: kr.map V.int)) := by rw [e2]; unfold gKnot; rw [ek]; rfl
  have sm2 := sm.trans s2
  have hw2 := s2 _ _ hw
  refine ⟨tk, _, _, _, rfl, rfl, SqT.of e2, at0 _ _, _, rfl, _, rfl, rfl, _, rfl, ite2 (fun c => ?_) (fun c => ?_)⟩
  · have c : fstK on ms (lk on x) = half := by simpa using c
    have er : rest = [x] := by
      rcases trail_two t with ⟨e, _⟩ | ⟨y, r, e, hy, ne, t'⟩
      · exact e
      · rw [stp x fx] at hy; exact absurd ((Option.some.inj hy).symm.trans c) ne
    refine ⟨_, rfl, lw, _, rfl, .inl ⟨SqL.of hw2, fun r hr => ?_⟩⟩
    refine q r _ (sm2.trans (same_put hr _)) (sm2.free hr) ?_
    rw [upd_same, eP, er, List.map_append]; rfl
  · have c : fstK on ms (lk on x) ≠ half := by simpa using c
    refine ⟨_, rfl, .inl ⟨rfl, _, SqL.of hw2⟩, _, rfl, lw, _, _, rfl, rfl, hw2, ?_, ?_⟩
    · rw [List.length_append, List.length_map, sizeLine_eq]; simp; omega
    rcases trail_two t with ⟨e, h⟩ | ⟨y, r, e, hy, ne, t'⟩
    · rw [stp x fx] at h
      rcases h with h | h
      · cases h
      · exact absurd (Option.some.inj h) c
    · rw [stp x fx] at hy
      obtain rfl := Option.some.inj hy
      exact ⟨r.length, by rw [e]; simp, pre ++ [x], r, _, _, rfl, rfl, same_set sm2 hlw, by rw [upd_same, List.map_append]; rfl, by rw [eP, e]; simp, t'⟩
end
end Hs
set_option Elab.async false
set_option linter.all false
set_option maxRecDepth 100000
set_option maxHeartbeats 1000000
namespace L2
open PySem PySem.Spec PyProof.Rows
section
variable {X : Cx}
end
section
variable {X : Cx} {pins : List (Addr × Obj)} {σ : St} {H : Hp} {s : Shared} {a b : Addr} {kvs more : List (Key × V)} {A : Around} {E : Value → Shared → Prop}
theorem putK_len (kvs : List (Key × V)) (k : Key) (v : V) : (putK kvs k v).length ≤ kvs.length + 1 := by
  unfold putK; split
  · simp
  · simp
theorem mergeK_len : ∀ (more kvs : List (Key × V)), (mergeK kvs more).length ≤ kvs.length + more.length
  | [], kvs => by simp [mergeK]
  | p :: r, kvs => by
    have h1 := mergeK_len r (putK kvs p.1 p.2)
    have h2 := putK_len kvs p.1 p.2
    have e : mergeK kvs (p :: r) = mergeK (putK kvs p.1 p.2) r := rfl
    rw [e, List.length_cons]; omega
theorem d_update {Q : Value → Shared → Prop} (I : Inv X pins σ H s) (ea : H a = some (.dK kvs)) (eb : H b = some (.dK more)) (ne : a ≠ b) (hz : kvs.length + more.length ≤ sizeLine) (h : ∀ s', Inv X pins σ (upd H a (.dK (mergeK kvs more))) s' → Q .none s') :
    wpAny (model X.prog X.w) A (call (.builtin "dict.update") [.ref a, .ref b]) Q E s := by
  obtain ⟨z, hd, vs, rel, dd⟩ := dk_of I.hok ea
  obtain ⟨z2, hd2, vs2, rel2, dd2⟩ := dk_of I.hok eb
  refine call_meetsIn PySem.F.slot_dict_update dd.typeIs PySem.F.entry_dict_update (PySem.F.args_dict_update_2 _ _) (meets_dict_update (mixKind X.prog X.w) a b ne hd2) ⟨vs, vs2, dd, dd2, by rw [← rel.length, ← rel2.length]; exact hz, fun h' dd' _ hs => h _ ?_⟩
  have he : ∃ q, h'.get? a = some q := let ⟨q, _, _, hq, _⟩ := dd'; ⟨q, hq⟩
  exact d_write (t' := s.toks) I (by rw [ea]; exact True.intro) hs he (dk_new (Nat.le_trans (mergeK_len more kvs) hz) hd (KV.merge rel2 rel) dd')
end
def tDUpd (td ty : TE) : TE := fun σ H Q => td σ H fun x H1 => ∃ a, x = .ref a ∧ IsD H1 a ∧ ty σ H1 fun y H2 => ∃ b kvs more, y = .ref b ∧ H2 a = some (.dK kvs) ∧ H2 b = some (.dK more) ∧ a ≠ b ∧ kvs.length + more.length ≤ sizeLine ∧ Q .non (upd H2 a (.dK (mergeK kvs more)))
section
variable {X : Cx} {o e f : Expr} {apos cpos : Pos} {td ty tx : TE}
theorem pe_dupd (ho : PE X o td) (he : PE X e ty) (m : M1 X o "update" apos e cpos) : PE X (.Call (.Attribute o "update" apos) [e] [] cpos) (tDUpd td ty) := by
  intro pins s σ H Q I h
  refine wpAny_Call_method m.base m.few m.line PySem.F.plainAttrs_dict PySem.F.slot_dict_update PySem.F.type_dict_update (thn (ho pins s σ H _ I h) fun u s1 ⟨x, H1, I1, rx, a, ex, d, q1⟩ => ?_)
  subst ex
  obtain rfl : u = Value.ref a := rx
  obtain ⟨t1, t2, _⟩ := isD_at I1 d
  refine ⟨t1, t2, ?_⟩
  rw [m.trees]
  refine Calls.callWith_builtin rfl (Calls.evalArgs_plain (Calls.spliced_cons (thn (he pins s1 σ H1 _ I1 q1) fun iv s2 ⟨y, H2, I2, ry, b, kvs, more, ey, ea, eb, ne, hz, q2⟩ => Calls.spliced_nil ?_)))
  subst ey
  obtain rfl : iv = Value.ref b := ry
  exact d_update I2 ea eb ne hz fun s3 I3 => ⟨.non, _, I3, rfl, q2⟩
end
end L2
set_option Elab.async false
set_option linter.all false
set_option maxRecDepth 100000
set_option maxHeartbeats 1000000
namespace Hs
open PySem PySem.Spec PySem.Calls PyProof.Rows L2
def CodeOf (H : Hp) (c' : Addr) (lq : Str) : Prop := ∃ oc vs t, H c' = some (.frz oc (.own 0)) ∧ oc.data = .fields vs ∧ vs[1]? = some (.str lq t)
def LamTab (pos : Pos) (lq : Str) (H : Hp) (P : Addr) : Prop :=
  ∃ ps, H P = some (.tbl ps) ∧ TriplesOk ps.toList ∧ (codeAmong pos ps.toList = none ∨ ∃ c', codeAmong pos ps.toList = some (.ref c') ∧ CodeOf H c' lq)
section
variable {X : Cx}
end
end Hs
set_option Elab.async false
set_option linter.all false
set_option maxRecDepth 100000
set_option maxHeartbeats 1000000
namespace Hs
open PySem PySem.Spec PySem.Calls PyProof.Rows L2
section
variable {X : Cx}
end
abbrev SpS := Shared → List Env → List V → Hp → VK → Prop
section
variable {X : Cx} {x : Str} {ps : List Str} {k j : Nat} {sp : SpS} {e : Expr} {es : List Expr} {t : TA} {p pos : Pos} {spH : L2.St → List V → Hp → VK → Prop}
end
end Hs
set_option Elab.async false
set_option linter.all false
set_option maxRecDepth 100000
set_option maxHeartbeats 1000000
namespace Hs
open PySem PySem.Spec PySem.Calls PyProof.Rows L2
end Hs
set_option Elab.async false
set_option linter.all false
set_option maxRecDepth 100000
set_option maxHeartbeats 1000000
namespace Hs
open PySem PySem.Spec PySem.Calls PyProof.Rows L2
structure FunC (K : PySem.W.Frag) (x qual : Str) (st : Stmt) (f : Addr) (fd : FuncData) (c : Addr) : Prop where
  ex : ∃ (oc : Value) (od : Option Addr) (kV doc pm : Value) (an : Option Addr) (ct : Value) (osl : Array (Option Value)),
    fd = PySem.W.fnOf x qual (defArgs st) (defBody st) (defScope st) .none kV doc pm an (.ref c) ct ∧ K.lookup f = some ⟨oc, od, .func fd, osl⟩ ∧ PySem.W.codeIn K (.ref c) qual = true
  kp : PySem.W.keepIn K (.ref f) = true
theorem FunC.ok {P : Program} {w : World} {K : PySem.W.Frag} {mg : Str → Option Value} {base : Heap} {x qual : Str} {st : Stmt} {f c : Addr} {fd : FuncData} {N ps : List Str} {k : Nat} {sp : Sp} (F : FunC K x qual st f fd c) (S : FnScope N ps (defScope st)) (len : ∀ vs H Q E, sp vs H Q E → vs.length = ps.length)
    (hbody : ∀ (A : Around) (outer : List Env) (s : Shared) (H : Hp) (vs : List V) (Q : VK) (E : XK), Room k (A.deeper (envOfC qual (defScope st) s.heap.objs.size f (.ref c))) → sp vs H Q E →
      ∃ t, PSs (cxOf CX0 P w K mg base N qual (defScope st) f (.ref c) A outer s H E).nox (defBody st) t ∧ t { nx := fun _ H' => Q .non H', rt := Q } (start N vs) H) : FnOk P w K mg base CX0 (k + 1) f fd ps sp := by
  obtain ⟨oc, od, kV, doc, pm, an, ct, osl, rfl, lk, hcd⟩ := F.ex
  refine L2.fn_of lk hcd S len fun A outer s H vs Q E hr hsp => ?_
  obtain ⟨t, h, q⟩ := hbody A outer s H vs Q E hr hsp
  exact ⟨t, h.nox, q⟩
end Hs
set_option Elab.async false
set_option linter.all false
set_option maxRecDepth 100000
set_option maxHeartbeats 1000000
namespace L2
open PySem PySem.Spec PyProof.Rows
section
variable {X : Cx}
def rSortA (K : PySem.W.Frag) : List V → Hp → VK → Prop := fun vs H Q => ∃ (a : Addr) (ns : List Int), vs = [V.ref a] ∧ SqL K H a (ns.map V.int) ∧ ∀ (ns' : List Int) (l : Addr), ns'.Perm ns → ns'.Pairwise (· ≤ ·) → H l = none → Q (.ref l) (upd H l (.lst (ns'.map V.int)))
theorem cr_sortA : CallR X (.builtin "sorted") (rSortA X.K) := by
  intro pins s σ H vs us Q I r h
  obtain ⟨a, ns, rfl, hs, q⟩ := h
  obtain ⟨its, rv, hl, hz⟩ := I.list hs
  rw [Vals.ref1 r]
  have hi := rv.ints
  have hil : its.length = ns.length := hi.length
  refine PyProof.Rows.sorted_intsAny hl.isList hi (by rw [← rv.length]; exact hz) fun out ns' h1 h2 h3 => ?_
  obtain ⟨ep, he'⟩ := PyProof.Rows.sortedAll_at s.heap its out
  have hlen : (ns'.map V.int).length ≤ sizeLine := by rw [List.length_map, h2.length_eq]; rw [List.length_map] at hz; exact hz
  exact ⟨.ref _, upd H (s.heap.objs.size + 1) (.lst (ns'.map V.int)), I.laid (t' := s.toks) (fun _ _ => PyProof.Rows.sortedAll_old) (Nat.le_succ _) ⟨hlen, out.toList, ep, vals_of_ints h1, he'⟩, rfl, q ns' _ h2 h3 (I.hok.fresh (Nat.le_succ _))⟩
end
end L2
namespace Hs
open PySem PySem.Spec PyProof.Rows L2
def Loose (H H' : Hp) : Prop := ∀ b o, H b = some o → (∀ ps, o ≠ .tbl ps) → H' b = some o
theorem Loose.refl (H : Hp) : Loose H H := fun _ _ h _ => h
theorem Loose.trans {H H1 H2 : Hp} (a : Loose H H1) (b : Loose H1 H2) : Loose H H2 := fun c o h n => b c o (a c o h n) n
theorem _root_.L2.Same.loose {H H' : Hp} (s : Same H H') : Loose H H' := fun c o h _ => s c o h
theorem Loose.free {H H' : Hp} (l : Loose H H') {b : Addr} (h : H' b = none) (n : ∀ ps, H b ≠ some (.tbl ps)) : H b = none := by
  cases q : H b with
  | none => rfl
  | some o =>
    have := l b o q fun ps z => n ps (by rw [q, z])
    rw [h] at this; cases this
abbrev TabL := List (Addr × Pos × Str)
def Tabs (T : TabL) (H : Hp) : Prop := ∀ t ∈ T, LamTab t.2.1 t.2.2 H t.1
theorem Tabs.tbl {T : TabL} {H : Hp} (h : Tabs T H) {t : Addr × Pos × Str} (m : t ∈ T) : ∃ ps, H t.1 = some (.tbl ps) := let ⟨ps, e, _⟩ := h t m; ⟨ps, e⟩
theorem LamTab.keeps {pos : Pos} {lq : Str} {H H' : Hp} {P : Addr} (h : LamTab pos lq H P) (e : H' P = H P) (l : Loose H H') : LamTab pos lq H' P := by
  obtain ⟨ps, h1, h2, h3⟩ := h
  refine ⟨ps, e.trans h1, h2, ?_⟩
  rcases h3 with h3 | ⟨c, h3, oc, vs, t, k1, k2, k3⟩
  · exact .inl h3
  · exact .inr ⟨c, h3, oc, vs, t, l c _ k1 (fun _ z => nomatch z), k2, k3⟩
theorem Tabs.same {T : TabL} {H H' : Hp} (h : Tabs T H) (s : Same H H') : Tabs T H' := fun t m => by
  obtain ⟨ps, e⟩ := h.tbl m
  exact (h t m).keeps ((s _ _ e).trans e.symm) s.loose
structure Rows (H : Hp) (r : Addr) (rows : List (List Int)) : Prop where
  ex : ∃ rs : List Addr, H r = some (.tup (rs.map V.ref)) ∧ rs.length = rows.length ∧ ∀ (j : Nat) (a : Addr) (row : List Int), rs[j]? = some a → rows[j]? = some row → H a = some (.tup (row.map V.int))
theorem Rows.loose {H H' : Hp} {r : Addr} {rows : List (List Int)} (h : Rows H r rows) (l : Loose H H') : Rows H' r rows := by
  obtain ⟨rs, h1, h2, h3⟩ := h
  exact ⟨rs, l _ _ h1 (fun _ z => nomatch z), h2, fun j a row x y => l _ _ (h3 j a row x y) (fun _ z => nomatch z)⟩
theorem Rows.same {H H' : Hp} {r : Addr} {rows : List (List Int)} (h : Rows H r rows) (s : Same H H') : Rows H' r rows := h.loose s.loose
def rowsD (rows : List (List Int)) : PyData := .tuple (rows.map fun row => .tuple (row.map PyData.int))
theorem dpA_row {K : PySem.W.Frag} {H : Hp} : ∀ xs : List Int, DpAll K H (xs.map V.int) (xs.map PyData.int)
  | [] => .nil
  | x :: r => .cons (.int x) (dpA_row r)
theorem Rows.dp {K : PySem.W.Frag} {H : Hp} {r : Addr} {rows : List (List Int)} (h : Rows H r rows) : Dp K H (.ref r) (rowsD rows) := by
  obtain ⟨rs, h1, h2, h3⟩ := h
  refine .tup (SqT.of h1) (dpAll_of rs _ (by rw [List.length_map, h2]) fun j a d e1 e2 => ?_)
  rw [List.getElem?_map] at e2
  obtain ⟨row, e3, rfl⟩ := Option.map_eq_some_iff.mp e2
  exact .tup (SqT.of (h3 j a row e1 e3)) (dpA_row row)
def onceF (g : Int → List Int) : List Int → List Int → List (List Int)
  | _, [] => []
  | met, h :: r => if h ∈ met then onceF g met r else g h :: onceF g (met ++ g h) r
theorem onceF_mem {g : Int → List Int} : ∀ (hs met : List Int), ∀ row ∈ onceF g met hs, ∃ h ∈ hs, row = g h
  | [], _, row, h => by cases h
  | x :: r, met, row, h => by
    unfold onceF at h
    split at h
    · obtain ⟨y, hy, e⟩ := onceF_mem r met row h
      exact ⟨y, List.mem_cons_of_mem _ hy, e⟩
    · rcases List.mem_cons.mp h with e | h
      · exact ⟨x, by simp, e⟩
      · obtain ⟨y, hy, e⟩ := onceF_mem r _ row h
        exact ⟨y, List.mem_cons_of_mem _ hy, e⟩
theorem onceF_len {g : Int → List Int} : ∀ (hs met : List Int), (onceF g met hs).length ≤ hs.length
  | [], _ => by simp [onceF]
  | x :: r, met => by
    unfold onceF
    split
    · have := onceF_len (g := g) r met; simp; omega
    · have := onceF_len (g := g) r (met ++ g x); simp; omega
theorem onceF_congr {g g' : Int → List Int} : ∀ (hs met met' : List Int), (∀ h ∈ hs, g h = g' h) → (∀ x, x ∈ met ↔ x ∈ met') → onceF g met hs = onceF g' met' hs
  | [], _, _, _, _ => rfl
  | x :: r, met, met', e, m => by
    unfold onceF
    by_cases z : x ∈ met
    · rw [if_pos z, if_pos ((m x).mp z)]
      exact onceF_congr r _ _ (fun h hh => e h (List.mem_cons_of_mem _ hh)) m
    · rw [if_neg z, if_neg (fun y => z ((m x).mpr y)), e x (by simp)]
      rw [onceF_congr r (met ++ g' x) (met' ++ g' x) (fun h hh => e h (List.mem_cons_of_mem _ hh)) (fun y => by rw [List.mem_append, List.mem_append, m y])]
def rngL (n : Nat) : List Int := (List.range n).map fun i : Nat => (i : Int)
theorem rngL_mem {n : Nat} {x : Int} : x ∈ rngL n ↔ InR n x := by
  unfold rngL InR
  constructor
  · intro h
    obtain ⟨i, hi, rfl⟩ := List.mem_map.mp h
    have := List.mem_range.mp hi
    omega
  · rintro ⟨h0, h1⟩
    exact List.mem_map.mpr ⟨x.toNat, List.mem_range.mpr (by omega), by omega⟩
theorem rngL_len (n : Nat) : (rngL n).length = n := by unfold rngL; simp
theorem rngL_get {n i : Nat} (h : i < n) : (rngL n)[i]? = some (i : Int) := by
  unfold rngL
  rw [List.getElem?_map, List.getElem?_range h]; rfl
end Hs
set_option Elab.async false
set_option linter.all false
set_option maxRecDepth 100000
set_option maxHeartbeats 1000000
namespace Hs
open PySem PySem.Spec PySem.Calls PyProof.Rows L2
end Hs
set_option Elab.async false
set_option linter.all false
set_option maxRecDepth 100000
set_option maxHeartbeats 1000000
namespace L2
open PySem PySem.Spec PyProof.Rows
theorem lc_enumT {K : PySem.W.Frag} {a : Addr} {xs : List V} {g : TG} {tt : TT} {te : TE} {vs : List Nat} {σ : St} {H1 : Hp} {D : Addr} {Qd : Hp → Prop} (Pv : Nat → Hp → Prop) (h0 : Pv 0 (upd H1 D (.lst []))) (hl : ∀ i H, i ≤ xs.length → Pv i H → SqT K H a xs)
    (hs : ∀ i x T H, xs[i]? = some x → Pv i H → H T = none → g (.ref T) (wipe σ vs) (upd H T (.tup [.int (i : Nat), x])) fun σ2 H2 => wipe σ2 vs = wipe σ vs ∧ tt σ2 H2 fun b H3 =>
      if b = true then te σ2 H3 fun y H4 => ∃ acc, H4 D = some (.lst acc) ∧ acc.length < sizeLine ∧ Pv (i + 1) (upd H4 D (.lst (acc ++ [y]))) else Pv (i + 1) H3) (hd : ∀ H, Pv xs.length H → Qd H) :
    ∃ W : Nat → Nat → Hp → Prop, (∃ m, W 0 m (upd H1 D (.lst []))) ∧ ∀ i m H, W i m H →
      ((IteT K a).stop i H ∧ Qd H) ∨ ((IteT K a).go i H ∧ ∃ Nx : Hp → Prop, (∀ H', Nx H' → ∃ m', m' < m ∧ W (i + 1) m' H') ∧ ∀ x H', (IteT K a).yld i H x H' → g x (wipe σ vs) H' fun σ2 H2 => wipe σ2 vs = wipe σ vs ∧ tt σ2 H2 fun b H3 =>
        if b = true then te σ2 H3 fun y H4 => ∃ acc, H4 D = some (.lst acc) ∧ acc.length < sizeLine ∧ Nx (upd H4 D (.lst (acc ++ [y]))) else Nx H3) := by
  refine ⟨fun i m H => m = xs.length - i ∧ i ≤ xs.length ∧ Pv i H, ⟨xs.length, by simp, Nat.zero_le _, h0⟩, ?_⟩
  rintro i m H ⟨rfl, hi, p⟩
  have q := hl i H hi p
  by_cases hlt : i < xs.length
  · refine .inr ⟨⟨xs, xs[i], q, by simp [hlt]⟩, Pv (i + 1), fun H' p' => ⟨xs.length - (i + 1), by omega, rfl, hlt, p'⟩, fun v H' y => ?_⟩
    obtain ⟨T, x, rfl, hT, rfl, y⟩ := y
    exact hs i x T _ (y xs q) p hT
  · have e : i = xs.length := by omega
    subst e
    exact .inl ⟨⟨xs, q, Nat.le_refl _⟩, hd H p⟩
end L2
namespace Hs
open PySem PySem.Spec PyProof.Rows L2
def metD (ml : List Int) : List (Key × V) := ml.map fun z => (.inl z, .bl true)
theorem metD_val (z : Int) : ∀ ml : List Int, (valV (metD ml) (.inl z)).isSome = decide (z ∈ ml)
  | [] => by simp [metD, valV]
  | y :: r => by
    by_cases e : y = z
    · subst e
      show (valV ((Sum.inl y, V.bl true) :: metD r) (.inl y)).isSome = _
      rw [valV_pos rfl]; simp
    · have e' : ¬ (Sum.inl y : Key) = .inl z := fun q => e (Sum.inl.inj q)
      show (valV ((Sum.inl y, V.bl true) :: metD r) (.inl z)).isSome = _
      rw [valV_neg e', metD_val z r]
      have : ¬ z = y := fun q => e q.symm
      simp [this]
theorem metD_put {z : Int} {ml : List Int} : putK (metD ml) (.inl z) (.bl true) = metD (if z ∈ ml then ml else ml ++ [z]) := by
  unfold putK
  rw [valV_any, metD_val]
  by_cases m : z ∈ ml
  · rw [decide_eq_true m, if_pos rfl, if_pos m]
    unfold metD
    rw [List.map_map]
    refine List.map_congr_left fun y _ => ?_
    show (if (Sum.inl y : Key) = .inl z then _ else _) = _
    split <;> rfl
  · rw [decide_eq_false m, if_neg (by decide), if_neg m]
    unfold metD
    rw [List.map_append]; rfl
def gSeam (ms : List (Option Int)) (h : Int) : List Int := match lkM ms h with
  | none => [h]
  | some m => if h < m then [h, m] else [m, h]
theorem rngL_drop {n i : Nat} (h : i < n) : (rngL n).drop i = (i : Int) :: (rngL n).drop (i + 1) := by
  have hl : i < (rngL n).length := by rw [rngL_len]; exact h
  rw [List.drop_eq_getElem_cons hl]
  congr 1
  have := rngL_get h
  rw [List.getElem?_eq_getElem hl] at this
  exact Option.some.inj this
theorem gSeam_rng {on : List Int} {ms : List (Option Int)} (S : SkinOk on ms) {h : Int} (g : InR on.length h) : (∀ z ∈ gSeam ms h, InR on.length z) ∧ (gSeam ms h).length ≤ 2 := by
  unfold gSeam
  cases e : lkM ms h with
  | none => exact ⟨fun z hz => by rw [List.mem_singleton.mp hz]; exact g, by simp⟩
  | some m =>
    have gm := (S.mate g e).1
    simp only
    split
    · exact ⟨fun z hz => by
        have : z = h ∨ z = m := by simpa using hz
        rcases this with q | q <;> rw [q] <;> assumption, by simp⟩
    · exact ⟨fun z hz => by
        have : z = m ∨ z = h := by simpa using hz
        rcases this with q | q <;> rw [q] <;> assumption, by simp⟩
theorem once_skip {g : Int → List Int} {h : Int} {met r : List Int} (m : h ∈ met) : onceF g met (h :: r) = onceF g met r := by
  show (if h ∈ met then _ else _) = _
  rw [if_pos m]
theorem once_take {g : Int → List Int} {h : Int} {met r : List Int} (m : h ∉ met) : onceF g met (h :: r) = g h :: onceF g (met ++ g h) r := by
  show (if h ∈ met then _ else _) = _
  rw [if_neg m]
end Hs
set_option linter.all false
set_option maxRecDepth 100000
namespace Hs
theorem Lin.at {f : Int → Option Int} : ∀ {l : List Int}, Lin f l → ∀ (i : Nat) (x y : Int), l[i]? = some x → l[i + 1]? = some y → f x = some y
  | [], _, i, x, y, h, _ => by simp at h
  | [a], _, i, x, y, _, h => by simp at h
  | a :: b :: r, L, 0, x, y, h1, h2 => by cases h1; cases h2; exact L.1
  | a :: b :: r, L, i + 1, x, y, h1, h2 => Lin.at L.2 i x y h1 h2
theorem lin_of {f : Int → Option Int} : ∀ {l : List Int}, (∀ (i : Nat) (x y : Int), l[i]? = some x → l[i + 1]? = some y → f x = some y) → Lin f l
  | [], _ => trivial
  | [_], _ => trivial
  | a :: b :: r, h => ⟨h 0 a b rfl rfl, lin_of fun i x y h1 h2 => h (i + 1) x y h1 h2⟩
def rot (l : List Int) (k : Nat) : List Int := l.drop k ++ l.take k
theorem rot_len (l : List Int) {k : Nat} (h : k ≤ l.length) : (rot l k).length = l.length := by unfold rot; simp; omega
theorem rot_mem {l : List Int} {k : Nat} {z : Int} : z ∈ rot l k ↔ z ∈ l := by
  unfold rot
  have : l.take k ++ l.drop k = l := List.take_append_drop k l
  constructor
  · intro h
    rw [← this]
    rcases List.mem_append.mp h with q | q
    · exact List.mem_append_right _ q
    · exact List.mem_append_left _ q
  · intro h
    rw [← this] at h
    rcases List.mem_append.mp h with q | q
    · exact List.mem_append_right _ q
    · exact List.mem_append_left _ q
theorem rot_at {l : List Int} {k i : Nat} (h : k < l.length) : (rot l k)[i]? = if i < l.length - k then l[k + i]? else if i < l.length then l[i - (l.length - k)]? else none := by
  unfold rot
  by_cases c : i < l.length - k
  · rw [if_pos c, List.getElem?_append_left (by simp; omega), List.getElem?_drop]
  · rw [if_neg c, List.getElem?_append_right (by simp; omega)]
    simp only [List.length_drop]
    by_cases d : i < l.length
    · rw [if_pos d, List.getElem?_take, if_pos (by omega)]
    · rw [if_neg d, List.getElem?_take, if_neg (by omega)]
theorem last_at {l : List Int} : l.getLast? = l[l.length - 1]? := List.getLast?_eq_getElem?
theorem rot_trail {f : Int → Option Int} {h : Int} {l : List Int} (t : Trail f h h l) (nd : l.Nodup) (cl : ∀ z, l.getLast? = some z → f z = some h) {k : Nat} {x : Int} (hx : l[k]? = some x) :
    Trail f x x (rot l k) ∧ ∀ z, (rot l k).getLast? = some z → f z = some x := by
  have L := t.lin
  obtain ⟨r0, er0⟩ := t.head
  have h0 : l[0]? = some h := by rw [er0]; rfl
  obtain ⟨hk, ek⟩ := List.getElem?_eq_some_iff.mp hx
  have lastC : ∀ z, (rot l k).getLast? = some z → f z = some x := fun z hz => by
    rw [last_at, rot_len l (by omega), rot_at hk] at hz
    by_cases k0 : k = 0
    · subst k0
      rw [if_pos (by omega)] at hz
      rw [h0] at hx; cases hx
      exact cl z (by rw [last_at, ← hz]; congr 1; omega)
    · rw [if_neg (by omega), if_pos (by omega)] at hz
      refine L.at (k - 1) z x ?_ (by rw [← hx]; congr 1; omega)
      rw [← hz]; congr 1; omega
  have LR : Lin f (rot l k) := lin_of fun i a b ha hb => by
    rw [rot_at hk] at ha hb
    by_cases c : i + 1 < l.length - k
    · rw [if_pos (by omega)] at ha
      rw [if_pos c] at hb
      exact L.at (k + i) a b ha hb
    · rw [if_neg c] at hb
      by_cases c2 : i < l.length - k
      · rw [if_pos c2] at ha
        have e : i + 1 - (l.length - k) = 0 := by omega
        split at hb
        · rw [e, h0] at hb; cases hb
          exact cl a (by rw [last_at, ← ha]; congr 1; omega)
        · cases hb
      · rw [if_neg c2] at ha
        split at hb
        · rw [if_pos (by omega)] at ha
          refine L.at (i - (l.length - k)) a b ha ?_
          rw [← hb]; congr 1; omega
        · cases hb
  have e : rot l k = x :: (l.drop (k + 1) ++ l.take k) := by
    unfold rot
    rw [List.drop_eq_getElem_cons hk, ek]; rfl
  have nx : ∀ z ∈ l.drop (k + 1) ++ l.take k, z ≠ x := fun z hz q => by
    subst q
    rcases List.mem_append.mp hz with q | q
    · obtain ⟨j, hj⟩ := List.getElem?_of_mem q
      rw [List.getElem?_drop] at hj
      have := nd_at nd hx hj
      omega
    · obtain ⟨j, hj⟩ := List.getElem?_of_mem q
      rw [List.getElem?_take] at hj
      split at hj
      · have := nd_at nd hx hj
        omega
      · cases hj
  refine ⟨?_, lastC⟩
  have lc := lastC
  rw [e] at LR lc ⊢
  exact trail_of_lin LR nx fun z hz => .inr (lc z hz)
section
variable {on : List Int} {ms : List (Option Int)} (S : SkinOk on ms)
include S
theorem SkinOk.patC {h : Int} (g : InR on.length h) : ∀ z, (patL on h).getLast? = some z → onwF on z = some h := fun z hz => by
  obtain ⟨z', e', q⟩ := (S.pat g).1.fin
  rw [hz] at e'; cases e'
  rcases q with q | q
  · cases q
  · exact q
theorem SkinOk.patR {h x : Int} {k : Nat} (g : InR on.length h) (hx : (patL on h)[k]? = some x) : patL on x = rot (patL on h) k := by
  obtain ⟨t, nd, rg, len⟩ := S.pat g
  have hk := (List.getElem?_eq_some_iff.mp hx).1
  exact trl_of (rot_trail t nd (S.patC g) hx).1 _ (by rw [rot_len _ (by omega)]; omega)
theorem SkinOk.self_pat {h : Int} (g : InR on.length h) : h ∈ patL on h := by
  obtain ⟨r, e⟩ := (S.pat g).1.head
  rw [e]; simp
end
structure Parted (A : List Int) (g : Int → List Int) : Prop where
  cls : ∀ h ∈ A, h ∈ g h ∧ (g h).Nodup ∧ ∀ z ∈ g h, z ∈ A ∧ ∀ y, y ∈ g z ↔ y ∈ g h
theorem once_flat {g : Int → List Int} {A : List Int} (P : Parted A g) : ∀ (hs met : List Int), (∀ h ∈ hs, h ∈ A) → (∀ z ∈ A, z ∈ met → ∀ y ∈ g z, y ∈ met) →
    (onceF g met hs).flatten.Nodup ∧ ∀ z, z ∈ (onceF g met hs).flatten ↔ z ∉ met ∧ ∃ h ∈ hs, z ∈ g h
  | [], met, _, _ => ⟨by simp [onceF], fun z => by simp [onceF]⟩
  | h :: r, met, ha, hm => by
    by_cases m : h ∈ met
    · rw [once_skip m]
      obtain ⟨n, q⟩ := once_flat P r met (fun x hx => ha x (List.mem_cons_of_mem _ hx)) hm
      refine ⟨n, fun z => ?_⟩
      rw [q z]
      constructor
      · rintro ⟨a, x, hx, b⟩
        exact ⟨a, x, List.mem_cons_of_mem _ hx, b⟩
      · rintro ⟨a, x, hx, b⟩
        rcases List.mem_cons.mp hx with rfl | hx
        · exact absurd (hm x (ha x (by simp)) m z b) a
        · exact ⟨a, x, hx, b⟩
    · rw [once_take m]
      obtain ⟨hh, nd, cl⟩ := P.cls h (ha h (by simp))
      have hm2 : ∀ z ∈ A, z ∈ met ++ g h → ∀ y ∈ g z, y ∈ met ++ g h := fun z hz hzm y hy => by
        rcases List.mem_append.mp hzm with q | q
        · exact List.mem_append_left _ (hm z hz q y hy)
        · exact List.mem_append_right _ (((cl z q).2 y).mp hy)
      obtain ⟨n, q⟩ := once_flat P r (met ++ g h) (fun x hx => ha x (List.mem_cons_of_mem _ hx)) hm2
      have out : ∀ z ∈ g h, z ∉ met := fun z hz zm => m (hm z (cl z hz).1 zm h (((cl z hz).2 h).mpr hh))
      rw [List.flatten_cons]
      refine ⟨?_, fun z => ?_⟩
      · rw [List.nodup_append]
        refine ⟨nd, n, fun a hag b hb e => ?_⟩
        subst e
        exact ((q a).mp hb).1 (List.mem_append_right _ hag)
      · rw [List.mem_append, q z]
        constructor
        · rintro (a | ⟨a, x, hx, b⟩)
          · exact ⟨out z a, h, by simp, a⟩
          · exact ⟨fun zm => a (List.mem_append_left _ zm), x, List.mem_cons_of_mem _ hx, b⟩
        · rintro ⟨a, x, hx, b⟩
          by_cases zg : z ∈ g h
          · exact .inl zg
          · rcases List.mem_cons.mp hx with rfl | hx
            · exact absurd b zg
            · refine .inr ⟨fun zm => ?_, x, hx, b⟩
              rcases List.mem_append.mp zm with y | y
              · exact a y
              · exact zg y
theorem once_all {g : Int → List Int} {A : List Int} (P : Parted A g) : (onceF g [] A).flatten.Nodup ∧ ∀ z, z ∈ (onceF g [] A).flatten ↔ z ∈ A := by
  obtain ⟨n, q⟩ := once_flat P A [] (fun _ h => h) (fun z _ h => by cases h)
  refine ⟨n, fun z => ?_⟩
  rw [q z]
  constructor
  · rintro ⟨_, h, hh, hz⟩
    exact ((P.cls h hh).2.2 z hz).1
  · intro hz
    exact ⟨by simp, z, hz, (P.cls z hz).1⟩
theorem sort_uniq : ∀ {a b : List Int}, a.Pairwise (· < ·) → b.Pairwise (· < ·) → (∀ z, z ∈ a ↔ z ∈ b) → a = b
  | [], [], _, _, _ => rfl
  | [], y :: b, _, _, h => by have := (h y).mpr (by simp); cases this
  | x :: a, [], _, _, h => by have := (h x).mp (by simp); cases this
  | x :: a, y :: b, ha, hb, h => by
    have pa := List.pairwise_cons.mp ha
    have pb := List.pairwise_cons.mp hb
    have e : x = y := by
      rcases List.mem_cons.mp ((h x).mp (by simp)) with q | q
      · exact q
      · rcases List.mem_cons.mp ((h y).mpr (by simp)) with q2 | q2
        · exact q2.symm
        · have := pa.1 y q2
          have := pb.1 x q
          omega
    subst e
    congr 1
    refine sort_uniq pa.2 pb.2 fun z => ?_
    constructor
    · intro hz
      rcases List.mem_cons.mp ((h z).mp (List.mem_cons_of_mem _ hz)) with q | q
      · have := pa.1 z hz; omega
      · exact q
    · intro hz
      rcases List.mem_cons.mp ((h z).mpr (List.mem_cons_of_mem _ hz)) with q | q
      · have := pb.1 z hz; omega
      · exact q
theorem rngL_lt (n : Nat) : (rngL n).Pairwise (· < ·) := by
  unfold rngL
  rw [List.pairwise_map]
  exact List.pairwise_lt_range.imp fun h => by omega
section
variable {on : List Int} {ms : List (Option Int)} (S : SkinOk on ms)
include S
theorem SkinOk.part_pat : Parted (rngL on.length) (patL on) := ⟨fun h hh => by
  have g := rngL_mem.mp hh
  obtain ⟨t, nd, rg, len⟩ := S.pat g
  refine ⟨S.self_pat g, nd, fun z hz => ⟨rngL_mem.mpr (rg z hz), fun y => ?_⟩⟩
  obtain ⟨k, hk⟩ := List.getElem?_of_mem hz
  rw [S.patR g hk, rot_mem]⟩
end
end Hs
set_option linter.all false
set_option maxRecDepth 100000
set_option maxHeartbeats 1000000
namespace Hs
def NxRow (row : List Int) (a b : Int) : Prop := ∃ j, j < row.length ∧ row[prv row.length j]? = some a ∧ row[j]? = some b
theorem nx_split {row : List Int} {a b : Int} : NxRow row a b ↔ ∃ u v, row = u ++ a :: v ∧ (v ++ u ++ [a]).head? = some b := by
  constructor
  · rintro ⟨j, hj, ha, hb⟩
    obtain ⟨hi, ea⟩ := List.getElem?_eq_some_iff.mp ha
    have er : row = row.take (prv row.length j) ++ a :: row.drop (prv row.length j + 1) := by
      rw [← ea, ← List.drop_eq_getElem_cons hi, List.take_append_drop]
    refine ⟨row.take (prv row.length j), row.drop (prv row.length j + 1), er, ?_⟩
    by_cases z : j = 0
    · subst z
      have e1 : prv row.length 0 + 1 = row.length := by unfold prv; rw [if_pos rfl]; omega
      rw [e1, List.drop_length] at er ⊢
      rw [List.nil_append, ← er, List.head?_eq_getElem?]
      exact hb
    · have e1 : prv row.length j + 1 = j := by unfold prv; rw [if_neg z]; omega
      rw [e1, List.append_assoc, List.head?_append, List.head?_drop, hb]
      rfl
  · rintro ⟨u, v, rfl, h⟩
    cases v with
    | nil =>
      refine ⟨0, by simp, ?_, ?_⟩
      · unfold prv; rw [if_pos rfl]; simp
      · rw [← List.head?_eq_getElem?]; simpa using h
    | cons c v =>
      refine ⟨u.length + 1, by simp, ?_, ?_⟩
      · unfold prv; rw [if_neg (by omega)]; simp
      · have : c = b := by simpa using h
        subst this
        rw [List.getElem?_append_right (by omega)]
        simp
theorem nx_mem {row : List Int} {a b : Int} (h : NxRow row a b) : a ∈ row ∧ b ∈ row := by
  obtain ⟨j, _, ha, hb⟩ := h
  exact ⟨List.mem_of_getElem? ha, List.mem_of_getElem? hb⟩
theorem nx_ex {row : List Int} {a : Int} (h : a ∈ row) : ∃ b, NxRow row a b := by
  obtain ⟨u, v, rfl⟩ := List.append_of_mem h
  cases hh : (v ++ u ++ [a]).head? with
  | none => simp at hh
  | some b => exact ⟨b, nx_split.mpr ⟨u, v, rfl, hh⟩⟩
theorem nx_pre {row : List Int} {b : Int} (h : b ∈ row) : ∃ a, NxRow row a b := by
  obtain ⟨j, hj, e⟩ := List.getElem_of_mem h
  have hp := prv_lt hj
  exact ⟨row[prv row.length j], j, hj, List.getElem?_eq_getElem hp, by rw [List.getElem?_eq_getElem hj, e]⟩
theorem nx_inj {row : List Int} (nd : row.Nodup) {a a' b : Int} (h : NxRow row a b) (h' : NxRow row a' b) : a = a' := by
  obtain ⟨j, hj, ha, hb⟩ := h
  obtain ⟨k, hk, ha', hb'⟩ := h'
  have := nd_at nd hb hb'
  subst this
  rw [ha] at ha'
  exact Option.some.inj ha'
theorem nx_fun {row : List Int} (nd : row.Nodup) {a b b' : Int} (h : NxRow row a b) (h' : NxRow row a b') : b = b' := by
  obtain ⟨j, hj, ha, hb⟩ := h
  obtain ⟨k, hk, ha', hb'⟩ := h'
  have := prv_inj hj hk (nd_at nd ha ha')
  subst this
  rw [hb] at hb'
  exact Option.some.inj hb'
structure RowsOk (rows : List (List Int)) (S : Int → Prop) (nx : Int → Int) : Prop where
  nd : rows.flatten.Nodup
  mem : ∀ x, x ∈ rows.flatten ↔ S x
  nx : ∀ row ∈ rows, ∀ a b, NxRow row a b → nx a = b
theorem flat_nd {rows : List (List Int)} (h : rows.flatten.Nodup) {row : List Int} (hr : row ∈ rows) : row.Nodup := by
  induction rows with
  | nil => cases hr
  | cons r rs ih =>
    rw [List.flatten_cons] at h
    rcases List.mem_cons.mp hr with rfl | hr
    · exact (List.nodup_append.mp h).1
    · exact ih (List.nodup_append.mp h).2.1 hr
theorem flat_one {rows : List (List Int)} (h : rows.flatten.Nodup) {r r' : List Int} (hr : r ∈ rows) (hr' : r' ∈ rows) {x : Int} (hx : x ∈ r) (hx' : x ∈ r') : r = r' := by
  induction rows with
  | nil => cases hr
  | cons q rs ih =>
    rw [List.flatten_cons] at h
    obtain ⟨_, n2, n3⟩ := List.nodup_append.mp h
    rcases List.mem_cons.mp hr with e | k <;> rcases List.mem_cons.mp hr' with e' | k'
    · rw [e, e']
    · subst e; exact absurd rfl (n3 x hx x (List.mem_flatten.mpr ⟨r', k', hx'⟩))
    · subst e'; exact absurd rfl (n3 x hx' x (List.mem_flatten.mpr ⟨r, k, hx⟩))
    · exact ih n2 k k'
section
variable {rows : List (List Int)} {S : Int → Prop} {nx : Int → Int} (R : RowsOk rows S nx)
include R
theorem RowsOk.into {a : Int} (h : S a) : S (nx a) := by
  obtain ⟨row, hr, ha⟩ := List.mem_flatten.mp ((R.mem a).mpr h)
  obtain ⟨b, hb⟩ := nx_ex ha
  rw [R.nx row hr a b hb]
  exact (R.mem b).mp (List.mem_flatten.mpr ⟨row, hr, (nx_mem hb).2⟩)
theorem RowsOk.inj {a a' : Int} (h : S a) (h' : S a') (e : nx a = nx a') : a = a' := by
  obtain ⟨row, hr, ha⟩ := List.mem_flatten.mp ((R.mem a).mpr h)
  obtain ⟨row', hr', ha'⟩ := List.mem_flatten.mp ((R.mem a').mpr h')
  obtain ⟨b, hb⟩ := nx_ex ha
  obtain ⟨b', hb'⟩ := nx_ex ha'
  rw [R.nx row hr a b hb, R.nx row' hr' a' b' hb'] at e
  subst e
  have := flat_one R.nd hr hr' (nx_mem hb).2 (nx_mem hb').2
  subst this
  exact nx_inj (flat_nd R.nd hr) hb hb'
theorem RowsOk.sur {b : Int} (h : S b) : ∃ a, S a ∧ nx a = b := by
  obtain ⟨row, hr, hb⟩ := List.mem_flatten.mp ((R.mem b).mpr h)
  obtain ⟨a, ha⟩ := nx_pre hb
  exact ⟨a, (R.mem a).mp (List.mem_flatten.mpr ⟨row, hr, (nx_mem ha).1⟩), R.nx row hr a b ha⟩
end
def rk (L : List Int) (x : Int) : Int := ((L.idxOf x : Nat) : Int)
def rkO (L : List Int) : Option Int → Option Int
  | none => none
  | some x => if x ∈ L then some (rk L x) else none
def clOn (L : List Int) (nx : Int → Int) : List Int := L.map fun a => rk L (nx a)
def clMs (L : List Int) (mt : Int → Option Int) : List (Option Int) := L.map fun a => rkO L (mt a)
theorem rk_get {L : List Int} {a : Int} (h : a ∈ L) : L[(rk L a).toNat]? = some a := by
  unfold rk; rw [Int.toNat_natCast]; exact ahd_get h
theorem rk_rng {L : List Int} {a : Int} (h : a ∈ L) : InR L.length (rk L a) := by
  have := ahd_rng h
  exact this
theorem rk_inj {L : List Int} {a b : Int} (ha : a ∈ L) (hb : b ∈ L) (e : rk L a = rk L b) : a = b := by
  have h1 := rk_get ha
  rw [e, rk_get hb] at h1
  exact (Option.some.inj h1).symm
theorem rk_at {L : List Int} (nd : L.Nodup) {i : Nat} {a : Int} (h : L[i]? = some a) : rk L a = (i : Int) := by
  have h1 := rk_get (List.mem_of_getElem? h)
  have := nd_at nd h1 h
  have h2 := (rk_rng (List.mem_of_getElem? h)).1
  omega
theorem cl_of {L : List Int} {nx : Int → Int} {on : List Int} (nd : L.Nodup) (len : on.length = L.length) (h : ∀ a ∈ L, lk on (rk L a) = rk L (nx a)) : on = clOn L nx := by
  apply List.ext_getElem?
  intro i
  by_cases hi : i < L.length
  · have e : L[i]? = some L[i] := List.getElem?_eq_getElem hi
    have := h L[i] (List.getElem_mem hi)
    rw [rk_at nd e] at this
    unfold clOn
    rw [List.getElem?_map, e, Option.map_some, ← this]
    have := lk_get (l := on) (x := (i : Int)) (by simp; omega)
    simpa using this
  · rw [List.getElem?_eq_none (by omega), List.getElem?_eq_none (by unfold clOn; simp; omega)]
theorem close_skin {L : List Int} {nx : Int → Int} {mt : Int → Option Int} (nd : L.Nodup) (h1 : 1 ≤ L.length) (h2 : L.length ≤ 400) (into : ∀ a ∈ L, nx a ∈ L) (inj : ∀ a ∈ L, ∀ b ∈ L, nx a = nx b → a = b) (sur : ∀ b ∈ L, ∃ a ∈ L, nx a = b)
    (mm : ∀ a ∈ L, ∀ b ∈ L, mt a = some b → b ≠ a ∧ mt b = some a) : SkinOk (clOn L nx) (clMs L mt) := by
  have lo : (clOn L nx).length = L.length := by unfold clOn; simp
  have lm : (clMs L mt).length = L.length := by unfold clMs; simp
  have at' : ∀ i (h : i < L.length), (clOn L nx)[i]'(by rw [lo]; exact h) = rk L (nx L[i]) := fun i h => by unfold clOn; simp
  refine ⟨by rw [lo]; exact h1, by rw [lo]; exact h2, by rw [lo, lm], fun x hx => ?_, ?_, fun y h0 hy => ?_, fun h m e => ?_⟩
  · obtain ⟨a, ha, rfl⟩ := List.mem_map.mp hx
    rw [lo]; exact rk_rng (into a ha)
  · rw [List.nodup_iff_pairwise_ne, List.pairwise_iff_getElem]
    intro i j hi hj hij e
    rw [lo] at hi hj
    rw [at' i hi, at' j hj] at e
    have e1 := rk_inj (into _ (List.getElem_mem hi)) (into _ (List.getElem_mem hj)) e
    have e2 := inj _ (List.getElem_mem hi) _ (List.getElem_mem hj) e1
    have := (List.getElem_inj nd).mp e2
    omega
  · rw [lo] at hy
    have hi : y.toNat < L.length := by omega
    obtain ⟨a, ha, e⟩ := sur _ (List.getElem_mem hi)
    refine List.mem_map.mpr ⟨a, ha, ?_⟩
    show rk L (nx a) = y
    rw [e, rk_at nd (List.getElem?_eq_getElem hi)]; omega
  · rw [lo]
    unfold clMs at e ⊢
    rw [List.getElem?_map] at e
    obtain ⟨a, ha, e2⟩ := Option.map_eq_some_iff.mp e
    have hL := List.mem_of_getElem? ha
    have ra := rk_at nd ha
    cases hm : mt a with
    | none => rw [hm] at e2; cases e2
    | some b =>
      rw [hm] at e2
      unfold rkO at e2
      dsimp only at e2
      by_cases hb : b ∈ L
      · rw [if_pos hb] at e2
        have e3 : rk L b = m := Option.some.inj e2
        subst e3
        obtain ⟨q1, q2⟩ := mm a hL b hb hm
        have rb := rk_rng hb
        refine ⟨rb.1, rb.2, fun z => q1 (rk_inj hb hL (by rw [z, ra])), ?_⟩
        rw [List.getElem?_map, rk_get hb]
        show some (rkO L (mt b)) = _
        rw [q2]
        unfold rkO
        dsimp only
        rw [if_pos hL, ra]
      · rw [if_neg hb] at e2; cases e2
theorem RowsOk.skin {rows : List (List Int)} {S : Int → Prop} {nx : Int → Int} {mt : Int → Option Int} (R : RowsOk rows S nx) {L : List Int} (nd : L.Nodup) (hL : ∀ x, x ∈ L ↔ S x) (h1 : 1 ≤ L.length) (h2 : L.length ≤ 400)
    (mm : ∀ a, S a → ∀ b, S b → mt a = some b → b ≠ a ∧ mt b = some a) : SkinOk (clOn L nx) (clMs L mt) :=
  close_skin nd h1 h2 (fun a ha => (hL _).mpr (R.into ((hL a).mp ha))) (fun a ha b hb e => R.inj ((hL a).mp ha) ((hL b).mp hb) e)
    (fun b hb => by obtain ⟨a, ha, e⟩ := R.sur ((hL b).mp hb); exact ⟨a, (hL a).mpr ha, e⟩) fun a ha b hb e => mm a ((hL a).mp ha) b ((hL b).mp hb) e
theorem rngL_nd (n : Nat) : (rngL n).Nodup := (rngL_lt n).imp (fun h => by omega)
theorem rk_rngL {n : Nat} {x : Int} (h : InR n x) : rk (rngL n) x = x := by
  have := rk_at (rngL_nd n) (rngL_get (n := n) (i := x.toNat) (by omega))
  have e : ((x.toNat : Nat) : Int) = x := by omega
  rw [e] at this; exact this
theorem rkO_rngL {n : Nat} {o : Option Int} (h : ∀ x, o = some x → InR n x) : rkO (rngL n) o = o := by
  cases o with
  | none => rfl
  | some x =>
    have := h x rfl
    unfold rkO
    dsimp only
    rw [if_pos (rngL_mem.mpr this), rk_rngL this]
theorem on_rngL {n : Nat} {on : List Int} {nx : Int → Int} (len : on.length = n) (rng : ∀ x, InR n x → InR n (nx x)) (h : ∀ x, InR n x → lk on x = nx x) : on = clOn (rngL n) nx :=
  cl_of (rngL_nd n) (by rw [rngL_len, len]) fun a ha => by
    have ga := rngL_mem.mp ha
    rw [rk_rngL ga, rk_rngL (rng a ga), h a ga]
theorem ms_rngL {n : Nat} {ms : List (Option Int)} {mt : Int → Option Int} (len : ms.length = n) (rng : ∀ x y, InR n x → mt x = some y → InR n y) (h : ∀ x, InR n x → lkM ms x = mt x) : ms = clMs (rngL n) mt := by
  apply List.ext_getElem?
  intro i
  by_cases hi : i < n
  · have g : InR n (i : Int) := ⟨by omega, by omega⟩
    unfold clMs
    rw [List.getElem?_map, rngL_get hi, Option.map_some, rkO_rngL (fun x e => rng _ x g e), ← h _ g]
    unfold lkM
    rw [Int.toNat_natCast, List.getElem?_eq_getElem (by omega)]; rfl
  · rw [List.getElem?_eq_none (by omega), List.getElem?_eq_none (by unfold clMs; rw [List.length_map, rngL_len]; omega)]
theorem trail_first {on : List Int} {h x : Int} {l : List Int} (t : Trail (onwF on) h x l) : (l.drop 1 ++ [h]).head? = some (lk on x) := by
  cases t with
  | last q =>
    rcases q with q | q
    · cases q
    · have : lk on x = h := Option.some.inj q
      simp [this]
  | step q _ t =>
    obtain ⟨r, rfl⟩ := t.head
    have := Option.some.inj q
    simp [← this]
theorem SkinOk.patS {on : List Int} {ms : List (Option Int)} (S : SkinOk on ms) {h a : Int} {u v : List Int} (g : InR on.length h) (e : patL on h = u ++ a :: v) : patL on a = a :: (v ++ u) := by
  have hx : (patL on h)[u.length]? = some a := by rw [e, List.getElem?_append_right (Nat.le_refl _)]; simp
  rw [S.patR g hx, e]
  unfold rot
  simp
theorem SkinOk.pat_nx {on : List Int} {ms : List (Option Int)} (S : SkinOk on ms) {h a b : Int} (g : InR on.length h) (n : NxRow (patL on h) a b) : lk on a = b := by
  obtain ⟨u, v, e, hb⟩ := nx_split.mp n
  have ga : InR on.length a := (S.pat g).2.2.1 a (by rw [e]; simp)
  have ea := S.patS g e
  have t := (S.pat ga).1
  rw [ea] at t
  have := trail_first t
  rw [List.drop_one, List.tail_cons, hb] at this
  exact (Option.some.inj this).symm
def patsL (on : List Int) : List (List Int) := onceF (patL on) [] (rngL on.length)
theorem pats_of {on : List Int} {row : List Int} (h : row ∈ patsL on) : ∃ x, InR on.length x ∧ row = patL on x := by
  obtain ⟨x, hx, e⟩ := onceF_mem _ _ row h
  exact ⟨x, rngL_mem.mp hx, e⟩
theorem SkinOk.rows {on : List Int} {ms : List (Option Int)} (S : SkinOk on ms) : RowsOk (patsL on) (InR on.length) (lk on) := by
  obtain ⟨h1, h2⟩ := once_all S.part_pat
  refine ⟨h1, fun x => by rw [← rngL_mem]; exact h2 x, fun row hr a b n => ?_⟩
  obtain ⟨x, g, rfl⟩ := pats_of hr
  exact S.pat_nx g n
end Hs
set_option linter.all false
set_option maxRecDepth 100000
set_option maxHeartbeats 1000000
namespace Hs
theorem RowsOk.more {rows : List (List Int)} {S : Int → Prop} {nx nx' : Int → Int} (R : RowsOk rows S nx) {row : List Int} (nd : row.Nodup) (hn : ∀ x ∈ row, ¬ S x) (h1 : ∀ x, S x → nx' x = nx x) (h2 : ∀ x b, NxRow row x b → nx' x = b) : RowsOk (rows ++ [row]) (fun x => S x ∨ x ∈ row) nx' := by
  have hf : (rows ++ [row]).flatten = rows.flatten ++ row := by simp
  refine ⟨?_, fun x => ?_, fun r hr x b n => ?_⟩
  · rw [hf]
    exact List.nodup_append.mpr ⟨R.nd, nd, fun a ha b hb e => hn b hb ((R.mem b).mp (e ▸ ha))⟩
  · rw [hf, List.mem_append, R.mem]
  · rcases List.mem_append.mp hr with q | q
    · rw [h1 x ((R.mem x).mp (List.mem_flatten.mpr ⟨r, q, (nx_mem n).1⟩))]
      exact R.nx r q x b n
    · rw [List.mem_singleton.mp q] at n
      exact h2 x b n
inductive Fol (on : List Int) (T : List Int) : Nat → Int → Int → Prop
  | here {x : Int} : x ∉ T → Fol on T 0 x x
  | step {k : Nat} {x y : Int} : x ∈ T → Fol on T k (lk on x) y → Fol on T (k + 1) x y
theorem Fol.det {on T : List Int} {k : Nat} {x y : Int} (h : Fol on T k x y) : ∀ {k' : Nat} {y' : Int}, Fol on T k' x y' → y = y' := by
  induction h with
  | here n =>
    intro k' y' h'
    cases h' with
    | here _ => rfl
    | step m _ => exact absurd m n
  | step m _ ih =>
    intro k' y' h'
    cases h' with
    | here n => exact absurd m n
    | step _ q => exact ih q
theorem Fol.out {on T : List Int} {k : Nat} {x y : Int} (h : Fol on T k x y) : y ∉ T := by
  induction h with
  | here n => exact n
  | step _ _ ih => exact ih
noncomputable def nxF (on T : List Int) (a : Int) : Int := Classical.epsilon fun y => ∃ k, Fol on T k (lk on a) y
theorem nxF_is {on T : List Int} {k : Nat} {a y : Int} (h : Fol on T k (lk on a) y) : nxF on T a = y := by
  obtain ⟨k', q⟩ : ∃ k', Fol on T k' (lk on a) (nxF on T a) := Classical.epsilon_spec (p := fun y => ∃ k, Fol on T k (lk on a) y) ⟨y, k, h⟩
  exact q.det h
theorem fol_trail {on T : List Int} {h0 x : Int} {l : List Int} (t : Trail (onwF on) h0 x l) (hT : h0 ∉ T) : ∃ k y, Fol on T k (lk on x) y ∧ ((l.drop 1 ++ [h0]).filter fun z => decide (z ∉ T)).head? = some y := by
  induction t with
  | @last x q =>
    rcases q with q | q
    · cases q
    · have : lk on x = h0 := Option.some.inj q
      exact ⟨0, h0, by rw [this]; exact .here hT, by simp [hT]⟩
  | @step x y l q _ t ih =>
    have e : lk on x = y := Option.some.inj q
    obtain ⟨r, rfl⟩ := t.head
    by_cases z : y ∈ T
    · obtain ⟨k, w, f, hh⟩ := ih
      refine ⟨k + 1, w, by rw [e]; exact .step z f, ?_⟩
      rw [← hh]
      simp [z]
    · exact ⟨0, y, by rw [e]; exact .here z, by simp [z]⟩
theorem SkinOk.fol {on : List Int} {ms : List (Option Int)} (S : SkinOk on ms) (T : List Int) {a : Int} (g : InR on.length a) (h : a ∉ T) : ∃ k, Fol on T k (lk on a) (nxF on T a) := by
  obtain ⟨k, y, f, _⟩ := fol_trail (S.pat g).1 h
  exact ⟨k, by rw [nxF_is f]; exact f⟩
def leftOut (T : List Int) (rows : List (List Int)) : List (List Int) := (rows.map fun row => row.filter fun x => decide (x ∉ T)).filter fun row => decide (row ≠ [])
theorem flat_filter (p : List Int → Bool) (hp : ∀ l, p l = false → l = []) : ∀ rows : List (List Int), (rows.filter p).flatten = rows.flatten
  | [] => rfl
  | r :: rs => by
    rw [List.filter_cons]
    split
    · rw [List.flatten_cons, List.flatten_cons, flat_filter p hp rs]
    · rename_i h
      rw [flat_filter p hp rs, List.flatten_cons, hp r (by simpa using h)]
      rfl
theorem flat_map_filter (p : Int → Bool) : ∀ rows : List (List Int), (rows.map (List.filter p)).flatten = rows.flatten.filter p
  | [] => rfl
  | r :: rs => by rw [List.map_cons, List.flatten_cons, List.flatten_cons, List.filter_append, flat_map_filter p rs]
theorem leftOut_flat (T : List Int) (rows : List (List Int)) : (leftOut T rows).flatten = rows.flatten.filter fun x => decide (x ∉ T) := by
  unfold leftOut
  rw [flat_filter _ (fun l h => by simpa using h), flat_map_filter]
theorem SkinOk.left {on : List Int} {ms : List (Option Int)} (S : SkinOk on ms) (T : List Int) : RowsOk (leftOut T (patsL on)) (fun x => InR on.length x ∧ x ∉ T) (nxF on T) := by
  have R := S.rows
  have nd : (leftOut T (patsL on)).flatten.Nodup := by rw [leftOut_flat]; exact R.nd.sublist List.filter_sublist
  refine ⟨nd, fun x => ?_, fun row hr a b n => ?_⟩
  · rw [leftOut_flat, List.mem_filter, R.mem]; simp
  · have hr0 := hr
    obtain ⟨r0, hr1, e⟩ := List.mem_map.mp (List.mem_filter.mp hr).1
    obtain ⟨h, g, rfl⟩ := pats_of hr1
    have ha := (nx_mem n).1
    rw [← e] at ha
    obtain ⟨ha, hT⟩ := List.mem_filter.mp ha
    have hT : a ∉ T := by simpa using hT
    obtain ⟨u, v, es⟩ := List.append_of_mem ha
    have ga := (S.pat g).2.2.1 a ha
    have t := (S.pat ga).1
    rw [S.patS g es] at t
    obtain ⟨k, y, f, hh⟩ := fol_trail t hT
    rw [nxF_is f]
    refine nx_fun (flat_nd nd hr0) (nx_split.mpr ⟨u.filter fun x => decide (x ∉ T), v.filter fun x => decide (x ∉ T), ?_, ?_⟩) n
    · rw [← e, es, List.filter_append, List.filter_cons_of_pos (by simpa using hT)]
    · rw [List.drop_one, List.tail_cons, List.filter_append, List.filter_append, show [a].filter (fun z => decide (z ∉ T)) = [a] by simp [hT]] at hh
      exact hh
def keptL (n : Nat) (T : List Int) : List Int := (rngL n).filter fun x => decide (x ∉ T)
theorem keptL_mem {n : Nat} {T : List Int} {x : Int} : x ∈ keptL n T ↔ InR n x ∧ x ∉ T := by
  unfold keptL
  rw [List.mem_filter, rngL_mem]; simp
theorem keptL_lt (n : Nat) (T : List Int) : (keptL n T).Pairwise (· < ·) := (rngL_lt n).sublist List.filter_sublist
theorem keptL_nd (n : Nat) (T : List Int) : (keptL n T).Nodup := (keptL_lt n T).imp fun h => by omega
theorem keptL_len (n : Nat) (T : List Int) : (keptL n T).length ≤ n := by
  have := List.length_filter_le (fun x => decide (x ∉ T)) (rngL n)
  rw [rngL_len] at this; exact this
noncomputable def woOn (on T : List Int) : List Int := clOn (keptL on.length T) (nxF on T)
def woMs (n : Nat) (ms : List (Option Int)) (T : List Int) : List (Option Int) := clMs (keptL n T) (lkM ms)
end Hs
set_option linter.all false
set_option maxRecDepth 100000
set_option maxHeartbeats 1000000
namespace Hs
inductive Deed where
  | skin (on : List Int) (ms : List (Option Int))
  | no | many | rim | unlike
  | harm (w : PySem.Str)
theorem RowsOk.congr {rows : List (List Int)} {S S' : Int → Prop} {nx : Int → Int} (R : RowsOk rows S nx) (h : ∀ x, S x ↔ S' x) : RowsOk rows S' nx := ⟨R.nd, fun x => (R.mem x).trans (h x), R.nx⟩
theorem RowsOk.at {rows : List (List Int)} {S : Int → Prop} {nx : Int → Int} (R : RowsOk rows S nx) {a : Int} (ha : S a) : ∃ (i : Nat) (u v : List Int), rows[i]? = some (u ++ a :: v) := by
  obtain ⟨row, hr, hx⟩ := List.mem_flatten.mp ((R.mem a).mpr ha)
  obtain ⟨i, hi, e⟩ := List.getElem_of_mem hr
  obtain ⟨u, v, e2⟩ := List.append_of_mem hx
  exact ⟨i, u, v, by rw [List.getElem?_eq_getElem hi, e, e2]⟩
theorem RowsOk.all {rows : List (List Int)} {n : Nat} {nx : Int → Int} {mt : Int → Option Int} (R : RowsOk rows (InR n) nx) (h1 : 1 ≤ n) (h2 : n ≤ 400) (mm : ∀ a, InR n a → ∀ b, InR n b → mt a = some b → b ≠ a ∧ mt b = some a) : SkinOk (clOn (rngL n) nx) (clMs (rngL n) mt) :=
  R.skin (rngL_nd n) (fun x => rngL_mem) (by rw [rngL_len]; exact h1) (by rw [rngL_len]; exact h2) mm
theorem SkinOk.wo {on : List Int} {ms : List (Option Int)} (S : SkinOk on ms) (T : List Int) {mt : Int → Option Int} (h1 : ∃ a, InR on.length a ∧ a ∉ T) (mm : ∀ a, InR on.length a ∧ a ∉ T → ∀ b, InR on.length b ∧ b ∉ T → mt a = some b → b ≠ a ∧ mt b = some a) : SkinOk (woOn on T) (clMs (keptL on.length T) mt) := by
  refine (S.left T).skin (keptL_nd _ T) (fun x => keptL_mem) ?_ (Nat.le_trans (keptL_len _ T) S.le) mm
  obtain ⟨a, ha⟩ := h1
  exact List.length_pos_of_mem (keptL_mem.mpr ha)
theorem lkM_out {ms : List (Option Int)} {x : Int} (h : (ms.length : Int) ≤ x) : lkM ms x = none := by
  unfold lkM
  rw [List.getElem?_eq_none (by omega)]; rfl
theorem SkinOk.mtS {on : List Int} {ms : List (Option Int)} (S : SkinOk on ms) {a b : Int} (g : 0 ≤ a) (e : lkM ms a = some b) : InR on.length a ∧ InR on.length b ∧ lkM ms b = some a ∧ b ≠ a := by
  have ga : InR on.length a := ⟨g, by
    rcases Int.lt_or_le a on.length with h | h
    · exact h
    · rw [lkM_out (by rw [S.len]; exact h)] at e; cases e⟩
  obtain ⟨h1, h2, h3⟩ := S.mate ga e
  exact ⟨ga, h1, h2, h3⟩
theorem lk_setI {l : List Int} {j v x : Int} (h : InR l.length j) (hx : 0 ≤ x) : lk (l.set j.toNat v) x = if x = j then v else lk l x := by
  rw [lk_set (by omega)]
  have : x.toNat = j.toNat ↔ x = j := by omega
  simp only [this]
theorem lk_snoc {l : List Int} {v x : Int} (hx : 0 ≤ x) (h : x ≤ l.length) : lk (l ++ [v]) x = if x = (l.length : Int) then v else lk l x := by
  unfold lk
  rw [List.getD_eq_getElem?_getD, List.getD_eq_getElem?_getD]
  by_cases e : x = (l.length : Int)
  · rw [if_pos e, List.getElem?_append_right (by omega)]
    rw [show x.toNat - l.length = 0 by omega]; rfl
  · rw [if_neg e, List.getElem?_append_left (by omega)]
theorem lkM_snoc {l : List (Option Int)} {v : Option Int} {x : Int} (hx : 0 ≤ x) : lkM (l ++ [v]) x = if x = (l.length : Int) then v else lkM l x := by
  unfold lkM
  by_cases e : x = (l.length : Int)
  · rw [if_pos e, List.getElem?_append_right (by omega)]
    rw [show x.toNat - l.length = 0 by omega]; rfl
  · rw [if_neg e]
    by_cases h : x < l.length
    · rw [List.getElem?_append_left (by omega)]
    · rw [List.getElem?_eq_none (by simp; omega), List.getElem?_eq_none (by omega)]
theorem SkinOk.mm {on : List Int} {ms : List (Option Int)} (S : SkinOk on ms) {a b : Int} (g : 0 ≤ a) (e : lkM ms a = some b) : b ≠ a ∧ lkM ms b = some a := ⟨(S.mtS g e).2.2.2, (S.mtS g e).2.2.1⟩
def mergeable (on : List Int) (ms : List (Option Int)) (h : Int) : Prop := lk on h ≠ h ∧ lkM ms h ≠ some (lk on h) ∧ (match lkM ms (lk on h) with
  | none => lkM ms h = none
  | some f => lkM ms h = some (lk on f))
instance (on : List Int) (ms : List (Option Int)) (h : Int) : Decidable (mergeable on ms h) := by
  unfold mergeable
  cases lkM ms (lk on h) <;> exact inferInstance
end Hs
set_option Elab.async false
set_option linter.all false
set_option maxRecDepth 100000
set_option maxHeartbeats 1000000
namespace L2
open PySem PySem.Spec PyProof.Rows
theorem for_keys {d : Addr} {o : Obj} {kvs : List (Key × V)} {g : TG} {tb : TS} {D : Ends} {σ : St} {H : Hp} (Pv : Nat → St → Hp → Prop) (h0 : Pv 0 σ H) (hl : ∀ i σ H, i ≤ kvs.length → Pv i σ H → H d = some (.frz o (.dK kvs)))
    (hs : ∀ i k v σ H, kvs[i]? = some (k, v) → Pv i σ H → g (kV k) σ H fun σ2 H2 => tb { D with nx := Pv (i + 1), ct := Pv (i + 1), bk := D.nx } σ2 H2) (hd : ∀ σ H, Pv kvs.length σ H → D.nx σ H) :
    ∃ W : Nat → Nat → St → Hp → Prop, (∃ m, W 0 m σ H) ∧ ∀ i m σ H, W i m σ H →
      ((Itk d o kvs).stop i H ∧ D.nx σ H) ∨ ((Itk d o kvs).go i H ∧ ∃ N : St → Hp → Prop, (∀ σ' H', N σ' H' → ∃ m', m' < m ∧ W (i + 1) m' σ' H') ∧ ∀ x H', (Itk d o kvs).yld i H x H' → g x σ H' fun σ2 H2 => tb { D with nx := N, ct := N, bk := D.nx } σ2 H2) := by
  refine ⟨fun i m σ H => m = kvs.length - i ∧ i ≤ kvs.length ∧ Pv i σ H, ⟨kvs.length, by simp, Nat.zero_le _, h0⟩, ?_⟩
  rintro i m σ H ⟨rfl, hi, p⟩
  have q := hl i σ H hi p
  by_cases hlt : i < kvs.length
  · refine .inr ⟨⟨q, hlt⟩, Pv (i + 1), fun σ' H' p' => ⟨kvs.length - (i + 1), by omega, rfl, hlt, p'⟩, fun x H' y => ?_⟩
    obtain ⟨e, k, v, hk, ex⟩ := y
    subst e ex
    exact hs i k v σ _ hk p
  · have e : i = kvs.length := by omega
    subst e
    exact .inl ⟨⟨q, Nat.le_refl _⟩, hd σ H p⟩
end L2
namespace Hs
open PySem PySem.Spec PyProof.Rows L2
def numF : Nat → List Int → List (Key × V)
  | _, [] => []
  | k, x :: r => (.inl x, .int (k : Int)) :: numF (k + 1) r
theorem numF_snoc (x : Int) : ∀ (L : List Int) (k : Nat), numF k (L ++ [x]) = numF k L ++ [(.inl x, .int ((k + L.length : Nat) : Int))]
  | [], k => rfl
  | y :: r, k => by
    show (_ :: numF (k + 1) (r ++ [x])) = _ :: (numF (k + 1) r ++ _)
    rw [numF_snoc x r (k + 1), show k + 1 + r.length = k + (y :: r).length by rw [List.length_cons]; omega]
theorem numF_len : ∀ (L : List Int) (k : Nat), (numF k L).length = L.length
  | [], _ => rfl
  | _ :: r, k => by show (numF (k + 1) r).length + 1 = _; rw [numF_len r (k + 1)]; rfl
theorem numF_at : ∀ (L : List Int) (k i : Nat), (numF k L)[i]? = (L[i]?).map fun x => (Sum.inl x, V.int ((k + i : Nat) : Int))
  | [], _, _ => by simp [numF]
  | x :: r, k, 0 => rfl
  | x :: r, k, i + 1 => by
    show (numF (k + 1) r)[i]? = (r[i]?).map _
    rw [numF_at r (k + 1) i, show k + 1 + i = k + (i + 1) by omega]
theorem numF_val (x : Int) : ∀ (L : List Int) (k : Nat), valV (numF k L) (.inl x) = if x ∈ L then some (.int ((k + L.idxOf x : Nat) : Int)) else none
  | [], _ => by simp [numF, valV_nil]
  | y :: r, k => by
    by_cases e : y = x
    · subst e
      show valV ((Sum.inl y, V.int (k : Int)) :: numF (k + 1) r) (.inl y) = _
      rw [valV_pos rfl, if_pos (by simp)]
      simp
    · show valV ((Sum.inl y, V.int (k : Int)) :: numF (k + 1) r) (.inl x) = _
      rw [valV_neg (by intro z; exact e (Sum.inl.inj z)), numF_val x r (k + 1)]
      have e' : ¬ x = y := fun z => e z.symm
      by_cases h : x ∈ r
      · rw [if_pos h, if_pos (List.mem_cons_of_mem _ h), List.idxOf_cons, show (y == x) = false by simpa using e, cond_false, show k + 1 + r.idxOf x = k + (r.idxOf x + 1) by omega]
      · rw [if_neg h, if_neg (by simp [h, e'])]
theorem numF_none : ∀ (L : List Int) (k : Nat), valV (numF k L) (.inr none) = none
  | [], _ => rfl
  | y :: r, k => by
    show valV ((Sum.inl y, V.int (k : Int)) :: numF (k + 1) r) (.inr none) = _
    rw [valV_neg (by intro z; cases z), numF_none r (k + 1)]
def numD (L : List Int) : List (Key × V) := numF 0 L
theorem numD_val (L : List Int) (x : Int) : valV (numD L) (.inl x) = if x ∈ L then some (.int (rk L x)) else none := by
  unfold numD; rw [numF_val]; simp [rk]
theorem numD_none (L : List Int) : valV (numD L) (.inr none) = none := numF_none L 0
theorem numD_len (L : List Int) : (numD L).length = L.length := numF_len L 0
theorem numD_put {L : List Int} {x : Int} (h : x ∉ L) : putK (numD L) (.inl x) (.int (L.length : Int)) = numD (L ++ [x]) := by
  rw [putK_new _ (by rw [numD_val, if_neg h])]
  unfold numD; rw [numF_snoc]; simp
theorem numD_at {L : List Int} {i : Nat} {k : Key} {v : V} (h : (numD L)[i]? = some (k, v)) : ∃ x, L[i]? = some x ∧ k = .inl x := by
  unfold numD at h
  rw [numF_at] at h
  obtain ⟨x, hx, e⟩ := Option.map_eq_some_iff.mp h
  cases e
  exact ⟨x, hx, rfl⟩
def oKey : Option Int → Key
  | none => .inr none
  | some x => .inl x
theorem numD_get (L : List Int) (o : Option Int) : (valV (numD L) (oKey o)).getD .non = match rkO L o with | none => V.non | some i => V.int i := by
  cases o with
  | none => unfold oKey; rw [numD_none]; rfl
  | some x =>
    unfold oKey rkO
    dsimp only
    rw [numD_val]
    by_cases h : x ∈ L
    · rw [if_pos h, if_pos h]; rfl
    · rw [if_neg h, if_neg h]; rfl
end Hs
set_option Elab.async false
set_option linter.all false
set_option maxRecDepth 100000
set_option maxHeartbeats 1000000
namespace Hs
open PySem L2
abbrev i_Harm : Stmt := inClass s_Harm 0
def initPts (st : Stmt) : List Expr := match defBody st with
  | .Expr (.Call _ [.JoinedStr pts _] _ _) _ :: _ => pts
  | _ => []
def initTp (st : Stmt) : Pos := match defBody st with
  | .Expr (.Call _ [.JoinedStr _ tp] _ _) _ :: _ => tp
  | _ => ⟨0, 0, 0, 0⟩
def okS (v : V) : Prop := ∃ y, v = .str y ∧ y.length ≤ 2000
theorem pts_harm : ∃ c k q1 q2 q3, initPts i_Harm = [.Constant (.str c) k q1, .FormattedValue (.Name "word" q2) (-1) none q3] ∧ c.length ≤ 2000 := ⟨_, _, _, _, _, rfl, by decide⟩
theorem tx_harm {P : Program} {w : World} : ∀ v u, okS v → RelV v u → TextOk P w (.JoinedStr (initPts i_Harm) (initTp i_Harm)) "word" u := by
  rintro v u ⟨y, rfl, hy⟩ r
  obtain ⟨c, k, q1, q2, q3, e, hc⟩ := pts_harm
  obtain ⟨t, rfl⟩ := r
  rw [e]
  exact text_s hy hc (by decide)
theorem inV_ints (m : Int) : ∀ xs : List Int, inV (.int m) (xs.map V.int) = decide (m ∈ xs)
  | [] => by simp [inV]
  | x :: xs => by
    have h := inV_ints m xs
    by_cases e : x = m
    · subst e; simp [inV, eqV]
    · have e2 : ¬ m = x := fun z => e z.symm
      simp [inV, eqV] at h ⊢
      simp [e, e2, h]
theorem notin_ints (m : Int) (xs : List Int) : (if true = true then !inV (.int m) (xs.map V.int) else inV (.int m) (xs.map V.int)) = !decide (m ∈ xs) := by rw [if_pos rfl, inV_ints]
theorem in_ints (m : Int) (xs : List Int) : (if false = true then !inV (.int m) (xs.map V.int) else inV (.int m) (xs.map V.int)) = decide (m ∈ xs) := by rw [if_neg (by decide), inV_ints]
structure CsA where
  cN : Addr
  cT : Addr
  cR : Addr
  cU : Addr
  cH : Addr
def EF (C : CsA) (d : Deed) (H : Hp) : XK := fun c od H' => Same H H' ∧ match d with
  | .skin _ _ => False
  | .no => c = .ref C.cN ∧ od = none
  | .many => c = .ref C.cT ∧ od = none
  | .rim => c = .ref C.cR ∧ od = none
  | .unlike => c = .ref C.cU ∧ od = none
  | .harm w => c = .ref C.cH ∧ ∃ dx, od = some dx ∧ H' dx = some (.xd [("word", .str w)])
def spDeed (C : CsA) (D : List Int → List (Option Int) → Int → Deed) : Sp := fun vs H Q E => ∃ (p : Addr) (on : List Int) (ms : List (Option Int)) (half : Int), vs = [.ref p, .int half] ∧ SkAt H p on ms ∧ half.natAbs.log2 < 1920 ∧
  (∀ on' ms', D on ms half = .skin on' ms' → ∀ r H', Same H H' → SkAt H' r on' ms' → Q (.ref r) H') ∧ (∀ c od H', EF C (D on ms half) H c od H' → E c od H')
theorem rIx_seq {K : PySem.W.Frag} {H : Hp} {pn : Addr} {on : List Int} {x : Int} {Q : VK} (h : SqL K H pn (on.map V.int) ∨ SqT K H pn (on.map V.int)) (g : InR on.length x) (q : Q (.int (lk on x)) H) : rIx K (.ref pn) (.int x) H Q := by
  rcases h with h | h
  · exact .inl ⟨pn, _, _, _, rfl, rfl, h, at_lk g.1 g.2, q⟩
  · exact .inr (.inl ⟨pn, _, _, _, rfl, rfl, h, at_lk g.1 g.2, q⟩)
theorem rIx_seqM {K : PySem.W.Frag} {H : Hp} {pn : Addr} {ms : List (Option Int)} {x : Int} {Q : VK} (h : SqL K H pn (ms.map mV) ∨ SqT K H pn (ms.map mV)) (g : InR ms.length x) (q : Q (mV (lkM ms x)) H) : rIx K (.ref pn) (.int x) H Q := by
  rcases h with h | h
  · exact .inl ⟨pn, _, _, _, rfl, rfl, h, at_lkM g.1 g.2, q⟩
  · exact .inr (.inl ⟨pn, _, _, _, rfl, rfl, h, at_lkM g.1 g.2, q⟩)
theorem _root_.L2.DGet.f {H : Hp} {a : Addr} {o : Obj} {kvs : List (Key × V)} {k : Key} (e : H a = some (.frz o (.dK kvs))) : DGet H a (kV k) (valV kvs k) := .inl ⟨kvs, k, .inr ⟨o, e⟩, rfl, rfl⟩
theorem _root_.L2.Same.seqB {K : PySem.W.Frag} {H H' : Hp} {a : Addr} {xs : List V} (e : Same H H') (h : SqL K H a xs ∨ SqT K H a xs) : SqL K H' a xs ∨ SqT K H' a xs := by
  rcases h with h | h
  · exact .inl (e.seq h)
  · exact .inr (e.seqT h)
theorem ix_in {xs : List V} {k : Int} {n : Nat} (hx : xs.length = n) (g : InR n k) : ixN xs.length k = some k.toNat := by
  unfold ixN
  rw [if_pos g.1, if_pos (by rw [hx]; omega)]
theorem set_map (l : List Int) (j : Nat) (v : Int) : (l.map V.int).set j (.int v) = (l.set j v).map V.int := by rw [List.map_set]
theorem mV_oKey (o : Option Int) : mV o = kV (oKey o) := by cases o <;> rfl
theorem rngL_succ (n : Nat) : rngL (n + 1) = rngL n ++ [(n : Int)] := by unfold rngL; rw [List.range_succ, List.map_append]; rfl
theorem keptL_succ (n : Nat) (T : List Int) : keptL (n + 1) T = keptL n T ++ (if (n : Int) ∈ T then [] else [(n : Int)]) := by
  unfold keptL
  rw [rngL_succ, List.filter_append]
  by_cases h : (n : Int) ∈ T
  · simp [h]
  · simp [h]
theorem Fol.rng {on T : List Int} {n k : Nat} {x y : Int} (f : Fol on T k x y) (h : ∀ x, InR n x → InR n (lk on x)) : InR n x → InR n y := by
  induction f with
  | here _ => exact id
  | step _ _ ih => exact fun g => ih (h _ g)
theorem map_at {α β : Type} {f : α → β} {l : List α} {i : Nat} {x : α} (h : l[i]? = some x) : (l.map f).take (i + 1) = (l.map f).take i ++ [f x] := by
  rw [List.take_succ, List.getElem?_map, h]; rfl
section
variable {P : Program} {w : World} {K : PySem.W.Frag} {mg : Str → Option Value} {base : Heap} {f : Addr} {fd : FuncData} {C : CsA} {S fH : Addr} {tM : Tok}
theorem scRoom : FnScope ["skin", "many"] ["skin", "many"] (defScope s_check_room) := ⟨rfl, rfl, rfl, by decide +kernel, rfl, by decide +kernel, by decide +kernel⟩
def spRoom (K : PySem.W.Frag) (cT : Addr) : Sp := fun vs H Q E => ∃ (p po : Addr) (rest on : List V) (many : Int), vs = [.ref p, .int many] ∧ SqT K H p (.ref po :: rest) ∧ SqT K H po on ∧
  ((on.length : Int) + many ≤ 400 → Q .non H) ∧ (¬ ((on.length : Int) + many ≤ 400) → E (.ref cT) none H)
theorem ok_room (B : Bi mg) (own : OwnE K C.cT) (hT : mg "TooMany" = some (.ref C.cT)) (hM : mg "MOST_HALVES" = some (.int 400 tM)) (F : Fun K "check_room" "check_room" s_check_room f fd) : FnOk P w K mg base (CXf P w) 1 f fd ["skin", "many"] (spRoom K C.cT) := by
  refine FunX.ok F scRoom (fun vs H Q E h => ?_) (fun cdv A outer s H vs Q E hr h G => ?_)
  · obtain ⟨p, po, rest, on, many, rfl, _⟩ := h; rfl
  obtain ⟨p, po, rest, on, many, rfl, hp, ho, q1, q2⟩ := h
  refine ⟨_, (pss_one (ps_if (pt_cmpR op_gt (pe_op op_add (pe_callB call_len_seq rfl B.len_ bt_len (pa_cons (pe_ix ix_tup (pv 0) pe_int (fun _ _ => rfl)) pa_nil)) (pv 1)) (pe_glob (v := .int 400) rfl hM ⟨_, rfl⟩) (nomark _))
   (pss_one (ps_raise rfl own hT G (pa_cons (pe_fstr (pj_raw pe_str (pj_int (pe_glob (v := .int 400) rfl hM ⟨_, rfl⟩) (pj_raw pe_str pj_nil)))) pa_nil)))
   pss_nil)), ?_⟩
  refine ⟨_, rfl, p, _, _, .ref po, rfl, rfl, hp, at0 _ _, po, on, rfl, .inr ho, _, rfl, _, _, rfl, rfl, _, _, rfl, rfl, _, rfl, ite2 (fun c => ?_) (fun c => ?_)⟩
  · have c : (400 : Int) < (on.length : Int) + many := of_decide_eq_true c
    exact ⟨_, rfl, by decide, _, rfl, by decide, _, rfl, by decide, fun txt => ⟨(by show 1 ≤ 100; decide), q2 (by omega)⟩⟩
  · have c : ¬ (400 : Int) < (on.length : Int) + many := of_decide_eq_false (Bool.eq_false_iff.mpr c)
    exact q1 (by omega)
theorem scWo : FnScope ["onward", "mates", "taken", "number", "half", "left_onward", "left_mates", "behind"] ["onward", "mates", "taken"] (defScope s_without) := ⟨rfl, rfl, rfl, by decide +kernel, rfl, by decide +kernel, by decide +kernel⟩
def spWo (K : PySem.W.Frag) : Sp := fun vs H Q _ => ∃ (pn pm pt : Addr) (on : List Int) (ms : List (Option Int)) (T : List Int), vs = [.ref pn, .ref pm, .ref pt] ∧ (SqL K H pn (on.map V.int) ∨ SqT K H pn (on.map V.int)) ∧ (SqL K H pm (ms.map mV) ∨ SqT K H pm (ms.map mV)) ∧ SqT K H pt (T.map V.int) ∧ on.length ≤ 400 ∧ ms.length = on.length ∧
  (∀ x, InR on.length x → InR on.length (lk on x)) ∧ (∀ x, InR on.length x → x ∉ T → ∃ k, Fol on T k (lk on x) (nxF on T x)) ∧
  ∀ r ro rm H', Same H H' → H' r = some (.tup [.ref ro, .ref rm]) → H' ro = some (.tup ((woOn on T).map V.int)) → H' rm = some (.tup ((woMs on.length ms T).map mV)) → Q (.ref r) H'
theorem ok_without (B : Bi mg) (F : Fun K "without" "without" s_without f fd) : FnOk P w K mg base CX0 1 f fd ["onward", "mates", "taken"] (spWo K) := by
  refine F.ok scWo (fun vs H Q E h => ?_) (fun cdv A outer s H vs Q E hr h => ?_)
  · obtain ⟨pn, pm, pt, on, ms, T, rfl, _⟩ := h; rfl
  obtain ⟨pn, pm, pt, on, ms, T, rfl, hn, hm, ht, hle, hml, hrg, hfo, q⟩ := h
  refine ⟨_, (pss_cons (ps_set (i := 3) scWo.nd rfl (Or.inl rfl) pe_dnewK)
   (pss_cons (ps_for PassesOwn.never rfl (pi_range1 rfl B.range_ (pa_cons (pe_callB call_len_seq rfl B.len_ bt_len (pa_cons (pv 0) pa_nil)) pa_nil)) (pg_name (i := 4) scWo.nd rfl (Or.inl rfl))
   (pss_one (ps_if (pt_cmpR op_notIn_seq (pv 4) (pv 2) rfl)
   (pss_one (ps_dput (hu_of hr) (pv 3) (pv 4) (pe_callB call_lenD rfl B.len_ bt_len (pa_cons (pv 3) pa_nil)) rfl))
   pss_nil)))
   (pss_cons (ps_set (i := 5) scWo.nd rfl (Or.inl rfl) (pe_lst pa_nil))
   (pss_cons (ps_set (i := 6) scWo.nd rfl (Or.inl rfl) (pe_lst pa_nil))
   (pss_cons (ps_lock (ps_for PassesOwn.never rfl (pi_keys (pv 3)) (pg_name (i := 4) scWo.nd rfl (Or.inl rfl))
   (pss_cons (ps_set (i := 7) scWo.nd rfl (Or.inl rfl) (pe_ix ix_seq (pv 0) (pv 4) (fun _ _ => rfl)))
   (pss_cons (ps_while PassesOwn.never (pt_cmp (pc_dnotin (hu_of hr) (pv 7) (pv 3)))
   (pss_one (ps_set (i := 7) scWo.nd rfl (Or.inl rfl) (pe_ix ix_seq (pv 0) (pv 7) (fun _ _ => rfl)))))
   (pss_cons (ps_expr (pe_bm PySem.F.plainAttrs_list PySem.F.slot_list_append PySem.F.type_list_append mt_append (pv 5) (pa_cons (pe_dget (hu_of hr) (pv 3) (pv 7) (fun _ _ => rfl)) pa_nil)))
   (pss_one (ps_expr (pe_bm PySem.F.plainAttrs_list PySem.F.slot_list_append PySem.F.type_list_append mt_append (pv 6) (pa_cons (pe_dget1 (hu_of hr) (pv 3) (pe_ix ix_seq (pv 1) (pv 4) (fun _ _ => rfl)) ⟨rfl, rfl, rfl, rfl⟩) pa_nil)))))))))
   (pss_one (ps_ret (pe_tup (pa_cons (pe_callTy call_tuple_of rfl B.tuple_ bt_tuple (pa_cons (pv 5) pa_nil)) (pa_cons (pe_callTy call_tuple_of rfl B.tuple_ bt_tuple (pa_cons (pv 6) pa_nil)) pa_nil)))))))))), ?_⟩
  intro dn hdn
  refine ⟨_, rfl, pn, _, rfl, (same_put hdn (.dK [])).seqB hn, ?_⟩
  rw [show ((on.map V.int).length : Int) = (on.length : Int) by rw [List.length_map]]
  refine ⟨_, rfl, by omega, by omega, for_range (lo := 0)
    (fun i σ H1 => ∃ v6 : Option V, σ = [some (.ref pn), some (.ref pm), some (.ref pt), some (.ref dn), v6, none, none, none] ∧ Same H H1 ∧ H1 dn = some (.dK (numD (keptL i T))))
    ⟨_, rfl, same_put hdn _, upd_same⟩ ?_ ?_⟩
  · rintro i σ H1 hi ⟨v6, rfl, s1, hd⟩
    rw [Int.zero_add]
    refine ⟨_, rfl, _, rfl, pt, _, rfl, .inr (s1.seqT ht), rfl, flat_map _, _, rfl, ?_⟩
    rw [notin_ints]
    have hk := keptL_len i T
    by_cases z : (i : Int) ∈ T
    · refine itN (by simp [z]) ⟨_, rfl, s1, ?_⟩
      rw [keptL_succ, if_pos z, List.append_nil]; exact hd
    · refine itP (by simp [z]) ?_
      refine ⟨_, rfl, dn, _, rfl, hd, _, rfl, _, rfl, dn, _, rfl, DPut.k (k := .inl (i : Int)) hd (by rw [numD_len, sizeLine_eq]; omega), _, rfl, same_set s1 hdn, ?_⟩
      rw [upd_same, numD_len, numD_put (fun h => by have := (keptL_mem.mp h).1.2; omega), keptL_succ, if_neg z]
  rintro σ H1 ⟨v6, rfl, s1, hd⟩
  replace hd : H1 dn = some (.dK (numD (keptL on.length T))) := hd
  have hkl := keptL_len on.length T
  refine ⟨(by show 0 ≤ sizeLine; decide), fun lo hlo => ?_⟩
  refine ⟨(by show 0 ≤ sizeLine; decide), fun lm hlm => ?_⟩
  have flo : H lo = none := s1.free hlo
  have flm : H lm = none := (s1.trans (same_put hlo _)).free hlm
  have ndo : dn ≠ lo := ne_of_none hd hlo
  have ndm : dn ≠ lm := ne_of_none (up hlo hd) hlm
  have nom : lo ≠ lm := ne_of_none upd_same hlm
  refine ⟨dn, _, up hlm (up hlo hd), trivial, fun od => ?_⟩
  have gd : upd (upd (upd H1 lo (.lst [])) lm (.lst [])) dn (.frz od (.dK (numD (keptL on.length T)))) dn = some (.frz od (.dK (numD (keptL on.length T)))) := upd_same
  have go : upd (upd (upd H1 lo (.lst [])) lm (.lst [])) dn (.frz od (.dK (numD (keptL on.length T)))) lo = some (.lst []) := by rw [upd_ne ndo.symm, upd_ne nom, upd_same]
  have gm : upd (upd (upd H1 lo (.lst [])) lm (.lst [])) dn (.frz od (.dK (numD (keptL on.length T)))) lm = some (.lst []) := by rw [upd_ne ndm.symm, upd_same]
  have s2 : Same H (upd (upd (upd H1 lo (.lst [])) lm (.lst [])) dn (.frz od (.dK (numD (keptL on.length T))))) := same_set ((s1.trans (same_put hlo _)).trans (same_put hlm _)) hdn
  generalize upd (upd (upd H1 lo (.lst [])) lm (.lst [])) dn (.frz od (.dK (numD (keptL on.length T)))) = H2 at gd go gm s2 ⊢
  refine ⟨_, rfl, dn, od, rfl, .inl ⟨_, gd, for_keys (fun i σ H3 => ∃ v6 v7 : Option V, σ = [some (.ref pn), some (.ref pm), some (.ref pt), some (.ref dn), v6, some (.ref lo), some (.ref lm), v7] ∧ Same H H3 ∧ H3 dn = some (.frz od (.dK (numD (keptL on.length T)))) ∧
      H3 lo = some (.lst (((woOn on T).take i).map V.int)) ∧ H3 lm = some (.lst (((woMs on.length ms T).take i).map mV)))
    ⟨_, _, rfl, s2, gd, go, gm⟩ (fun i σ H3 _ ⟨_, _, _, _, z, _⟩ => z) ?_ ?_⟩⟩
  · rintro i k v σ H3 hk ⟨v6, v7, rfl, s3, hd3, ho3, hm3⟩
    obtain ⟨x, hx, rfl⟩ := numD_at hk
    have hxL := List.mem_of_getElem? hx
    obtain ⟨gx, nT⟩ := keptL_mem.mp hxL
    obtain ⟨k0, fol⟩ := hfo x gx nT
    refine ⟨_, rfl, _, rfl, ?_⟩
    refine rIx_seq (s3.seqB hn) gx ?_
    dsimp only [gName]
    refine seq_join (fun σ H4 => H4 = H3 ∧ σ = [some (.ref pn), some (.ref pm), some (.ref pt), some (.ref dn), some (.int x), some (.ref lo), some (.ref lm), some (.int (nxF on T x))]) (fun {Nx} hN => ?_) ?_
    · refine ⟨fun m σ H4 => ∃ b : Int, H4 = H3 ∧ σ = [some (.ref pn), some (.ref pm), some (.ref pt), some (.ref dn), some (.int x), some (.ref lo), some (.ref lm), some (.int b)] ∧ InR on.length b ∧ Fol on T m b (nxF on T x), ⟨k0, _, rfl, rfl, hrg x gx, fol⟩, ?_⟩
      rintro m σ H4 ⟨b, rfl, rfl, gb, fo⟩
      refine ⟨_, rfl, _, rfl, dn, _, rfl, DGet.f (k := .inl b) hd3, _, rfl, ?_⟩
      rw [numD_val]
      cases fo with
      | here nb =>
        rw [if_pos (keptL_mem.mpr ⟨gb, nb⟩)]
        exact itN rfl (hN _ _ ⟨rfl, rfl⟩)
      | @step m' _ _ bT fo' =>
        rw [if_neg (fun z => (keptL_mem.mp z).2 bT)]
        refine itP rfl ⟨_, fun _ _ z => z, ?_⟩
        refine ⟨_, rfl, _, rfl, ?_⟩
        exact rIx_seq (s3.seqB hn) gb ⟨m', by omega, _, rfl, rfl, hrg b gb, fo'⟩
    · rintro σ H4 ⟨rfl, rfl⟩
      have hnx : nxF on T x ∈ keptL on.length T := keptL_mem.mpr ⟨fol.rng hrg (hrg x gx), fol.out⟩
      have hL : (keptL on.length T).length ≤ 400 := Nat.le_trans hkl hle
      refine ⟨_, rfl, .inl ⟨rfl, _, SqL.of ho3⟩, _, rfl, _, rfl, dn, .int (rk (keptL on.length T) (nxF on T x)), rfl, (by have z := DGet.f (k := .inl (nxF on T x)) hd3; rw [numD_val, if_pos hnx] at z; exact z), lo, _, _, rfl, rfl, ho3, ?_, ?_⟩
      · rw [List.length_map, List.length_take, sizeLine_eq]; unfold woOn clOn; rw [List.length_map]; omega
      have d4 : ∀ o, upd H4 lo o dn = some (.frz od (.dK (numD (keptL on.length T)))) := fun o => by rw [upd_ne ndo]; exact hd3
      refine ⟨_, rfl, .inl ⟨rfl, _, SqL.of (by rw [upd_ne nom.symm]; exact hm3)⟩, _, rfl, dn, rfl, .inl ⟨_, .inr ⟨od, d4 _⟩⟩, _, rfl, _, rfl, ?_⟩
      refine rIx_seqM ((same_set s3 flo).seqB hm) (by rw [hml]; exact gx) ?_
      refine ⟨valV (numD (keptL on.length T)) (oKey (lkM ms x)), (by rw [mV_oKey]; exact DGet.f (d4 _)), lm, _, _, rfl, rfl, by rw [upd_ne nom.symm]; exact hm3, ?_, ?_⟩
      · rw [List.length_map, List.length_take, sizeLine_eq]; unfold woMs clMs; rw [List.length_map]; omega
      refine ⟨_, _, rfl, same_set (same_set s3 flo) flm, by rw [upd_ne ndm, upd_ne ndo]; exact hd3, ?_, ?_⟩
      · rw [upd_ne nom, upd_same]
        unfold woOn clOn
        rw [map_at hx, List.map_append]; rfl
      · rw [upd_same]
        unfold woMs clMs
        rw [map_at hx, List.map_append, numD_get]
        cases rkO (keptL on.length T) (lkM ms x) <;> rfl
  · rintro σ H3 ⟨v6, v7, rfl, s3, hd3, ho3, hm3⟩
    rw [numD_len, List.take_of_length_le (by unfold woOn clOn; rw [List.length_map]; exact Nat.le_refl _)] at ho3
    rw [numD_len, List.take_of_length_le (by unfold woMs clMs; rw [List.length_map]; exact Nat.le_refl _)] at hm3
    refine ⟨hd3, ?_⟩
    have s4 : Same H (upd H3 dn (.dK (numD (keptL on.length T)))) := same_set s3 hdn
    have go4 : upd H3 dn (.dK (numD (keptL on.length T))) lo = _ := (upd_ne ndo.symm).trans ho3
    have gm4 : upd H3 dn (.dK (numD (keptL on.length T))) lm = _ := (upd_ne ndm.symm).trans hm3
    generalize upd H3 dn (.dK (numD (keptL on.length T))) = H4 at s4 go4 gm4 ⊢
    refine ⟨_, rfl, lo, _, rfl, .inl ⟨SqL.of go4, fun r1 hr1 => ⟨_, rfl, lm, _, rfl, .inl ⟨SqL.of (up hr1 gm4), fun r2 hr2 => ⟨(by show 2 ≤ sizeLine; decide), fun r hr0 => ?_⟩⟩⟩⟩⟩
    exact q r r1 r2 _ (((s4.trans (same_put hr1 _)).trans (same_put hr2 _)).trans (same_put hr0 _)) upd_same (up hr0 (up hr2 upd_same)) (up hr0 upd_same)
end
end Hs
set_option Elab.async false
set_option linter.all false
set_option maxRecDepth 100000
set_option maxHeartbeats 1000000
namespace L2
open PySem PySem.Spec PyProof.Rows
section
variable {X : Cx} {K : PySem.W.Frag}
theorem call_list_ofK (hK : X.K = K) : CallR X (.type "list") (fun xs H Q => ∃ p ys, xs = [.ref p] ∧ (SqL K H p ys ∨ SqT K H p ys) ∧ ∀ l, H l = none → Q (.ref l) (upd H l (.lst ys))) := by subst hK; exact call_list_of
theorem op_neNilK (hK : X.K = K) (hu : X.A.units + 64 < cLine) : OpR X (compareOp .NotEq) (rNeNil K) := by subst hK; exact op_neNil hu
theorem pi_listK {tg l : Expr} {tl : TE} (hK : X.K = K) (h : PE X l tl) : PI X tg l (iList K tl) := by subst hK; exact pi_list h
end
end L2
namespace Hs
open PySem L2
end Hs
set_option Elab.async false
set_option linter.all false
set_option maxRecDepth 100000
set_option maxHeartbeats 2000000
namespace Hs
open PySem L2
section
variable {P : Program} {w : World} {K : PySem.W.Frag} {mg : Str → Option Value} {base : Heap} {f : Addr} {fd : FuncData} {C : CsA} {S fH : Addr} {tM : Tok}
structure BiW (mg : Str → Option Value) : Prop extends Bi mg where
  sorted_ : mg "sorted" = none
theorem tIf_pure {c : TT} {t u : TS} {D : Ends} {σ : L2.St} {H : Hp} (b : Bool) (h : ∀ Q : Bool → Hp → Prop, Q b H → c σ H Q) (q : if b = true then t D σ H else u D σ H) : tIfS c t u D σ H := h _ q
def gW (word : Str) (on : List Int) (ms : List (Option Int)) (h : Int) : List Int := if word = "knot" then knotL on ms h else if word = "patch" then patL on h else if word = "rim" then rimL on ms h else gSeam ms h
def okW (word : Str) (ms : List (Option Int)) (h : Int) : Bool := decide (word ≠ "rim") || decide (lkM ms h = none)
def WordW (word : Str) : Prop := word = "knot" ∨ word = "seam" ∨ word = "patch" ∨ word = "rim"
def pick2 (h : Int) (o : Option Int) (i : Nat) : List Int := ([some h, o].take i).filterMap id
theorem sort_two {h : Int} {o : Option Int} {ns : List Int} (ne : ∀ m, o = some m → m ≠ h) (p : ns.Perm (pick2 h o 2)) (s : ns.Pairwise (· ≤ ·)) : ns = match o with | none => [h] | some m => if h < m then [h, m] else [m, h] := by
  cases o with
  | none =>
    have p : ns.Perm [h] := p
    exact List.perm_singleton.mp p
  | some m =>
    have p : ns.Perm [h, m] := p
    have l := p.length_eq
    match ns, l, p, s with
    | [a, b], _, p, s =>
      have ha := p.mem_iff (a := a)
      have hh := p.mem_iff (a := h)
      have hm := p.mem_iff (a := m)
      have hs : a ≤ b := by
        have := List.pairwise_cons.mp s
        exact this.1 b (by simp)
      have n := ne m rfl
      simp at ha hh hm
      show [a, b] = if h < m then [h, m] else [m, h]
      have : (h < m → a = h ∧ b = m) ∧ (¬ h < m → a = m ∧ b = h) := by constructor <;> intro _ <;> omega
      by_cases lt : h < m
      · rw [if_pos lt, (this.1 lt).1, (this.1 lt).2]
      · rw [if_neg lt, (this.2 lt).1, (this.2 lt).2]
def spWalks : Sp := fun vs H Q _ => ∃ (p : Addr) (on : List Int) (ms : List (Option Int)) (word : Str), vs = [.ref p, .str word] ∧ SkAt H p on ms ∧ WordW word ∧
  ∀ r H', Same H H' → H r = none → Rows H' r (onceF (gW word on ms) [] ((rngL on.length).filter (okW word ms))) → Q (.ref r) H'
theorem gW_rng {word : Str} {on : List Int} {ms : List (Option Int)} (S : SkinOk on ms) {h : Int} (g : InR on.length h) : (∀ z ∈ gW word on ms h, InR on.length z) ∧ (gW word on ms h).length ≤ 401 := by
  have hle := S.le
  unfold gW
  split
  · have k := (S.knot g).2.2
    exact ⟨k.1, by have := k.2; omega⟩
  split
  · have k := (S.pat g).2.2
    exact ⟨k.1, by have := k.2; omega⟩
  split
  · have k := (S.rim g).2.2
    exact ⟨k.1, by have := k.2; omega⟩
  · have k := gSeam_rng S g
    exact ⟨k.1, by have := k.2; omega⟩
theorem scLWalks : FnScope ["skin", "word", "found", "met", "half", "one", "row"] ["skin", "word"] (defScope s__law_walks) := ⟨rfl, rfl, rfl, by decide +kernel, rfl, by decide +kernel, by decide +kernel⟩
theorem ok_lwalks (B : BiW mg) (FLP : Fn P w K mg base "_law_patch" ["skin", "half"] 1 (spInT gPatch)) (FLK : Fn P w K mg base "_law_knot" ["skin", "half"] 2 (spInT gKnot)) (FLR : Fn P w K mg base "_law_rim" ["skin", "half"] 3 spRimL)
    (F : Fun K "_law_walks" "_law_walks" s__law_walks f fd) : FnOk P w K mg base CX0 4 f fd ["skin", "word"] spWalks := by
  refine F.ok scLWalks (fun vs H Q E h => ?_) (fun cdv A outer s H vs Q E hr h => ?_)
  · obtain ⟨p, on, ms, word, rfl, _⟩ := h; rfl
  obtain ⟨p, on, ms, word, rfl, S, hw, q⟩ := h
  obtain ⟨sk, po, pm, h1, h2, h3⟩ := id S
  have hle := sk.le
  refine ⟨_, (pss_cons (ps_set (i := 2) scLWalks.nd rfl (Or.inl rfl) (pe_lst pa_nil))
   (pss_cons (ps_set (i := 3) scLWalks.nd rfl (Or.inl rfl) pe_dnewK)
   (pss_cons (ps_for PassesOwn.never rfl (pi_range1 rfl B.range_ (pa_cons (pe_callB call_len_seq rfl B.len_ bt_len (pa_cons (pe_ix ix_tup (pv 0) pe_int (fun _ _ => rfl)) pa_nil)) pa_nil)) (pg_name (i := 4) scLWalks.nd rfl (Or.inl rfl))
   (pss_one (ps_if (PW.pt (pw_and (pt_cmp (pc_dnotin (hu_of hr) (pv 4) (pv 3))) (pw_and1 (PW.pt (pw_or (pt_cmpR op_ne (pv 1) pe_str (nomark _)) (pw_or1 (pt_cmpR op_isN (pe_ix ix_tup (pe_ix ix_tup (pv 0) pe_int (fun _ _ => rfl)) (pv 4) (fun _ _ => rfl)) pe_non (nomark _))))))))
   (pss_cons (ps_if (pt_cmpR op_eq (pv 1) pe_str (nomark _))
   (pss_one (ps_set (i := 6) scLWalks.nd rfl (Or.inl rfl) (pe_callF FLK hr (by decide) (pa_cons (pv 0) (pa_cons (pv 4) pa_nil)))))
   (pss_one (ps_if (pt_cmpR op_eq (pv 1) pe_str (nomark _))
   (pss_one (ps_set (i := 6) scLWalks.nd rfl (Or.inl rfl) (pe_callF FLP hr (by decide) (pa_cons (pv 0) (pa_cons (pv 4) pa_nil)))))
   (pss_one (ps_if (pt_cmpR op_eq (pv 1) pe_str (nomark _))
   (pss_one (ps_set (i := 6) scLWalks.nd rfl (Or.inl rfl) (pe_callF FLR hr (by decide) (pa_cons (pv 0) (pa_cons (pv 4) pa_nil)))))
   (pss_one (ps_set (i := 6) scLWalks.nd rfl (Or.inl rfl) (pe_callTy call_tuple_of rfl B.tuple_ bt_tuple (pa_cons (pe_callB cr_sortA rfl B.sorted_ bt_sorted (pa_cons (pe_lc (own := [("one", 5)]) (g := gName 5) (by rfl) scLWalks.nd (pi_tup (pe_tup (pa_cons (pv 4) (pa_cons (pe_ix ix_tup (pe_ix ix_tup (pv 0) pe_int (fun _ _ => rfl)) (pv 4) (fun _ _ => rfl)) pa_nil)))) (blkOk_by (own := [("one", 5)]) (N := ["skin", "word", "found", "met", "half", "one", "row"]) (sc := (defScope s__law_walks)) (by decide +kernel)) (fun _ _ _ _ _ => (pg_name (i := 5) scLWalks.nd rfl (Or.inl rfl))) (fun _ _ _ _ _ => (pts_one (pt_cmpR op_notN (pv 5) pe_non (nomark _)))) (fun _ _ _ _ _ => (pv 5))) pa_nil)) pa_nil)))))))))
   (pss_cons (ps_expr (pe_bm PySem.F.plainAttrs_list PySem.F.slot_list_append PySem.F.type_list_append mt_append (pv 2) (pa_cons (pv 6) pa_nil)))
   (pss_one (ps_for PassesOwn.never rfl (pi_tup (pv 6)) (pg_name (i := 5) scLWalks.nd rfl (Or.inl rfl))
   (pss_one (ps_dput (hu_of hr) (pv 3) (pv 5) pe_bl rfl))))))
   pss_nil)))
   (pss_one (ps_ret (pe_callTy call_tuple_of rfl B.tuple_ bt_tuple (pa_cons (pv 2) pa_nil))))))), ?_⟩
  refine ⟨(by show 0 ≤ sizeLine; decide), fun lt hlt => fun lm hlm => ?_⟩
  have nlt : lt ≠ lm := ne_of_none upd_same hlm
  have flm : H lm = none := (same_put hlt (.lst [])).free hlm
  have s0 := (same_put hlt (.lst [])).trans (same_put hlm (.dK []))
  refine ⟨_, rfl, p, _, _, .ref po, rfl, rfl, SqT.of (s0 _ _ h1), at0 _ _, po, _, rfl, .inr (SqT.of (s0 _ _ h2)), ?_⟩
  rw [show ((on.map V.int).length : Int) = (on.length : Int) by rw [List.length_map]]
  refine ⟨_, rfl, by omega, by omega, for_range (lo := 0)
    (fun i σ H1 => ∃ (rs : List Addr) (rows : List (List Int)) (met ml : List Int) (v4 v5 v6 : Option V), σ = [some (.ref p), some (.str word), some (.ref lt), some (.ref lm), v4, v5, v6] ∧ Same H H1 ∧ H1 lm = some (.dK (metD ml)) ∧ H1 lt = some (.lst (rs.map V.ref)) ∧
      rs.length = rows.length ∧ (∀ (j : Nat) (a : Addr) (row : List Int), rs[j]? = some a → rows[j]? = some row → H1 a = some (.tup (row.map V.int))) ∧ ml.Nodup ∧ (∀ z, z ∈ ml ↔ z ∈ met) ∧ (∀ z ∈ met, InR on.length z) ∧ onceF (gW word on ms) [] ((rngL on.length).filter (okW word ms)) = rows ++ onceF (gW word on ms) met (((rngL on.length).drop i).filter (okW word ms)) ∧ rows.length ≤ i)
    ⟨[], [], [], [], _, _, _, rfl, s0, upd_same, up hlm upd_same, rfl, fun j a row h => by simp at h, List.nodup_nil, fun z => Iff.rfl, fun z h => (by cases h), rfl, Nat.le_refl _⟩ ?_ ?_⟩
  · rintro i σ H1 hi ⟨rs, rows, met, ml, v4, v5, v6, rfl, s1, hm, ht, hl, hrow, nd, hml, hin, eq, hri⟩
    rw [Int.zero_add]
    have hi' : i < on.length := by omega
    have g : InR on.length (i : Int) := ⟨by omega, by omega⟩
    have S1 := S.same s1
    rw [rngL_drop hi'] at eq
    refine tIf_pure (decide ((i : Int) ∉ ml) && okW word ms (i : Int)) (fun Q q => ?_) ?_
    · refine ⟨_, rfl, _, rfl, lm, _, rfl, DGet.k (k := .inl (i : Int)) hm, _, rfl, ?_⟩
      rw [metD_val]
      by_cases c : (i : Int) ∈ ml
      · refine itN (by simp [c]) ?_
        rw [show (decide ((i : Int) ∉ ml) && okW word ms (i : Int)) = false by simp [c]] at q
        exact q
      · refine itP (by simp [c]) ?_
        rw [show (decide ((i : Int) ∉ ml) && okW word ms (i : Int)) = okW word ms (i : Int) by simp [c]] at q
        refine ⟨_, rfl, rfl, _, rfl, ?_⟩
        by_cases c2 : word = "rim"
        · subst c2
          refine itN (by simp) ?_
          refine ⟨_, rfl, p, _, _, .ref pm, rfl, rfl, SqT.of (s1 _ _ h1), at1 _ _ _, _, rfl, pm, _, _, _, rfl, rfl, SqT.of (s1 _ _ h3), at_lkM g.1 (by rw [sk.len]; exact g.2), rfl, _, rfl, ?_⟩
          have : okW "rim" ms (i : Int) = decide (mV (lkM ms (i : Int)) = .non) := by
            unfold okW
            cases e : lkM ms (i : Int) with
            | none => simp [mV]
            | some m => simp [mV]
          rw [← this]; exact q
        · refine itP (by simp [c2]) ?_
          rw [show okW word ms (i : Int) = true by unfold okW; simp [c2]] at q
          exact q
    refine ite2 (fun c => ?_) (fun c => ?_)
    · have c := Bool.and_eq_true_iff.mp c
      have nm : (i : Int) ∉ met := fun z => of_decide_eq_true c.1 ((hml _).mpr z)
      have ok := c.2
      rw [List.filter_cons_of_pos ok, once_take nm] at eq
      refine seq_join (J := fun σ H2 => ∃ (r : Addr) (v5 : Option V), σ = [some (.ref p), some (.str word), some (.ref lt), some (.ref lm), some (.int (i : Int)), v5, some (.ref r)] ∧ Same H1 H2 ∧ H1 r = none ∧ H2 r = some (.tup ((gW word on ms (i : Int)).map V.int))) (fun {Nx} hN => ?_) ?_
      · rcases hw with rfl | rfl | rfl | rfl
        · refine ⟨_, rfl, rfl, _, rfl, itP (by decide) ?_⟩
          exact ⟨_, rfl, _, rfl, p, on, ms, _, rfl, S1, g, fun r H2 s2 f2 e2 => hN _ _ ⟨r, _, rfl, s2, f2, e2⟩⟩
        · refine ⟨_, rfl, rfl, _, rfl, itN (by decide) ?_⟩
          refine ⟨_, rfl, rfl, _, rfl, itN (by decide) ?_⟩
          refine ⟨_, rfl, rfl, _, rfl, itN (by decide) ?_⟩
          refine ⟨_, rfl, _, rfl, p, _, _, .ref pm, rfl, rfl, SqT.of (s1 _ _ h1), at1 _ _ _, _, rfl, pm, _, _, _, rfl, rfl, SqT.of (s1 _ _ h3), at_lkM g.1 (by rw [sk.len]; exact g.2), (by show 2 ≤ sizeLine; decide), fun tp htp => ?_⟩
          refine ⟨tp, rfl, ⟨_, SqT.of upd_same⟩, fun D hD => ?_⟩
          have s2 := same_put htp (.tup [V.int (i : Int), mV (lkM ms (i : Int))])
          have e2 := upd_same (H := H1) (a := tp) (o := .tup [V.int (i : Int), mV (lkM ms (i : Int))])
          generalize upd H1 tp (.tup [V.int (i : Int), mV (lkM ms (i : Int))]) = H2 at s2 e2 hD ⊢
          refine lc_tup (K := K) (a := tp) (xs := [V.int (i : Int), mV (lkM ms (i : Int))]) (Pv := fun j H3 => Same H2 H3 ∧ H3 D = some (.lst ((pick2 (i : Int) (lkM ms (i : Int)) j).map V.int))) ⟨same_put hD _, upd_same⟩ (fun j H3 _ pv => SqT.of (pv.1 _ _ e2)) ?_ ?_
          · rintro j x H3 hx ⟨s3, g3⟩
            refine ⟨rfl, _, rfl, rfl, _, rfl, ?_⟩
            match j, hx with
            | 0, hx =>
              cases hx
              exact itP rfl ⟨_, rfl, _, g3, (by show 0 < sizeLine; decide), same_set s3 hD, upd_same⟩
            | 1, hx =>
              cases hx
              cases e : lkM ms (i : Int) with
              | none => exact itN rfl ⟨s3, by rw [e] at g3; exact g3⟩
              | some m => exact itP rfl ⟨_, rfl, _, g3, (by show 1 < sizeLine; decide), same_set s3 hD, by rw [upd_same, e]; rfl⟩
          · rintro H3 ⟨s3, g3⟩
            refine ⟨D, _, rfl, SqL.of g3, fun ns l pe so hl => ?_⟩
            have ens : ns = gSeam ms (i : Int) := by
              rw [sort_two (fun m hm => ((sk.mate g hm).2.2)) pe so]; rfl
            refine ⟨l, _, rfl, .inl ⟨SqL.of upd_same, fun r hr => hN _ _ ⟨r, _, rfl, s2.trans (s3.trans ((same_put hl _).trans (same_put hr _))), ?_, ?_⟩⟩⟩
            · exact (s2.trans (s3.trans (same_put hl _))).free hr
            · rw [upd_same, ens]; rfl
        · refine ⟨_, rfl, rfl, _, rfl, itN (by decide) ?_⟩
          refine ⟨_, rfl, rfl, _, rfl, itP (by decide) ?_⟩
          exact ⟨_, rfl, _, rfl, p, on, ms, _, rfl, S1, g, fun r H2 s2 f2 e2 => hN _ _ ⟨r, _, rfl, s2, f2, e2⟩⟩
        · refine ⟨_, rfl, rfl, _, rfl, itN (by decide) ?_⟩
          refine ⟨_, rfl, rfl, _, rfl, itN (by decide) ?_⟩
          refine ⟨_, rfl, rfl, _, rfl, itP (by decide) ?_⟩
          have e0 : lkM ms (i : Int) = none := by unfold okW at ok; simpa using ok
          exact ⟨_, rfl, _, rfl, p, on, ms, _, rfl, S1, g, e0, fun r H2 s2 f2 e2 => hN _ _ ⟨r, _, rfl, s2, f2, e2⟩⟩
      rintro σ H2 ⟨r, w5, rfl, s2, f2, e2⟩
      have gr := gW_rng (word := word) sk g
      generalize eG : gW word on ms (i : Int) = G at e2 gr eq
      have nr : r ≠ lt := fun z => by rw [z, ht] at f2; cases f2
      have nrm : r ≠ lm := fun z => by rw [z, hm] at f2; cases f2
      refine ⟨_, rfl, .inl ⟨rfl, _, SqL.of (s2 _ _ ht)⟩, _, rfl, lt, _, _, rfl, rfl, s2 _ _ ht, ?_, ?_⟩
      · rw [List.length_map, sizeLine_eq]; omega
      have ht3 : upd H2 lt (.lst (rs.map V.ref ++ [.ref r])) lt = some (.lst ((rs ++ [r]).map V.ref)) := by rw [upd_same, List.map_append]; rfl
      have hm3 : upd H2 lt (.lst (rs.map V.ref ++ [.ref r])) lm = some (.dK (metD ml)) := by rw [upd_ne (Ne.symm nlt)]; exact s2 _ _ hm
      have e3 : upd H2 lt (.lst (rs.map V.ref ++ [.ref r])) r = some (.tup (G.map V.int)) := by rw [upd_ne nr]; exact e2
      have s3 : Same H (upd H2 lt (.lst (rs.map V.ref ++ [.ref r]))) := same_set (s1.trans s2) hlt
      have row3 : ∀ (j : Nat) (a : Addr) (row : List Int), rs[j]? = some a → rows[j]? = some row → upd H2 lt (.lst (rs.map V.ref ++ [.ref r])) a = some (.tup (row.map V.int)) := fun j a row h1 h2 => by
        have z := s2 _ _ (hrow j a row h1 h2)
        rw [upd_ne (fun y => by rw [y, s2 _ _ ht] at z; cases z)]; exact z
      generalize upd H2 lt (.lst (rs.map V.ref ++ [.ref r])) = H3 at ht3 hm3 e3 s3 row3 ⊢
      refine ⟨_, rfl, r, rfl, ⟨_, SqT.of e3⟩, for_tup (K := K) (a := r) (xs := G.map V.int)
        (fun j σ H4 => ∃ (ml4 : List Int) (v5 : Option V), σ = [some (.ref p), some (.str word), some (.ref lt), some (.ref lm), some (.int (i : Int)), v5, some (.ref r)] ∧ (∀ b, b ≠ lm → H4 b = H3 b) ∧ H4 lm = some (.dK (metD ml4)) ∧ ml4.Nodup ∧ ∀ z, z ∈ ml4 ↔ z ∈ met ++ G.take j)
        ⟨ml, _, rfl, fun _ _ => rfl, hm3, nd, fun z => by rw [List.take_zero, List.append_nil]; exact hml z⟩ (fun j σ H4 _ ⟨_, _, _, k4, _⟩ => SqT.of ((k4 r nrm).trans e3)) ?_ ?_⟩
      · rintro j z σ H4 hz ⟨ml4, w5, rfl, k4, hm4, nd4, hml4⟩
        rw [List.getElem?_map] at hz
        obtain ⟨y, hy, rfl⟩ := Option.map_eq_some_iff.mp hz
        obtain ⟨hjl, ey⟩ := List.getElem?_eq_some_iff.mp hy
        have ing : ∀ z ∈ met ++ G.take j, InR on.length z := fun z hz => by
          rcases List.mem_append.mp hz with q | q
          · exact hin z q
          · exact gr.1 z (List.mem_of_mem_take q)
        have ml400 := nd_len on.length ml4 nd4 fun z hz => ing z ((hml4 z).mp hz)
        refine ⟨_, rfl, _, rfl, lm, _, rfl, DPut.k (k := .inl y) hm4 (by unfold metD; rw [List.length_map, sizeLine_eq]; omega), ?_⟩
        have tk : G.take (j + 1) = G.take j ++ [y] := by rw [List.take_succ_eq_append_getElem hjl, ey]
        refine ⟨_, _, rfl, fun b hb => by rw [upd_ne hb]; exact k4 b hb, by rw [upd_same, metD_put], ?_, fun z => ?_⟩
        · split
          · exact nd4
          · rename_i ny
            rw [List.nodup_append]
            exact ⟨nd4, by simp, fun a ha b hb => by rw [List.mem_singleton.mp hb]; exact fun q => ny (q ▸ ha)⟩
        · rw [tk, ← List.append_assoc, List.mem_append, ← hml4 z]
          split
          · rename_i iy
            constructor
            · exact .inl
            · rintro (q | q)
              · exact q
              · rw [List.mem_singleton.mp q]; exact iy
          · rw [List.mem_append]
      · rintro σ H4 ⟨ml4, w5, rfl, k4, hm4, nd4, hml4⟩
        rw [List.length_map, List.take_length] at hml4
        have s4 : Same H H4 := fun b o e => by
          rw [k4 b (ne_of_none e flm)]; exact s3 b o e
        refine ⟨rs ++ [r], rows ++ [G], met ++ G, ml4, _, _, _, rfl, s4, hm4, (k4 lt nlt).trans ht3, by rw [List.length_append, List.length_append, hl]; rfl, fun j a row h1 h2 => ?_, nd4, hml4, fun z hz => ?_, ?_, by rw [List.length_append]; simp; omega⟩
        · have z : H3 a = some (.tup (row.map V.int)) := by
            rcases Nat.lt_or_ge j rs.length with q | q
            · rw [List.getElem?_append_left q] at h1
              rw [List.getElem?_append_left (by rw [← hl]; exact q)] at h2
              exact row3 j a row h1 h2
            · rw [List.getElem?_append_right q] at h1
              rw [List.getElem?_append_right (by rw [← hl]; exact q)] at h2
              have j0 : j - rs.length = 0 := by
                rcases Nat.eq_zero_or_pos (j - rs.length) with z | z
                · exact z
                · rw [List.getElem?_eq_none (by simp only [List.length_singleton]; omega)] at h1; cases h1
              rw [j0] at h1
              rw [← hl, j0] at h2
              cases h1; cases h2
              exact e3
          rw [k4 a (fun y => by rw [y, hm3] at z; cases z)]; exact z
        · rcases List.mem_append.mp hz with q | q
          · exact hin z q
          · exact gr.1 z q
        · rw [eq, List.append_assoc]; rfl
    · have e2 : onceF (gW word on ms) met (((i : Int) :: (rngL on.length).drop (i + 1)).filter (okW word ms)) = onceF (gW word on ms) met (((rngL on.length).drop (i + 1)).filter (okW word ms)) := by
        by_cases o : okW word ms (i : Int) = true
        · rw [List.filter_cons_of_pos o]
          refine once_skip ((hml _).mp ?_)
          refine Classical.byContradiction fun n => c ?_
          rw [o]; simp [n]
        · rw [List.filter_cons_of_neg o]
      rw [e2] at eq
      exact ⟨rs, rows, met, ml, _, _, _, rfl, s1, hm, ht, hl, hrow, nd, hml, hin, eq, by omega⟩
  · rintro σ H1 ⟨rs, rows, met, ml, v4, v5, v6, rfl, s1, hm, ht, hl, hrow, nd, hml, hin, eq, hri⟩
    rw [show ((on.length : Int)).toNat = on.length by omega, List.drop_of_length_le (by rw [rngL_len]; exact Nat.le_refl _)] at eq
    have eq : onceF (gW word on ms) [] ((rngL on.length).filter (okW word ms)) = rows := by rw [eq]; unfold onceF; simp
    refine ⟨_, rfl, lt, _, rfl, .inl ⟨SqL.of ht, fun r hr => ?_⟩⟩
    refine q r _ (s1.trans (same_put hr _)) (s1.free hr) ⟨rs, upd_same, by rw [eq]; exact hl, fun j a row h1 h2 => ?_⟩
    rw [eq] at h2
    exact up hr (hrow j a row h1 h2)
structure BiD (mg : Str → Option Value) : Prop extends BiW mg where
  dict_ : mg "dict" = none
theorem bt_dict : bootBuiltins "dict" = some (.type "dict") := by decide +kernel
structure RowsAt (H : Hp) (lr : Addr) (rs : List Addr) (rows : List (List Int)) : Prop where
  top : H lr = some (.lst (rs.map V.ref))
  len : rs.length = rows.length
  at_ : ∀ (i : Nat) (r : Addr) (row : List Int), rs[i]? = some r → rows[i]? = some row → H r = some (.lst (row.map V.int))
theorem RowsAt.same {H H' : Hp} {lr : Addr} {rs : List Addr} {rows : List (List Int)} (R : RowsAt H lr rs rows) (s : Same H H') : RowsAt H' lr rs rows := ⟨s _ _ R.top, R.len, fun i r row h1 h2 => s _ _ (R.at_ i r row h1 h2)⟩
def DictIs (kvs : List (Key × V)) (mt : Int → Option Int) : Prop := ∀ x : Int, 0 ≤ x → (valV kvs (.inl x)).getD .non = mV (mt x)
def spRowsOf : Sp := fun vs H Q _ => ∃ (p : Addr) (on : List Int) (ms : List (Option Int)), vs = [.ref p] ∧ SkAt H p on ms ∧
  ∀ lr rs H', Same H H' → H lr = none → (∀ r ∈ rs, H r = none) → RowsAt H' lr rs (patsL on) → Q (.ref lr) H'
theorem pats_len (on : List Int) : (patsL on).length ≤ on.length := by
  have := onceF_len (g := patL on) (rngL on.length) []
  rw [rngL_len] at this; exact this
theorem _root_.PySem.Paired.imp {α β : Type} {F G : α → β → Prop} {l₁ : List α} {l₂ : List β} (h : Paired F l₁ l₂) (k : ∀ a b, F a b → G a b) : Paired G l₁ l₂ := by
  induction h with
  | nil => exact .nil
  | cons q _ ih => exact .cons (k _ _ q) ih
theorem scRowsOf : FnScope ["skin", "row"] ["skin"] (defScope s__law_rows_of) := ⟨rfl, rfl, rfl, by decide +kernel, rfl, by decide +kernel, by decide +kernel⟩
theorem ok_rowsOf (B : BiD mg) (FLW : Fn P w K mg base "_law_walks" ["skin", "word"] 4 spWalks) (F : Fun K "_law_rows_of" "_law_rows_of" s__law_rows_of f fd) : FnOk P w K mg base CX0 5 f fd ["skin"] spRowsOf := by
  refine F.ok scRowsOf (fun vs H Q E h => ?_) (fun cdv A outer s H vs Q E hr h => ?_)
  · obtain ⟨p, on, ms, rfl, _⟩ := h; rfl
  obtain ⟨p, on, ms, rfl, S, q⟩ := h
  have sk := S.ok
  have hle := sk.le
  refine ⟨_, (pss_one (ps_ret (pe_lc (own := [("row", 1)]) (g := gName 1) rfl scRowsOf.nd (pi_tup (pe_callF FLW hr (by decide) (pa_cons (pv 0) (pa_cons pe_str pa_nil)))) (blkOk_by (own := [("row", 1)]) (N := ["skin", "row"]) (sc := (defScope s__law_rows_of)) (by decide +kernel)) (fun _ _ _ _ _ => (pg_name (i := 1) scRowsOf.nd rfl (Or.inl rfl))) (fun _ _ _ _ _ => pts_nil) (fun _ _ _ _ _ => (pe_callTy (call_list_ofK (K := K) rfl) rfl B.list_ bt_list (pa_cons (pv 1) pa_nil)))))), ?_⟩
  refine ⟨_, rfl, p, on, ms, "patch", rfl, S, .inr (.inr (.inl rfl)), fun rt H1 s1 f1 R1 => ?_⟩
  have eW : onceF (gW "patch" on ms) [] ((rngL on.length).filter (okW "patch" ms)) = patsL on := by
    have e1 : (rngL on.length).filter (okW "patch" ms) = rngL on.length := List.filter_eq_self.mpr fun x _ => by unfold okW; rw [show decide (("patch" : Str) ≠ "rim") = true from by decide]; rfl
    rw [e1]; unfold patsL
    exact onceF_congr _ _ _ (fun h _ => by unfold gW; rw [if_neg (by decide), if_pos rfl]) (fun x => Iff.rfl)
  rw [eW] at R1
  obtain ⟨ts, k1, k2, k3⟩ := R1
  have hpl := pats_len on
  refine ⟨rt, rfl, ⟨_, SqT.of k1⟩, fun D hD => ?_⟩
  refine lc_tup (K := K) (a := rt) (xs := ts.map V.ref) (Pv := fun i H2 => Same H1 H2 ∧ ∃ rs : List Addr, H2 D = some (.lst (rs.map V.ref)) ∧ rs.length = i ∧ (∀ r ∈ rs, H1 r = none ∧ r ≠ D) ∧ ∀ (j : Nat) r row, rs[j]? = some r → (patsL on)[j]? = some row → H2 r = some (.lst (row.map V.int)))
    ⟨same_put hD _, [], upd_same, rfl, (fun r h => by cases h), fun j r row h => by simp at h⟩ (fun i H2 _ pv => SqT.of (pv.1 _ _ k1)) ?_ ?_
  · rintro i x H2 hx ⟨s2, rs, g1, g2, g3, g4⟩
    rw [List.getElem?_map] at hx
    obtain ⟨a, ha, rfl⟩ := Option.map_eq_some_iff.mp hx
    have hi : i < (patsL on).length := by rw [← k2]; exact (List.getElem?_eq_some_iff.mp ha).1
    have er : (patsL on)[i]? = some (patsL on)[i] := List.getElem?_eq_getElem hi
    refine ⟨rfl, yesT ?_⟩
    refine ⟨_, rfl, a, _, rfl, .inr (SqT.of (s2 _ _ (k3 i a _ ha er))), fun l hl => ?_⟩
    have nl : l ≠ D := fun z => by rw [z, g1] at hl; cases hl
    refine ⟨rs.map V.ref, up hl g1, by rw [List.length_map, g2, sizeLine_eq]; omega, same_set (s2.trans (same_put hl _)) hD, rs ++ [l], by rw [upd_same, List.map_append]; rfl, by simp [g2], fun r hr => ?_, fun j r row h1 h2 => ?_⟩
    · rcases List.mem_append.mp hr with z | z
      · exact g3 r z
      · rw [List.mem_singleton.mp z]; exact ⟨s2.free hl, nl⟩
    · by_cases hj : j < rs.length
      · rw [List.getElem?_append_left hj] at h1
        have z := g3 r (List.mem_of_getElem? h1)
        rw [upd_ne z.2]; exact up hl (g4 j r row h1 h2)
      · have ej : j = i := by
          have := (List.getElem?_eq_some_iff.mp h1).1
          simp at this; omega
        subst ej
        rw [List.getElem?_append_right (by omega), g2, Nat.sub_self] at h1
        obtain rfl : l = r := by simpa using h1
        rw [er] at h2
        cases h2
        rw [upd_ne nl, upd_same]
  · rintro H2 ⟨s2, rs, g1, g2, g3, g4⟩
    rw [List.length_map, k2] at g2
    exact q D rs H2 (s1.trans s2) (s1.free hD) (fun r hr => s1.free (g3 r hr).1) ⟨g1, g2, g4⟩
theorem scPairsOf : FnScope ["skin", "half", "mate"] ["skin"] (defScope s__law_pairs_of) := ⟨rfl, rfl, rfl, by decide +kernel, rfl, by decide +kernel, by decide +kernel⟩
def prL (ms : List (Option Int)) (i : Nat) : List (Key × V) := (rngL i).filterMap fun h => (lkM ms h).map fun m => (Sum.inl h, V.int m)
theorem prL_succ (ms : List (Option Int)) (i : Nat) : prL ms (i + 1) = prL ms i ++ (match lkM ms (i : Int) with | none => [] | some m => [(Sum.inl (i : Int), V.int m)]) := by
  unfold prL
  rw [rngL_succ, List.filterMap_append]
  congr 1
  cases e : lkM ms (i : Int) <;> simp [e]
theorem prL_len (ms : List (Option Int)) (i : Nat) : (prL ms i).length ≤ i := by
  have := List.length_filterMap_le (fun h : Int => (lkM ms h).map fun m => ((Sum.inl h : Key), V.int m)) (rngL i)
  rw [rngL_len] at this; exact this
theorem prL_val (ms : List (Option Int)) (x : Int) : ∀ i : Nat, valV (prL ms i) (.inl x) = if InR i x then (lkM ms x).map V.int else none
  | 0 => by
    rw [if_neg (by unfold InR; omega)]; rfl
  | i + 1 => by
    rw [prL_succ]
    have ih := prL_val ms x i
    have key : ∀ l l' : List (Key × V), valV (l ++ l') (.inl x) = (valV l (.inl x)).or (valV l' (.inl x)) := fun l l' => by
      induction l with
      | nil => rfl
      | cons p r ih2 =>
        rw [List.cons_append]
        by_cases e : p.1 = .inl x
        · rw [valV_pos e, valV_pos e]; rfl
        · rw [valV_neg e, valV_neg e, ih2]
    rw [key, ih]
    by_cases h1 : InR i x
    · rw [if_pos h1, if_pos (by unfold InR at h1 ⊢; omega)]
      cases e : lkM ms x with
      | some m => rfl
      | none =>
        cases e2 : lkM ms (i : Int) with
        | none => rfl
        | some m => rw [show valV [((Sum.inl (i : Int) : Key), V.int m)] (.inl x) = none from by rw [valV_neg (fun z => by have := Sum.inl.inj z; unfold InR at h1; omega)]; rfl]; rfl
    · rw [if_neg h1]
      by_cases h2 : x = (i : Int)
      · subst h2
        rw [if_pos (by unfold InR; omega)]
        cases e2 : lkM ms (i : Int) with
        | none => rfl
        | some m => exact valV_pos rfl
      · rw [if_neg (by unfold InR at h1 ⊢; omega)]
        cases e2 : lkM ms (i : Int) with
        | none => rfl
        | some m => rw [show valV [((Sum.inl (i : Int) : Key), V.int m)] (.inl x) = none from by rw [valV_neg (fun z => h2 (Sum.inl.inj z).symm)]; rfl]; rfl
theorem prL_merge (ms : List (Option Int)) : ∀ i : Nat, mergeK [] (prL ms i) = prL ms i
  | 0 => rfl
  | i + 1 => by
    rw [prL_succ]
    have ih := prL_merge ms i
    cases e : lkM ms (i : Int) with
    | none => rw [List.append_nil]; exact ih
    | some m =>
      show mergeK [] (prL ms i ++ [(Sum.inl (i : Int), V.int m)]) = prL ms i ++ [(Sum.inl (i : Int), V.int m)]
      unfold mergeK at ih ⊢
      rw [List.foldl_append, ih]
      show putK (prL ms i) (Sum.inl (i : Int)) (V.int m) = _
      rw [putK_new]
      rw [prL_val, if_neg (by unfold InR; omega)]
def spPairsOf : Sp := fun vs H Q _ => ∃ (p : Addr) (on : List Int) (ms : List (Option Int)), vs = [.ref p] ∧ SkAt H p on ms ∧
  ∀ pd kvs H', Same H H' → H pd = none → H' pd = some (.dK kvs) → DictIs kvs (lkM ms) → kvs.length ≤ 400 → Q (.ref pd) H'
theorem ok_pairsOf (B : BiD mg) (F : Fun K "_law_pairs_of" "_law_pairs_of" s__law_pairs_of f fd) : FnOk P w K mg base CX0 1 f fd ["skin"] spPairsOf := by
  refine F.ok scPairsOf (fun vs H Q E h => ?_) (fun cdv A outer s H vs Q E hr h => ?_)
  · obtain ⟨p, on, ms, rfl, _⟩ := h; rfl
  obtain ⟨p, on, ms, rfl, S, q⟩ := h
  obtain ⟨sk, po, pm, h1, h2, h3⟩ := id S
  have hle := sk.le
  have hml := sk.len
  have hlm : (ms.map mV).length = on.length := by rw [List.length_map, sk.len]
  refine ⟨_, (pss_one (ps_ret (pe_callTy (call_dictP rfl) rfl B.dict_ bt_dict (pa_cons (pe_lc (own := [("half", 1), ("mate", 2)]) (g := gTup K 2 (gCons (gName 1) (gCons (gName 2) gNil))) rfl scPairsOf.nd (pi_enumT rfl B.enumerate_ (pa_cons (pe_ix ix_tup (pv 0) pe_int (fun _ _ => rfl)) pa_nil)) (blkOk_by (own := [("half", 1), ("mate", 2)]) (N := ["skin", "half", "mate"]) (sc := (defScope s__law_pairs_of)) (by decide +kernel)) (fun _ _ _ _ _ => (pg_tup rfl (pgs_cons (pg_name (i := 1) scPairsOf.nd rfl (Or.inl rfl)) (pgs_cons (pg_name (i := 2) scPairsOf.nd rfl (Or.inl rfl)) pgs_nil)))) (fun _ _ _ _ _ => (pts_one (pt_cmpR op_notN (pv 2) pe_non (nomark _)))) (fun _ _ _ _ _ => (pe_tup (pa_cons (pv 1) (pa_cons (pv 2) pa_nil))))) pa_nil)))), ?_⟩
  refine ⟨_, rfl, p, _, _, .ref pm, rfl, rfl, SqT.of h1, at1 _ _ _, pm, _, rfl, SqT.of h3, fun D hD => ?_⟩
  refine lc_enumT (K := K) (a := pm) (xs := ms.map mV) (Pv := fun i H1 => Same H H1 ∧ ∃ ts : List Addr, H1 D = some (.lst (ts.map V.ref)) ∧ Paired (fun t (kv : Key × V) => H1 t = some (.tup [kV kv.1, kv.2]) ∧ t ≠ D) ts (prL ms i))
    ⟨same_put hD _, [], upd_same, .nil⟩ (fun i H1 _ pv => SqT.of (pv.1 _ _ h3)) ?_ ?_
  · rintro i x T1 H1 hx ⟨s1, ts, g1, g2⟩ hT1
    obtain ⟨hi, ex⟩ := List.getElem?_eq_some_iff.mp hx
    have hi' : i < on.length := by rw [← hlm]; exact hi
    have e1 : x = mV (lkM ms (i : Int)) := by
      have := get_mV (ms := ms) (i := i) (by rw [sk.len]; exact hi')
      rw [hx] at this
      rw [Option.some.inj this]
      unfold lkM
      rw [show ((i : Int)).toNat = i by omega, List.getElem?_eq_getElem (by rw [sk.len]; exact hi')]; rfl
    subst e1
    have nT : D ≠ T1 := ne_of_none g1 hT1
    refine ⟨T1, _, rfl, SqT.of upd_same, rfl, _, _, rfl, _, _, rfl, rfl, rfl, ?_⟩
    have s2 := s1.trans (same_put hT1 (.tup [.int (i : Nat), mV (lkM ms (i : Int))]))
    have s12 := same_put hT1 (.tup [.int (i : Nat), mV (lkM ms (i : Int))])
    have g1' := up hT1 g1 (o := .tup [.int (i : Nat), mV (lkM ms (i : Int))])
    generalize upd H1 T1 (.tup [.int (i : Nat), mV (lkM ms (i : Int))]) = H2 at s2 s12 g1' ⊢
    have g2' : Paired (fun t (kv : Key × V) => H2 t = some (.tup [kV kv.1, kv.2]) ∧ t ≠ D) ts (prL ms i) := g2.imp fun t kv z => ⟨s12 _ _ z.1, z.2⟩
    refine ⟨_, rfl, rfl, _, rfl, ?_⟩
    have hpl := prL_len ms i
    have htl : ts.length = (prL ms i).length := Paired.length g2
    cases e : lkM ms (i : Int) with
    | none =>
      refine itN rfl ⟨s2, ts, g1', ?_⟩
      rw [prL_succ, e, List.append_nil]; exact g2'
    | some m =>
      refine itP rfl ⟨_, rfl, _, rfl, (by show 2 ≤ sizeLine; decide), fun tp htp => ?_⟩
      have ntp : tp ≠ D := (ne_of_none g1' htp).symm
      refine ⟨ts.map V.ref, up htp g1', by rw [List.length_map, htl, sizeLine_eq]; omega, same_set (s2.trans (same_put htp _)) hD, ts ++ [tp], by rw [upd_same, List.map_append]; rfl, ?_⟩
      rw [prL_succ, e]
      refine Paired.snoc (g2'.imp fun t kv z => ⟨by rw [upd_ne z.2]; exact up htp z.1, z.2⟩) ⟨by rw [upd_ne ntp, upd_same]; rfl, ntp⟩
  · rintro H1 ⟨s1, ts, g1, g2⟩
    rw [hlm] at g2
    refine ⟨D, ts, prL ms on.length, rfl, SqL.of g1, g2.imp fun t kv z => SqT.of z.1, fun pd hpd => ?_⟩
    rw [prL_merge]
    refine q pd _ _ (s1.trans (same_put hpd _)) (s1.free hpd) upd_same (fun x hx => ?_) (Nat.le_trans (prL_len ms _) hle)
    rw [prL_val]
    by_cases hr0 : InR on.length x
    · rw [if_pos hr0]
      cases lkM ms x <;> rfl
    · rw [if_neg hr0, lkM_out (by unfold InR at hr0; omega)]; rfl
end
end Hs
set_option Elab.async false
set_option linter.all false
set_option maxRecDepth 100000
set_option maxHeartbeats 2000000
namespace Hs
open PySem L2
section
variable {P : Program} {w : World} {K : PySem.W.Frag} {mg : Str → Option Value} {base : Heap} {f : Addr} {fd : FuncData} {C : CsA} {S fH : Addr} {tM : Tok}
theorem scPut : FnScope ["rows", "name", "new", "more", "row"] ["rows", "name", "new", "more"] (defScope s__law_put) := ⟨rfl, rfl, rfl, by decide +kernel, rfl, by decide +kernel, by decide +kernel⟩
def putRow (u v : List Int) (a new more : Int) : List Int := if more = 1 then u ++ a :: new :: v else u ++ new :: a :: v
def spPut : Sp := fun vs H Q _ => ∃ (lr : Addr) (rs : List Addr) (rows : List (List Int)) (name new more : Int) (i : Nat) (u v : List Int), vs = [.ref lr, .int name, .int new, .int more] ∧ RowsAt H lr rs rows ∧ rows[i]? = some (u ++ name :: v) ∧ name ∉ u ∧ (∀ (j : Nat) row, j < i → rows[j]? = some row → name ∉ row) ∧ (more = 0 ∨ more = 1) ∧ (∀ row ∈ rows, row.length ≤ 1000) ∧
  ∀ r, rs[i]? = some r → Q .non (upd H r (.lst ((putRow u v name new more).map V.int)))
theorem ok_put (B : Bi mg) (F : Fun K "_law_put" "_law_put" s__law_put f fd) : FnOk P w K mg base CX0 1 f fd ["rows", "name", "new", "more"] spPut := by
  refine F.ok scPut (fun vs H Q E h => ?_) (fun cdv A outer s H vs Q E hr h => ?_)
  · obtain ⟨lr, rs, rows, name, new, more, i, u, v, rfl, _⟩ := h; rfl
  obtain ⟨lr, rs, rows, name, new, more, i, u, v, rfl, R, hi, nu, hj, hm, hz, q⟩ := h
  refine ⟨_, (pss_one (ps_for PassesOwn.never rfl (pi_list (pv 0)) (pg_name (i := 4) scPut.nd rfl (Or.inl rfl))
   (pss_one (ps_if (pt_cmpR op_in_seq (pv 1) (pv 4) rfl)
   (pss_cons (ps_expr (pe_bm PySem.F.plainAttrs_list PySem.F.slot_list_insert PySem.F.type_list_insert mt_insert (pv 4) (pa_cons (pe_op op_add (pe_bm PySem.F.plainAttrs_list PySem.F.slot_list_index PySem.F.type_list_index mt_index (pv 4) (pa_cons (pv 1) pa_nil)) (pv 3)) (pa_cons (pv 2) pa_nil))))
   (pss_one ps_retN))
   pss_nil)))), ?_⟩
  have hil : i < rows.length := (List.getElem?_eq_some_iff.mp hi).1
  refine ⟨_, rfl, lr, rfl, ⟨_, SqL.of R.top⟩, for_list (K := K) (a := lr) (xs := rs.map V.ref) (fun j σ H' => ∃ v4 : Option V, σ = [some (.ref lr), some (.int name), some (.int new), some (.int more), v4] ∧ H' = H ∧ j ≤ i)
    ⟨_, rfl, rfl, Nat.zero_le _⟩ (fun j σ H' _ ⟨_, _, z, _⟩ => by rw [z]; exact SqL.of R.top) ?_ ?_⟩
  · rintro j x σ H' hx ⟨v4, rfl, rfl, hji⟩
    rw [List.getElem?_map] at hx
    obtain ⟨r, hr0, rfl⟩ := Option.map_eq_some_iff.mp hx
    have hjl : j < rows.length := by omega
    have er : rows[j]? = some rows[j] := List.getElem?_eq_getElem hjl
    have hrow := R.at_ j r _ hr0 er
    refine ⟨_, rfl, _, rfl, r, _, rfl, .inl (SqL.of hrow), rfl, flat_map _, _, rfl, ?_⟩
    rw [in_ints]
    by_cases e : j = i
    · subst e
      have eR : rows[j] = u ++ name :: v := by rw [er] at hi; exact Option.some.inj hi
      rw [eR] at hrow ⊢
      refine itP (by simp) ?_
      have hl : (u ++ name :: v).length ≤ 1000 := hz _ (List.mem_of_getElem? hi)
      refine ⟨_, rfl, .inl ⟨rfl, _, SqL.of hrow⟩, _, rfl, .inl ⟨rfl, _, SqL.of hrow⟩, _, rfl, ?_⟩
      refine ⟨r, (u ++ name :: v).map V.int, .int name, u.length, .int name, rfl, rfl, SqL.of hrow, rfl, flat_map _, ?_, eqV_self name, fun m z' hm' hz' => ?_, ?_⟩
      · rw [List.getElem?_map, List.getElem?_append_right (Nat.le_refl _)]; simp
      · rw [List.getElem?_map, List.getElem?_append_left hm'] at hz'
        obtain ⟨w', hw, rfl⟩ := Option.map_eq_some_iff.mp hz'
        exact eqV_ne fun c => nu (c ▸ List.mem_of_getElem? hw)
      have q := q r hr0
      unfold putRow at q
      rcases hm with rfl | rfl
      · refine ⟨_, rfl, _, _, rfl, rfl, _, rfl, r, _, _, _, rfl, rfl, hrow, by omega, by simp; omega, by rw [List.length_map, sizeLine_eq]; omega, ?_⟩
        rw [if_neg (by decide)] at q
        have e2 : List.take ((u.length : Int) + 0).toNat ((u ++ name :: v).map V.int) ++ V.int new :: List.drop ((u.length : Int) + 0).toNat ((u ++ name :: v).map V.int) = (u ++ new :: name :: v).map V.int := by
          rw [show ((u.length : Int) + 0).toNat = u.length by omega, ← List.map_take, ← List.map_drop, List.take_left, List.drop_left]; simp
        rw [e2]; exact q
      · refine ⟨_, rfl, _, _, rfl, rfl, _, rfl, r, _, _, _, rfl, rfl, hrow, by omega, by simp; omega, by rw [List.length_map, sizeLine_eq]; omega, ?_⟩
        rw [if_pos rfl] at q
        have e2 : List.take ((u.length : Int) + 1).toNat ((u ++ name :: v).map V.int) ++ V.int new :: List.drop ((u.length : Int) + 1).toNat ((u ++ name :: v).map V.int) = (u ++ name :: new :: v).map V.int := by
          rw [show ((u.length : Int) + 1).toNat = (u ++ [name]).length by simp <;> omega, ← List.map_take, ← List.map_drop, show u ++ name :: v = (u ++ [name]) ++ v by simp, List.take_left, List.drop_left]; simp
        rw [e2]; exact q
    · refine itN (by simp; exact hj j _ (by omega) er) ⟨_, rfl, rfl, by omega⟩
  · rintro σ H' ⟨v4, rfl, rfl, hji⟩
    rw [List.length_map, R.len] at hji
    omega
theorem scRimmed : FnScope ["skin", "half"] ["skin", "half"] (defScope s__law_is_rimmed) := ⟨rfl, rfl, rfl, by decide +kernel, rfl, by decide +kernel, by decide +kernel⟩
def spRimmed : Sp := fun vs H Q _ => ∃ (p : Addr) (on : List Int) (ms : List (Option Int)) (half : Int), vs = [.ref p, .int half] ∧ SkAt H p on ms ∧ InR on.length half ∧ ∀ H', Same H H' → Q (.bl (decide (lkM ms (fstK on ms half) = none))) H'
theorem ok_rimmed (B : Bi mg) (FLK : Fn P w K mg base "_law_knot" ["skin", "half"] 2 (spInT gKnot)) (F : Fun K "_law_is_rimmed" "_law_is_rimmed" s__law_is_rimmed f fd) : FnOk P w K mg base CX0 3 f fd ["skin", "half"] spRimmed := by
  refine F.ok scRimmed (fun vs H Q E h => ?_) (fun cdv A outer s H vs Q E hr h => ?_)
  · obtain ⟨p, on, ms, half, rfl, _⟩ := h; rfl
  obtain ⟨p, on, ms, half, rfl, S, g, q⟩ := h
  obtain ⟨sk, po, pm, h1, h2, h3⟩ := id S
  refine ⟨_, (pss_one (ps_ret (pe_cmpR op_isN (pe_ix ix_tup (pe_ix ix_tup (pv 0) pe_int (fun _ _ => rfl)) (pe_ix ix_tup (pe_callF FLK hr (by decide) (pa_cons (pv 0) (pa_cons (pv 1) pa_nil))) pe_int (fun _ _ => rfl)) (fun _ _ => rfl)) pe_non (nomark _)))), ?_⟩
  refine ⟨_, rfl, p, _, _, .ref pm, rfl, rfl, SqT.of h1, at1 _ _ _, _, rfl, _, rfl, p, on, ms, half, rfl, S, g, fun r H1 s1 f1 e1 => ?_⟩
  obtain ⟨kr, ek⟩ := (sk.knot g).1.head
  unfold gKnot at e1
  rw [ek] at e1
  have gf := (sk.fst g).1
  refine ⟨r, _, _, _, rfl, rfl, SqT.of e1, at0 _ _, pm, _, _, _, rfl, rfl, SqT.of (s1 _ _ h3), at_lkM gf.1 (by rw [sk.len]; exact gf.2), rfl, ?_⟩
  have := q H1 s1
  cases e : lkM ms (fstK on ms half) with
  | none => rw [e] at this; exact this
  | some m => rw [e] at this; exact this
theorem scLeftO : FnScope ["rows", "gone", "found", "row", "name"] ["rows", "gone"] (defScope s__law_left_out) := ⟨rfl, rfl, rfl, by decide +kernel, rfl, by decide +kernel, by decide +kernel⟩
theorem inV_opts (m : Int) : ∀ gs : List (Option Int), inV (.int m) (gs.map mV) = decide (some m ∈ gs)
  | [] => by simp [inV]
  | o :: gs => by
    have h := inV_opts m gs
    cases o with
    | none => simp [inV, eqV, mV] at h ⊢; simp [h]
    | some x =>
      by_cases e : x = m
      · subst e; simp [inV, eqV, mV]
      · have e2 : ¬ m = x := fun z => e z.symm
        simp [inV, eqV, mV] at h ⊢
        simp [e, e2, h]
theorem notin_opts (m : Int) (gs : List (Option Int)) : (if true = true then !inV (.int m) (gs.map mV) else inV (.int m) (gs.map mV)) = decide (m ∉ gs.filterMap id) := by
  rw [if_pos rfl, inV_opts]
  have e : some m ∈ gs ↔ m ∈ gs.filterMap id := ⟨fun h => List.mem_filterMap.mpr ⟨_, h, rfl⟩, fun z => by
    obtain ⟨o, ho, e⟩ := List.mem_filterMap.mp z
    exact e ▸ ho⟩
  by_cases h : some m ∈ gs
  · rw [decide_eq_true h, decide_eq_false (show ¬ (m ∉ gs.filterMap id) from fun z => z (e.mp h))]; rfl
  · rw [decide_eq_false h, decide_eq_true (show m ∉ gs.filterMap id from fun z => h (e.mpr z))]; rfl
theorem flat_opts (gs : List (Option Int)) : (gs.map mV).all flatV = true := by
  rw [List.all_map]; exact List.all_eq_true.mpr fun o _ => by cases o <;> rfl
def spLeftO (K : PySem.W.Frag) : Sp := fun vs H Q _ => ∃ (lr pg : Addr) (rs : List Addr) (rows : List (List Int)) (gs : List (Option Int)), vs = [.ref lr, .ref pg] ∧ RowsAt H lr rs rows ∧ SqT K H pg (gs.map mV) ∧ rows.length ≤ 1000 ∧ (∀ row ∈ rows, row.length ≤ 1000) ∧
  ∀ lr' rs' H', Same H H' → H lr' = none → (∀ r ∈ rs', H r = none) → RowsAt H' lr' rs' (leftOut (gs.filterMap id) rows) → Q (.ref lr') H'
theorem ok_leftO (B : Bi mg) (F : Fun K "_law_left_out" "_law_left_out" s__law_left_out f fd) : FnOk P w K mg base CX0 1 f fd ["rows", "gone"] (spLeftO K) := by
  refine F.ok scLeftO (fun vs H Q E h => ?_) (fun cdv A outer s H vs Q E hr h => ?_)
  · obtain ⟨lr, pg, rs, rows, gs, rfl, _⟩ := h; rfl
  obtain ⟨lr, pg, rs, rows, gs, rfl, R, hg, hz, hzr, q⟩ := h
  refine ⟨_, (pss_cons (ps_setLc (i := 2) (own := [("row", 3)]) (g := gName 3) rfl scLeftO.nd rfl rfl (sw_true rfl rfl rfl rfl) (pi_list (pv 0)) (blkOk_by (own := [("row", 3)]) (N := ["rows", "gone", "found", "row", "name"]) (sc := (defScope s__law_left_out)) (by decide +kernel)) (fun _ _ _ _ _ => (pg_name (i := 3) scLeftO.nd rfl (Or.inl rfl))) (fun _ _ _ _ _ => pts_nil) (fun _ _ _ _ _ => (pe_lc (own := [("name", 4)]) (g := gName 4) rfl scLeftO.nd (pi_listK (K := K) rfl (pv 3)) (blkOk_by (own := [("name", 4)]) (N := ["rows", "gone", "found", "row", "name"]) (sc := ({ kind := ScopeKind.function, names := [(".0", NameKind.local), ("row", NameKind.local), ("gone", NameKind.cell)], isGenerator := false, isCoroutine := false } : Scope)) (by decide +kernel)) (fun _ _ _ _ _ => (pg_name (i := 4) scLeftO.nd rfl (Or.inl rfl))) (fun _ _ _ _ _ => (pts_one (pt_cmpR (op_notIn_seqK (K := K) rfl) (pv 4) (pv 1) rfl))) (fun _ _ _ _ _ => (pv 4)))))
   (pss_one (ps_ret (pe_lc (own := [("row", 3)]) (g := gName 3) rfl scLeftO.nd (pi_list (pv 2)) (blkOk_by (own := [("row", 3)]) (N := ["rows", "gone", "found", "row", "name"]) (sc := (defScope s__law_left_out)) (by decide +kernel)) (fun _ _ _ _ _ => (pg_name (i := 3) scLeftO.nd rfl (Or.inl rfl))) (fun _ _ _ _ _ => (pts_one (pt_cmpR (op_neNilK (K := K) rfl hr.units) (pv 3) (pe_lst pa_nil) (nomark _)))) (fun _ _ _ _ _ => (pv 3)))))), ?_⟩
  have hrl := R.len
  refine ⟨_, rfl, lr, rfl, ⟨_, SqL.of R.top⟩, fun D hD => ?_⟩
  refine lc_list (K := K) (a := lr) (xs := rs.map V.ref) (Pv := fun i H2 => Same H H2 ∧ ∃ ts : List Addr, H2 D = some (.lst (ts.map V.ref)) ∧ ts.length = i ∧ (∀ r ∈ ts, H r = none ∧ r ≠ D) ∧ ∀ (j : Nat) r row, ts[j]? = some r → rows[j]? = some row → H2 r = some (.lst ((row.filter fun x => decide (x ∉ gs.filterMap id)).map V.int)))
    ⟨same_put hD _, [], upd_same, rfl, (fun r h => by cases h), fun j r row h => by simp at h⟩ (fun i H2 _ pv => SqL.of (pv.1 _ _ R.top)) ?_ ?_
  · rintro i x H2 hx ⟨s2, ts, g1, g2, g3, g4⟩
    rw [List.getElem?_map] at hx
    obtain ⟨a, ha, rfl⟩ := Option.map_eq_some_iff.mp hx
    have hi : i < rows.length := by rw [← hrl]; exact (List.getElem?_eq_some_iff.mp ha).1
    have er : rows[i]? = some rows[i] := List.getElem?_eq_getElem hi
    have hrow := R.at_ i a _ ha er
    have hzi := hzr _ (List.getElem_mem hi)
    refine ⟨rfl, yesT ?_⟩
    refine ⟨_, rfl, a, rfl, ⟨_, SqL.of (s2 _ _ hrow)⟩, fun D2 hD2 => ?_⟩
    have nD : D ≠ D2 := ne_of_none g1 hD2
    refine lc_list (K := K) (a := a) (xs := rows[i].map V.int) (Pv := fun k H3 => Same H2 H3 ∧ H3 D2 = some (.lst (((rows[i].take k).filter fun x => decide (x ∉ gs.filterMap id)).map V.int))) ⟨same_put hD2 _, upd_same⟩ (fun k H3 _ pv => SqL.of (pv.1 _ _ (s2 _ _ hrow))) ?_ ?_
    · rintro k y H3 hy ⟨s3, k1⟩
      rw [List.getElem?_map] at hy
      obtain ⟨n, hn, rfl⟩ := Option.map_eq_some_iff.mp hy
      have hkl := (List.getElem?_eq_some_iff.mp hn).1
      have tk : rows[i].take (k + 1) = rows[i].take k ++ [n] := by rw [List.take_succ, hn]; rfl
      refine ⟨rfl, _, rfl, _, rfl, pg, _, rfl, .inr ((s2.trans s3).seqT hg), rfl, flat_opts gs, _, rfl, ?_⟩
      rw [notin_opts]
      by_cases c : n ∉ gs.filterMap id
      · refine itP (decide_eq_true c) ⟨_, rfl, _, k1, ?_, ?_⟩
        · rw [List.length_map, sizeLine_eq]
          have := List.length_filter_le (fun x => decide (x ∉ gs.filterMap id)) (rows[i].take k)
          rw [List.length_take] at this
          omega
        · refine ⟨same_set s3 hD2, ?_⟩
          rw [upd_same, tk, List.filter_append, List.map_append]
          rw [show [n].filter (fun x => decide (x ∉ gs.filterMap id)) = [n] by rw [List.filter_cons_of_pos (p := fun x => decide (x ∉ gs.filterMap id)) (decide_eq_true c)]; rfl]; rfl
      · refine itN (decide_eq_false c) ⟨s3, ?_⟩
        rw [k1, tk, List.filter_append]
        rw [show [n].filter (fun x => decide (x ∉ gs.filterMap id)) = [] by rw [List.filter_cons_of_neg (p := fun x => decide (x ∉ gs.filterMap id)) (by rw [decide_eq_false c]; exact Bool.false_ne_true)]; rfl, List.append_nil]
    · rintro H3 ⟨s3, k1⟩
      rw [List.length_map, List.take_of_length_le (Nat.le_refl _)] at k1
      refine ⟨ts.map V.ref, s3 _ _ g1, by rw [List.length_map, g2, sizeLine_eq]; omega, same_set (s2.trans s3) hD, ts ++ [D2], by rw [upd_same, List.map_append]; rfl, by simp [g2], fun r hr0 => ?_, fun j r row h1 h2 => ?_⟩
      · rcases List.mem_append.mp hr0 with z | z
        · exact g3 r z
        · rw [List.mem_singleton.mp z]; exact ⟨s2.free hD2, nD.symm⟩
      · by_cases hj : j < ts.length
        · rw [List.getElem?_append_left hj] at h1
          have z := g3 r (List.mem_of_getElem? h1)
          rw [upd_ne z.2]; exact s3 _ _ (g4 j r row h1 h2)
        · have ej : j = i := by
            have := (List.getElem?_eq_some_iff.mp h1).1
            simp at this; omega
          subst ej
          rw [List.getElem?_append_right (by omega), g2, Nat.sub_self] at h1
          obtain rfl : D2 = r := by simpa using h1
          rw [er] at h2
          cases h2
          rw [upd_ne nD.symm]; exact k1
  rintro H2 ⟨s2, ts, g1, g2, g3, g4⟩
  rw [List.length_map, hrl] at g2
  refine ⟨_, rfl, D, rfl, ⟨_, SqL.of g1⟩, fun E1 hE => ?_⟩
  have nDE : D ≠ E1 := ne_of_none g1 hE
  let fl : List Int → List Int := fun row => row.filter fun x => decide (x ∉ gs.filterMap id)
  refine lc_list (K := K) (a := D) (xs := ts.map V.ref) (Pv := fun i H3 => Same H2 H3 ∧ ∃ us : List Addr, H3 E1 = some (.lst (us.map V.ref)) ∧ (∀ r ∈ us, H r = none) ∧ us.length = (((rows.take i).map fl).filter fun row => decide (row ≠ [])).length ∧ us.length ≤ i ∧ ∀ (j : Nat) r row, us[j]? = some r → (((rows.take i).map fl).filter fun row => decide (row ≠ []))[j]? = some row → H2 r = some (.lst (row.map V.int)))
    ⟨same_put hE _, [], upd_same, (fun r h => by cases h), rfl, Nat.le_refl _, fun j r row h => by simp at h⟩ (fun i H3 _ pv => SqL.of (pv.1 _ _ g1)) ?_ ?_
  · rintro i x H3 hx ⟨s3, us, k1, k2, k3, k5, k4⟩
    rw [List.getElem?_map] at hx
    obtain ⟨a, ha, rfl⟩ := Option.map_eq_some_iff.mp hx
    have hi : i < rows.length := by rw [← g2]; exact (List.getElem?_eq_some_iff.mp ha).1
    have er : rows[i]? = some rows[i] := List.getElem?_eq_getElem hi
    have hrow := g4 i a _ ha er
    have tk : rows.take (i + 1) = rows.take i ++ [rows[i]] := by rw [List.take_succ, er]; rfl
    refine ⟨rfl, _, rfl, (by show 0 ≤ sizeLine; decide), fun n0 hn0 => ⟨a, n0, _, rfl, rfl, SqL.of (up hn0 (s3 _ _ hrow)), SqL.of upd_same, _, rfl, ?_⟩⟩
    have s4 := s3.trans (same_put hn0 (.lst []))
    have k1' := up hn0 k1 (o := .lst [])
    generalize upd H3 n0 (.lst []) = H4 at s4 k1' ⊢
    by_cases c : fl rows[i] = []
    · refine itN (by rw [show (rows[i].filter fun x => decide (x ∉ gs.filterMap id)) = [] from c]; rfl) ⟨s4, us, k1', k2, ?_, by omega, ?_⟩
      · rw [tk, List.map_append, List.filter_append, show ([rows[i]].map fl).filter (fun row => decide (row ≠ [])) = [] by simp [c], List.append_nil]; exact k3
      · rw [tk, List.map_append, List.filter_append, show ([rows[i]].map fl).filter (fun row => decide (row ≠ [])) = [] by simp [c], List.append_nil]; exact k4
    · have ef : ([rows[i]].map fl).filter (fun row => decide (row ≠ [])) = [fl rows[i]] := by simp [c]
      refine itP (by rw [Bool.not_eq_true', List.isEmpty_eq_false_iff]; exact c) ⟨_, rfl, us.map V.ref, k1', by rw [List.length_map, sizeLine_eq]; omega, ?_, us ++ [a], by rw [upd_same, List.map_append]; rfl, ?_, ?_, by simp; omega, ?_⟩
      · exact same_set s4 hE
      · intro r hr0
        rcases List.mem_append.mp hr0 with z | z
        · exact k2 r z
        · rw [List.mem_singleton.mp z]; exact (g3 a (List.mem_of_getElem? ha)).1
      · rw [tk, List.map_append, List.filter_append, ef, List.length_append, List.length_append, k3]; rfl
      · intro j r row h1 h2
        rw [tk, List.map_append, List.filter_append, ef] at h2
        by_cases hj : j < us.length
        · rw [List.getElem?_append_left hj] at h1
          rw [List.getElem?_append_left (by omega)] at h2
          exact k4 j r row h1 h2
        · have ej : j = us.length := by
            have := (List.getElem?_eq_some_iff.mp h1).1
            simp at this; omega
          rw [ej, List.getElem?_append_right (Nat.le_refl _), Nat.sub_self] at h1
          rw [ej, k3, List.getElem?_append_right (Nat.le_refl _), Nat.sub_self] at h2
          obtain rfl : a = r := by simpa using h1
          obtain rfl : fl rows[i] = row := by simpa using h2
          exact hrow
  · rintro H3 ⟨s3, us, k1, k2, k3, k5, k4⟩
    rw [List.length_map, g2, List.take_of_length_le (Nat.le_refl _)] at k3 k4
    exact q E1 us H3 (s2.trans s3) (s2.free hE) k2 ⟨k1, k3, fun j r row h1 h2 => s3 _ _ (k4 j r row h1 h2)⟩
end
end Hs
set_option Elab.async false
set_option linter.all false
set_option maxRecDepth 100000
set_option maxHeartbeats 4000000
namespace Hs
open PySem L2
section
variable {P : Program} {w : World} {K : PySem.W.Frag} {mg : Str → Option Value} {base : Heap} {f : Addr} {fd : FuncData} {C : CsA} {S fH : Addr} {tM : Tok}
theorem scClosed : FnScope ["rows", "mates", "names", "row", "places", "place", "onward", "k", "name"] ["rows", "mates"] (defScope s__law_closed) := ⟨rfl, rfl, rfl, by decide +kernel, rfl, by decide +kernel, by decide +kernel⟩
def spClosed : Sp := fun vs H Q _ => ∃ (lr pd : Addr) (rs : List Addr) (rows : List (List Int)) (kvs : List (Key × V)) (mt : Int → Option Int) (nx : Int → Int), vs = [.ref lr, .ref pd] ∧ RowsAt H lr rs rows ∧ H pd = some (.dK kvs) ∧ DictIs kvs mt ∧ rows.flatten.Nodup ∧ rows.flatten.length ≤ 1000 ∧ (∀ x ∈ rows.flatten, 0 ≤ x) ∧ rows.length ≤ 1000 ∧ (∀ row ∈ rows, ∀ a b, NxRow row a b → nx a = b) ∧
  ∀ L r ro rm H', L.Perm rows.flatten → L.Pairwise (· < ·) → Same H H' → H' r = some (.tup [.ref ro, .ref rm]) → H' ro = some (.tup ((clOn L nx).map V.int)) → H' rm = some (.tup ((clMs L mt).map mV)) → Q (.ref r) H'
theorem flat_take {rows : List (List Int)} {i : Nat} {row : List Int} (h : rows[i]? = some row) : (rows.take (i + 1)).flatten = (rows.take i).flatten ++ row := by
  rw [List.take_succ, h]; simp
theorem flat_part {rows : List (List Int)} (i : Nat) : (rows.take i).flatten.length ≤ rows.flatten.length := by
  have : rows.flatten = (rows.take i).flatten ++ (rows.drop i).flatten := by rw [← List.flatten_append, List.take_append_drop]
  rw [this, List.length_append]; omega
theorem rep_int0 (n : Nat) : (List.replicate n [V.int 0]).flatten = (List.replicate n (0 : Int)).map V.int := by
  induction n with
  | zero => rfl
  | succ n ih => rw [List.replicate_succ, List.replicate_succ, List.flatten_cons, ih]; rfl
theorem ok_closed (B : BiD mg) (F : Fun K "_law_closed" "_law_closed" s__law_closed f fd) : FnOk P w K mg base CX0 1 f fd ["rows", "mates"] spClosed := by
  refine F.ok scClosed (fun vs H Q E h => ?_) (fun cdv A outer s H vs Q E hr h => ?_)
  · obtain ⟨lr, pd, rs, rows, kvs, mt, nx, rfl, _⟩ := h; rfl
  obtain ⟨lr, pd, rs, rows, kvs, mt, nx, rfl, R, hpd, hD, nd, hz, hpos, hzr, hnx, q⟩ := h
  refine ⟨_, (pss_cons (ps_set (i := 2) scClosed.nd rfl (Or.inl rfl) (pe_lst pa_nil))
   (pss_cons (ps_for PassesOwn.never rfl (pi_list (pv 0)) (pg_name (i := 3) scClosed.nd rfl (Or.inl rfl))
   (pss_one (ps_expr (pe_bm PySem.F.plainAttrs_list PySem.F.slot_list_extend PySem.F.type_list_extend mt_extend (pv 2) (pa_cons (pv 3) pa_nil)))))
   (pss_cons (ps_set (i := 2) scClosed.nd rfl (Or.inl rfl) (pe_callB cr_sortA rfl B.sorted_ bt_sorted (pa_cons (pv 2) pa_nil)))
   (pss_cons (ps_set (i := 4) scClosed.nd rfl (Or.inr rfl) pe_dnewK)
   (pss_cons (ps_for PassesOwn.never rfl (pi_range1 rfl B.range_ (pa_cons (pe_callB call_len_seq rfl B.len_ bt_len (pa_cons (pv 2) pa_nil)) pa_nil)) (pg_name (i := 5) scClosed.nd rfl (Or.inl rfl))
   (pss_one (ps_dput (hu_of hr) (pv 4) (pe_ix ix_list (pv 2) (pv 5) (fun _ _ => rfl)) (pv 5) rfl)))
   (pss_cons (ps_set (i := 6) scClosed.nd rfl (Or.inl rfl) (pe_op op_rep (pe_lst (pa_cons pe_int pa_nil)) (pe_callB call_len_seq rfl B.len_ bt_len (pa_cons (pv 2) pa_nil))))
   (pss_cons (ps_for PassesOwn.never rfl (pi_list (pv 0)) (pg_name (i := 3) scClosed.nd rfl (Or.inl rfl))
   (pss_one (ps_for PassesOwn.never rfl (pi_range1 rfl B.range_ (pa_cons (pe_callB call_len_seq rfl B.len_ bt_len (pa_cons (pv 3) pa_nil)) pa_nil)) (pg_name (i := 7) scClosed.nd rfl (Or.inl rfl))
   (pss_one (ps_asg (pe_dget (hu_of hr) (pv 4) (pe_ix ix_list (pv 3) (pv 7) (fun _ _ => rfl)) (fun _ _ => rfl)) (pg_sub (pv 6) (pe_dget (hu_of hr) (pv 4) (pe_ix ix_list (pv 3) (pe_op op_sub (pv 7) pe_int) (fun _ _ => rfl)) (fun _ _ => rfl)) set_list))))))
   (pss_one (ps_ret (pe_tup (pa_cons (pe_callTy call_tuple_of rfl B.tuple_ bt_tuple (pa_cons (pv 6) pa_nil)) (pa_cons (pe_callTy call_tuple_of rfl B.tuple_ bt_tuple (pa_cons (pe_lc (own := [("name", 8)]) (g := gName 8) rfl scClosed.nd (pi_list (pv 2)) (blkOk_by (own := [("name", 8)]) (N := ["rows", "mates", "names", "row", "places", "place", "onward", "k", "name"]) (sc := (defScope s__law_closed)) (by decide +kernel)) (fun _ _ _ _ _ => (pg_name (i := 8) scClosed.nd rfl (Or.inl rfl))) (fun _ _ _ _ _ => pts_nil) (fun _ _ _ _ _ => (pe_dget1 (hu_of hr) (pv 4) (pe_dget1 (hu_of hr) (pv 1) (pv 8) ⟨rfl, rfl, rfl, rfl⟩) ⟨rfl, rfl, rfl, rfl⟩))) pa_nil)) pa_nil)))))))))))), ?_⟩
  have hrl := R.len
  refine ⟨(by show 0 ≤ sizeLine; decide), fun ln hln => ?_⟩
  refine ⟨_, rfl, lr, rfl, ⟨_, SqL.of (up hln R.top)⟩, for_list (K := K) (a := lr) (xs := rs.map V.ref) (fun i σ H' => ∃ v5 : Option V, σ = [some (.ref lr), some (.ref pd), some (.ref ln), v5, none, none, none, none, none] ∧ Same H H' ∧ H' ln = some (.lst ((rows.take i).flatten.map V.int)))
    ⟨_, rfl, same_put hln _, upd_same⟩ (fun i σ H' _ ⟨_, _, z, _⟩ => SqL.of (z _ _ R.top)) ?_ ?_⟩
  · rintro i x σ H' hx ⟨v5, rfl, s1, hl⟩
    rw [List.getElem?_map] at hx
    obtain ⟨r, hr0, rfl⟩ := Option.map_eq_some_iff.mp hx
    have hi : i < rows.length := by rw [← hrl]; exact (List.getElem?_eq_some_iff.mp hr0).1
    have er : rows[i]? = some rows[i] := List.getElem?_eq_getElem hi
    have hrow := s1 _ _ (R.at_ i r _ hr0 er)
    have fp := flat_part (rows := rows) (i + 1)
    rw [flat_take er, List.length_append] at fp
    refine ⟨_, rfl, .inl ⟨rfl, _, SqL.of hl⟩, _, rfl, ln, r, _, _, rfl, rfl, hl, hrow, by rw [List.length_map, List.length_map, sizeLine_eq]; omega, _, rfl, same_set s1 hln, ?_⟩
    rw [upd_same, flat_take er, List.map_append]
  rintro σ H1 ⟨v5, rfl, s1, hl⟩
  rw [List.length_map, hrl, List.take_of_length_le (Nat.le_refl _)] at hl
  refine ⟨_, rfl, ln, _, rfl, SqL.of hl, fun L lL hperm hsrt hlL => ?_⟩
  have hLlen : L.length = rows.flatten.length := hperm.length_eq
  have ndL : L.Nodup := hperm.nodup_iff.mpr nd
  have ltL : L.Pairwise (· < ·) := by
    rw [List.pairwise_iff_getElem] at hsrt ⊢
    intro i j hi hj hij
    have h1 := hsrt i j hi hj hij
    have h2 : L[i] ≠ L[j] := fun e => by have := (List.getElem_inj ndL).mp e; omega
    omega
  have memL : ∀ x, x ∈ L ↔ x ∈ rows.flatten := fun x => hperm.mem_iff
  have s2 := s1.trans (same_put hlL (.lst (L.map V.int)))
  have gL := upd_same (H := H1) (a := lL) (o := .lst (L.map V.int))
  have fL : H lL = none := s1.free hlL
  generalize upd H1 lL (.lst (L.map V.int)) = H2 at s2 gL ⊢
  clear hl
  intro dp hdp
  have fdp : H dp = none := s2.free hdp
  have nLp : lL ≠ dp := ne_of_none gL hdp
  refine ⟨_, rfl, lL, _, rfl, .inl (SqL.of (up hdp gL)), ?_⟩
  rw [show ((L.map V.int).length : Int) = (L.length : Int) by rw [List.length_map]]
  refine ⟨_, rfl, by omega, by omega, for_range (lo := 0)
    (fun i σ H' => ∃ v6 : Option V, σ = [some (.ref lr), some (.ref pd), some (.ref lL), v5, some (.ref dp), v6, none, none, none] ∧ Same H H' ∧ H' lL = some (.lst (L.map V.int)) ∧ H' dp = some (.dK (numD (L.take i))))
    ⟨_, rfl, s2.trans (same_put hdp _), up hdp gL, upd_same⟩ ?_ ?_⟩
  · rintro i σ H' hi ⟨v6, rfl, s3, gL3, gd3⟩
    rw [Int.zero_add]
    have hi' : i < L.length := by omega
    have ei : L[i]? = some L[i] := List.getElem?_eq_getElem hi'
    have tk : L.take (i + 1) = L.take i ++ [L[i]] := by rw [List.take_succ, ei]; rfl
    have nin : L[i] ∉ L.take i := fun z => by
      obtain ⟨j, hj, e⟩ := List.getElem_of_mem z
      rw [List.getElem_take] at e
      have := (List.getElem_inj ndL).mp e
      rw [List.length_take] at hj
      omega
    refine ⟨_, rfl, _, rfl, _, rfl, _, rfl, lL, _, _, .int L[i], rfl, rfl, SqL.of gL3, atI_nat (by rw [List.getElem?_map, ei]; rfl), dp, _, rfl, DPut.k (k := .inl L[i]) gd3 (by rw [numD_len, List.length_take, sizeLine_eq]; omega), _, rfl, same_set s3 fdp, by rw [upd_ne nLp]; exact gL3, ?_⟩
    rw [upd_same, tk, ← numD_put nin, List.length_take, Nat.min_eq_left (by omega)]
  rintro σ H3 ⟨v6, rfl, s3, gL3, gd3⟩
  rw [show ((L.length : Int)).toNat = L.length by omega, List.take_of_length_le (Nat.le_refl _)] at gd3
  refine ⟨(by show 1 ≤ sizeLine; decide), fun l0 hl0 => ?_⟩
  refine ⟨_, rfl, lL, _, rfl, .inl (SqL.of (up hl0 gL3)), ?_⟩
  rw [show ((L.map V.int).length : Int) = (L.length : Int) by rw [List.length_map]]
  refine ⟨l0, _, _, rfl, rfl, upd_same, by omega, by omega, ?_, fun lo hlo => ?_⟩
  · show 1 * ((L.length : Int)).toNat ≤ sizeLine
    rw [sizeLine_eq]; omega
  rw [show ((L.length : Int)).toNat = L.length by omega, rep_int0]
  have s4 := (s3.trans (same_put hl0 (.lst [V.int 0]))).trans (same_put hlo (.lst ((List.replicate L.length (0 : Int)).map V.int)))
  have gL4 := up hlo (up hl0 gL3 (o := .lst [V.int 0])) (o := .lst ((List.replicate L.length (0 : Int)).map V.int))
  have gd4 := up hlo (up hl0 gd3 (o := .lst [V.int 0])) (o := .lst ((List.replicate L.length (0 : Int)).map V.int))
  have go4 := upd_same (H := upd H3 l0 (.lst [V.int 0])) (a := lo) (o := .lst ((List.replicate L.length (0 : Int)).map V.int))
  have flo : H lo = none := (s3.trans (same_put hl0 _)).free hlo
  generalize upd (upd H3 l0 (.lst [V.int 0])) lo (.lst ((List.replicate L.length (0 : Int)).map V.int)) = H4 at s4 gL4 gd4 go4 ⊢
  have nLo : lL ≠ lo := ne_of_none (up hl0 gL3) hlo
  have ndo : dp ≠ lo := ne_of_none (up hl0 gd3) hlo
  clear gL3 gd3
  refine ⟨_, rfl, lr, rfl, ⟨_, SqL.of (s4 _ _ R.top)⟩, for_list (K := K) (a := lr) (xs := rs.map V.ref) (fun i σ H' => ∃ (v5 v6 v7 : Option V) (ov : List Int), σ = [some (.ref lr), some (.ref pd), some (.ref lL), v5, some (.ref dp), v6, some (.ref lo), v7, none] ∧ Same H H' ∧ H' lL = some (.lst (L.map V.int)) ∧ H' dp = some (.dK (numD L)) ∧ H' lo = some (.lst (ov.map V.int)) ∧ ov.length = L.length ∧
      ∀ (j : Nat) row, j < i → rows[j]? = some row → ∀ a ∈ row, lk ov (rk L a) = rk L (nx a))
    ⟨_, _, _, _, rfl, s4, gL4, gd4, go4, by simp, fun j row hj => absurd hj (Nat.not_lt_zero _)⟩ (fun i σ H' _ ⟨_, _, _, _, _, z, _⟩ => SqL.of (z _ _ R.top)) ?_ ?_⟩
  · rintro i x σ H' hx ⟨v5, v6, v7, ov, rfl, s5, gL5, gd5, go5, hov, did⟩
    rw [List.getElem?_map] at hx
    obtain ⟨r, hr0, rfl⟩ := Option.map_eq_some_iff.mp hx
    have hi : i < rows.length := by rw [← hrl]; exact (List.getElem?_eq_some_iff.mp hr0).1
    have er : rows[i]? = some rows[i] := List.getElem?_eq_getElem hi
    have hrowm : rows[i] ∈ rows := List.getElem_mem hi
    have inL : ∀ a ∈ rows[i], a ∈ L := fun a ha => (memL a).mpr (List.mem_flatten.mpr ⟨_, hrowm, ha⟩)
    have hrow0 := R.at_ i r _ hr0 er
    have fp := flat_part (rows := rows) (i + 1)
    rw [flat_take er, List.length_append] at fp
    refine ⟨_, rfl, r, _, rfl, .inl (SqL.of (s5 _ _ hrow0)), ?_⟩
    rw [show ((rows[i].map V.int).length : Int) = (rows[i].length : Int) by rw [List.length_map]]
    refine ⟨_, rfl, by omega, by omega, for_range (lo := 0)
      (fun k σ H' => ∃ (v7 : Option V) (ov : List Int), σ = [some (.ref lr), some (.ref pd), some (.ref lL), some (.ref r), some (.ref dp), v6, some (.ref lo), v7, none] ∧ Same H H' ∧ H' lL = some (.lst (L.map V.int)) ∧ H' dp = some (.dK (numD L)) ∧ H' lo = some (.lst (ov.map V.int)) ∧ ov.length = L.length ∧
        (∀ (j : Nat) row, j < i → rows[j]? = some row → ∀ a ∈ row, lk ov (rk L a) = rk L (nx a)) ∧ ∀ (j : Nat) (a : Int), j < k → rows[i][prv rows[i].length j]? = some a → lk ov (rk L a) = rk L (nx a))
      ⟨_, _, rfl, s5, gL5, gd5, go5, hov, did, fun j a hj => absurd hj (Nat.not_lt_zero _)⟩ ?_ ?_⟩
    · rintro k σ H' hk ⟨v7, ov, rfl, s6, gL6, gd6, go6, hov, did, did2⟩
      rw [Int.zero_add]
      have hk' : k < rows[i].length := by omega
      obtain ⟨a, ha, haA⟩ := at_prv hk'
      have eb : rows[i][k]? = some rows[i][k] := List.getElem?_eq_getElem hk'
      have hab : NxRow rows[i] a rows[i][k] := ⟨k, hk', ha, eb⟩
      have na := hnx _ hrowm _ _ hab
      have aL := inL a (List.mem_of_getElem? ha)
      have bL := inL _ (List.getElem_mem hk')
      have hrow := s6 _ _ hrow0
      have ra := rk_rng aL
      refine ⟨_, rfl, _, rfl, _, rfl, r, _, _, .int rows[i][k], rfl, rfl, SqL.of hrow, atI_nat (by rw [List.getElem?_map, eb]; rfl), dp, .int (rk L rows[i][k]), rfl, (by have z := DGet.k (k := .inl rows[i][k]) gd6; rw [numD_val, if_pos bL] at z; exact z), ?_⟩
      refine ⟨_, rfl, _, rfl, _, rfl, _, rfl, _, _, rfl, rfl, r, _, _, .int a, rfl, rfl, SqL.of hrow, haA, dp, .int (rk L a), rfl, (by have z := DGet.k (k := .inl a) gd6; rw [numD_val, if_pos aL] at z; exact z), ?_⟩
      refine ⟨lo, _, _, (rk L a).toNat, rfl, rfl, go6, ix_in (n := L.length) (by rw [List.length_map, hov]) ra, ?_⟩
      rw [set_map]
      have key : ∀ c ∈ L, lk ov (rk L c) = rk L (nx c) ∨ c = a → lk (ov.set (rk L a).toNat (rk L rows[i][k])) (rk L c) = rk L (nx c) := fun c hc z => by
        rw [lk_setI (by rw [hov]; exact ra) (rk_rng hc).1]
        by_cases e : rk L c = rk L a
        · rw [if_pos e, rk_inj hc aL e, na]
        · rw [if_neg e]
          rcases z with z | z
          · exact z
          · exact absurd (by rw [z]) e
      refine ⟨_, _, rfl, same_set s6 flo, by rw [upd_ne nLo]; exact gL6, by rw [upd_ne ndo]; exact gd6, upd_same, by rw [List.length_set]; exact hov, fun j row hj hrw c hc => key c ((memL c).mpr (List.mem_flatten.mpr ⟨row, List.mem_of_getElem? hrw, hc⟩)) (.inl (did j row hj hrw c hc)), fun j c hj hc => ?_⟩
      refine key c (inL c (List.mem_of_getElem? hc)) ?_
      by_cases e : j = k
      · subst e; rw [ha] at hc; exact .inr (Option.some.inj hc).symm
      · exact .inl (did2 j c (by omega) hc)
    · rintro σ H' ⟨v7, ov, rfl, s6, gL6, gd6, go6, hov, did, did2⟩
      refine ⟨_, _, _, ov, rfl, s6, gL6, gd6, go6, hov, fun j row hj hrw a ha => ?_⟩
      by_cases e : j = i
      · subst e
        rw [er] at hrw
        cases hrw
        obtain ⟨b, j2, hj2, h1, _⟩ := nx_ex ha
        exact did2 j2 a (by omega) h1
      · exact did j row (by omega) hrw a ha
  rintro σ H5 ⟨v5, v6, v7, ov, rfl, s5, gL5, gd5, go5, hov, did⟩
  rw [List.length_map, hrl] at did
  have eO : ov = clOn L nx := cl_of ndL hov fun a ha => by
    obtain ⟨row, hrw, har⟩ := List.mem_flatten.mp ((memL a).mp ha)
    obtain ⟨j, hj, e⟩ := List.getElem_of_mem hrw
    exact did j row hj (by rw [List.getElem?_eq_getElem hj, e]) a har
  subst eO
  refine ⟨_, rfl, lo, _, rfl, .inl ⟨SqL.of go5, fun r1 hr1 => ?_⟩⟩
  have s6 := s5.trans (same_put hr1 (.tup ((clOn L nx).map V.int)))
  have gL6 := up hr1 gL5 (o := .tup ((clOn L nx).map V.int))
  have gd6 := up hr1 gd5 (o := .tup ((clOn L nx).map V.int))
  have g16 := upd_same (H := H5) (a := r1) (o := .tup ((clOn L nx).map V.int))
  generalize upd H5 r1 (.tup ((clOn L nx).map V.int)) = H6 at s6 gL6 gd6 g16 ⊢
  refine ⟨_, rfl, lL, rfl, ⟨_, SqL.of gL6⟩, fun D1 hD1 => ?_⟩
  refine lc_list (K := K) (a := lL) (xs := L.map V.int) (Pv := fun i H7 => Same H6 H7 ∧ H7 D1 = some (.lst (((clMs L mt).take i).map mV))) ⟨same_put hD1 _, upd_same⟩ (fun i H7 _ pv => SqL.of (pv.1 _ _ gL6)) ?_ ?_
  · rintro i x H7 hx ⟨s7, g7⟩
    rw [List.getElem?_map] at hx
    obtain ⟨a, ha, rfl⟩ := Option.map_eq_some_iff.mp hx
    have a0 := hpos a ((memL a).mp (List.mem_of_getElem? ha))
    have hd7 := (s6.trans s7) _ _ hpd
    have hp7 := s7 _ _ gd6
    refine ⟨rfl, yesT ?_⟩
    refine ⟨_, rfl, dp, rfl, .inl ⟨_, .inl hp7⟩, _, rfl, pd, rfl, .inl ⟨_, .inl hd7⟩, _, rfl, _, DGet.k (k := .inl a) hd7, ?_⟩
    refine ⟨valV (numD L) (oKey (mt a)), (by rw [hD a a0, mV_oKey]; exact DGet.k hp7), ?_⟩
    rw [numD_get]
    have hml : (clMs L mt).length = L.length := by unfold clMs; simp
    have hil := (List.getElem?_eq_some_iff.mp ha).1
    refine ⟨_, g7, by rw [List.length_map, List.length_take, sizeLine_eq]; omega, same_set s7 hD1, ?_⟩
    rw [upd_same]
    unfold clMs
    rw [map_at ha, List.map_append]
    cases rkO L (mt a) <;> rfl
  · rintro H7 ⟨s7, g7⟩
    rw [List.length_map, List.take_of_length_le (by unfold clMs; rw [List.length_map]; exact Nat.le_refl _)] at g7
    refine ⟨D1, _, rfl, .inl ⟨SqL.of g7, fun r2 hr2 => ⟨(by show 2 ≤ sizeLine; decide), fun r hr0 => ?_⟩⟩⟩
    exact q L r r1 r2 _ hperm ltL (((s6.trans s7).trans (same_put hr2 _)).trans (same_put hr0 _)) upd_same (up hr0 (up hr2 (s7 _ _ g16))) (up hr0 upd_same)
end
end Hs
set_option linter.all false
set_option maxRecDepth 100000
set_option maxHeartbeats 1000000
set_option linter.all false
set_option maxRecDepth 100000
set_option maxHeartbeats 1000000
namespace Hs
def dropR (h : Int) (rows : List (List Int)) : List (List Int) := rows.filter fun row => decide (h ∉ row)
section
variable {on : List Int} {ms : List (Option Int)} (S : SkinOk on ms)
include S
theorem SkinOk.pat_same {x y : Int} (gx : InR on.length x) (h : y ∈ patL on x) : ∀ z, z ∈ patL on y ↔ z ∈ patL on x := fun z => by
  obtain ⟨u, v, e⟩ := List.append_of_mem h
  rw [S.patS gx e, e]
  simp only [List.mem_cons, List.mem_append]
  constructor
  · rintro (h | h | h)
    · exact .inr (.inl h)
    · exact .inr (.inr h)
    · exact .inl h
  · rintro (h | h | h)
    · exact .inr (.inr h)
    · exact .inl h
    · exact .inr (.inl h)
theorem SkinOk.pat_sym {x y : Int} (gx : InR on.length x) (h : y ∈ patL on x) : x ∈ patL on y := (S.pat_same gx h x).mpr (S.self_pat gx)
theorem SkinOk.dropOk {h : Int} (g : InR on.length h) : RowsOk (dropR h (patsL on)) (fun x => InR on.length x ∧ x ∉ patL on h) (lk on) := by
  have R := S.rows
  refine ⟨?_, fun x => ?_, fun row hr a b n => R.nx row (List.mem_filter.mp hr).1 a b n⟩
  · have key : ∀ rows : List (List Int), (dropR h rows).flatten.Sublist rows.flatten := fun rows => by
      induction rows with
      | nil => exact List.Sublist.refl _
      | cons r rs ih =>
        unfold dropR at ih ⊢
        rw [List.filter_cons]
        split
        · rw [List.flatten_cons, List.flatten_cons]; exact List.Sublist.append (List.Sublist.refl _) ih
        · rw [List.flatten_cons]; exact ih.trans (List.sublist_append_right _ _)
    exact R.nd.sublist (key _)
  · constructor
    · intro hx
      obtain ⟨row, hr, hxr⟩ := List.mem_flatten.mp hx
      obtain ⟨hr, hn⟩ := List.mem_filter.mp hr
      have hn : h ∉ row := by simpa using hn
      obtain ⟨y, gy, rfl⟩ := pats_of hr
      refine ⟨(S.pat gy).2.2.1 x hxr, fun z => hn ?_⟩
      have gx := (S.pat gy).2.2.1 x hxr
      have z2 := S.pat_sym g z
      exact (S.pat_same gy hxr h).mp z2
    · rintro ⟨gx, hn⟩
      obtain ⟨row, hr, hxr⟩ := List.mem_flatten.mp ((R.mem x).mpr gx)
      refine List.mem_flatten.mpr ⟨row, List.mem_filter.mpr ⟨hr, ?_⟩, hxr⟩
      obtain ⟨y, gy, rfl⟩ := pats_of hr
      refine decide_eq_true fun z => hn ?_
      exact (S.pat_same gy z x).mpr hxr
theorem SkinOk.dropOk2 {h m : Int} (g : InR on.length h) (gm : InR on.length m) : RowsOk (dropR m (dropR h (patsL on))) (fun x => InR on.length x ∧ x ∉ patL on h ∧ x ∉ patL on m) (lk on) := by
  have R := S.dropOk g
  have R0 := S.rows
  refine ⟨?_, fun x => ?_, fun row hr a b n => R.nx row (List.mem_filter.mp hr).1 a b n⟩
  · have key : ∀ rows : List (List Int), (dropR m rows).flatten.Sublist rows.flatten := fun rows => by
      induction rows with
      | nil => exact List.Sublist.refl _
      | cons r rs ih =>
        unfold dropR at ih ⊢
        rw [List.filter_cons]
        split
        · rw [List.flatten_cons, List.flatten_cons]; exact List.Sublist.append (List.Sublist.refl _) ih
        · rw [List.flatten_cons]; exact ih.trans (List.sublist_append_right _ _)
    exact R.nd.sublist (key _)
  · constructor
    · intro hx
      obtain ⟨row, hr, hxr⟩ := List.mem_flatten.mp hx
      obtain ⟨hr, hn⟩ := List.mem_filter.mp hr
      have hn : m ∉ row := by simpa using hn
      have h1 := (R.mem x).mp (List.mem_flatten.mpr ⟨row, hr, hxr⟩)
      refine ⟨h1.1, h1.2, fun z => hn ?_⟩
      obtain ⟨y, gy, rfl⟩ := pats_of (List.mem_filter.mp hr).1
      exact (S.pat_same gy hxr m).mp (S.pat_sym gm z)
    · rintro ⟨gx, hn1, hn2⟩
      obtain ⟨row, hr, hxr⟩ := List.mem_flatten.mp ((R.mem x).mpr ⟨gx, hn1⟩)
      refine List.mem_flatten.mpr ⟨row, List.mem_filter.mpr ⟨hr, ?_⟩, hxr⟩
      obtain ⟨y, gy, rfl⟩ := pats_of (List.mem_filter.mp hr).1
      refine decide_eq_true fun z => hn2 ?_
      exact (S.pat_same gy z x).mpr hxr
end
theorem dropR_len (h : Int) (rows : List (List Int)) : (dropR h rows).length ≤ rows.length := List.length_filter_le _ _
def cutN (on : List Int) (h o : Int) : Int → Int := fun x => if x = ahd on h then (on.length : Int) + 1 else if x = ahd on o then (on.length : Int) else if x = (on.length : Int) then (if h = o then (on.length : Int) else h) else if x = (on.length : Int) + 1 then o else lk on x
def cutT (n : Nat) (ms : List (Option Int)) : Int → Option Int := fun x => if x = (n : Int) then some ((n : Int) + 1) else if x = (n : Int) + 1 then some (n : Int) else lkM ms x
def cutF (on : List Int) (ms : List (Option Int)) (h o : Int) : Deed := if InR on.length h ∧ InR on.length o then (if o ∈ patL on h then (if on.length + 2 ≤ 400 then .skin (clOn (rngL (on.length + 2)) (cutN on h o)) (clMs (rngL (on.length + 2)) (cutT on.length ms)) else .many) else .unlike) else .no
theorem cutT_mm {on : List Int} {ms : List (Option Int)} (S : SkinOk on ms) : ∀ a, InR (on.length + 2) a → ∀ b, InR (on.length + 2) b → cutT on.length ms a = some b → b ≠ a ∧ cutT on.length ms b = some a := fun a ga b gb e => by
  unfold cutT at e ⊢
  split at e
  · rename_i h; cases e; exact ⟨by omega, by rw [if_neg (by omega), if_pos rfl, h]⟩
  split at e
  · rename_i h1 h2; cases e; exact ⟨by omega, by rw [if_pos rfl, h2]⟩
  · obtain ⟨_, gb', e2, ne2⟩ := S.mtS ga.1 e
    unfold InR at gb'
    exact ⟨ne2, by rw [if_neg (by omega), if_neg (by omega)]; exact e2⟩
theorem SkinOk.cutR {on : List Int} {ms : List (Option Int)} (S : SkinOk on ms) {h o : Int} (g : InR on.length h) {P Q : List Int} (e : patL on h = P ++ o :: Q) : RowsOk (dropR h (patsL on) ++ [P ++ [(on.length : Int)], ((on.length : Int) + 1) :: o :: Q]) (InR (on.length + 2)) (cutN on h o) := by
  obtain ⟨tr, nd, rg, _⟩ := S.pat g
  obtain ⟨r0, eh⟩ := tr.head
  have go : InR on.length o := rg o (by rw [e]; simp)
  have gah := S.ahR g
  have gao := S.ahR go
  have lah := S.lkA g
  have lao := S.lkA go
  have nxP : ∀ x c, NxRow (patL on h) x c → lk on x = c := fun x c n => S.pat_nx g n
  rw [e] at nd
  obtain ⟨nd1, nd2, nd3⟩ := List.nodup_append.mp nd
  have hin : ∀ x ∈ P ++ o :: Q, InR on.length x := fun x hx => rg x (by rw [e]; exact hx)
  have hfst : (P = [] ∧ h = o) ∨ ∃ P', P = h :: P' := by
    cases P with
    | nil => rw [eh] at e; injection e with e1 e2; exact .inl ⟨rfl, e1⟩
    | cons x P' => rw [eh] at e; injection e with e1 e2; exact .inr ⟨P', by rw [e1]⟩
  have hne : P ≠ [] → h ≠ o := fun z1 z2 => by
    rcases hfst with ⟨z, _⟩ | ⟨P', z⟩
    · exact z1 z
    · exact nd3 h (by rw [z]; simp) o (by simp) z2
  have ahin : ahd on h ∈ patL on h ∧ ahd on o ∈ patL on h := by
    have key : ∀ y ∈ patL on h, ahd on y ∈ patL on h := fun y hy => by
      obtain ⟨a, ha⟩ := nx_pre hy
      have := nxP a y ha
      have ga := rg a (nx_mem ha).1
      rw [← this, S.ahL ga]; exact (nx_mem ha).1
    exact ⟨key h (by rw [eh]; simp), key o (by rw [e]; simp)⟩
  have R0 := S.dropOk g
  have ndA : (P ++ [(on.length : Int)]).Nodup := List.nodup_append.mpr ⟨nd1, by simp, fun a ha b hb z => by
    have := hin a (List.mem_append_left _ ha)
    have hb : b = (on.length : Int) := by simpa using hb
    unfold InR at this; omega⟩
  have ndB : (((on.length : Int) + 1) :: o :: Q).Nodup := List.nodup_cons.mpr ⟨fun z => by
    have := hin _ (List.mem_append_right P z)
    unfold InR at this; omega, nd2⟩
  have out : ∀ x, InR on.length x → x ∉ patL on h → cutN on h o x = lk on x := fun x gx hx => by
    unfold cutN
    unfold InR at gx
    rw [if_neg (fun z => hx (by rw [z]; exact ahin.1)), if_neg (fun z => hx (by rw [z]; exact ahin.2)), if_neg (by omega), if_neg (by omega)]
  have inn : ∀ x, InR on.length x → lk on x ≠ h → lk on x ≠ o → cutN on h o x = lk on x := fun x gx n1 n2 => by
    unfold cutN
    unfold InR at gx
    rw [if_neg (fun z => n1 (by rw [z]; exact lah)), if_neg (fun z => n2 (by rw [z]; exact lao)), if_neg (by omega), if_neg (by omega)]
  have cA : ∀ x b, NxRow (P ++ [(on.length : Int)]) x b → cutN on h o x = b := fun x b n => by
    refine nx_fun ndA ?_ n
    have hx := (nx_mem n).1
    rcases List.mem_append.mp hx with hx | hx
    · have gx := hin x (List.mem_append_left _ hx)
      obtain ⟨u, v, rfl⟩ := List.append_of_mem hx
      have hho := hne (by simp)
      cases v with
      | nil =>
        have l1 := nxP x o (by rw [e]; exact nx_split.mpr ⟨u, o :: Q, by simp, rfl⟩)
        have : cutN on h o x = (on.length : Int) := by
          unfold cutN
          have ex : x = ahd on o := by rw [← l1, S.ahL gx]
          rw [if_neg (fun z => by have := lah; rw [← z, l1] at this; exact hho this.symm), if_pos ex]
        rw [this]
        exact nx_split.mpr ⟨u, [(on.length : Int)], by simp, rfl⟩
      | cons c v =>
        have l1 := nxP x c (by rw [e]; exact nx_split.mpr ⟨u, c :: v ++ o :: Q, by simp, rfl⟩)
        have nc1 : c ≠ h := fun z => by
          rcases hfst with ⟨z2, _⟩ | ⟨P', z2⟩
          · simp at z2
          · subst z
            cases u with
            | nil =>
              injection z2 with z3 z4
              rw [z3] at nd1
              simp at nd1
            | cons y u =>
              injection z2 with z3 z4
              rw [z3] at nd1
              simp at nd1
        have nc2 : c ≠ o := nd3 c (by simp) o (by simp)
        rw [inn x gx (by rw [l1]; exact nc1) (by rw [l1]; exact nc2), l1]
        exact nx_split.mpr ⟨u, c :: v ++ [(on.length : Int)], by simp, rfl⟩
    · have ex : x = (on.length : Int) := by simpa using hx
      subst ex
      have : cutN on h o (on.length : Int) = if h = o then (on.length : Int) else h := by
        unfold cutN
        unfold InR at gah gao
        rw [if_neg (by omega), if_neg (by omega), if_pos rfl]
      rw [this]
      rcases hfst with ⟨z1, z2⟩ | ⟨P', z1⟩
      · rw [if_pos z2, z1]
        exact nx_split.mpr ⟨[], [], rfl, rfl⟩
      · rw [if_neg (hne (by rw [z1]; simp)), z1]
        exact nx_split.mpr ⟨h :: P', [], rfl, rfl⟩
  have cB : ∀ x b, NxRow (((on.length : Int) + 1) :: o :: Q) x b → cutN on h o x = b := fun x b n => by
    refine nx_fun ndB ?_ n
    have hx := (nx_mem n).1
    rcases List.mem_cons.mp hx with ex | hx
    · subst ex
      have : cutN on h o ((on.length : Int) + 1) = o := by
        unfold cutN
        unfold InR at gah gao
        rw [if_neg (by omega), if_neg (by omega), if_neg (by omega), if_pos rfl]
      rw [this]
      exact nx_split.mpr ⟨[], o :: Q, rfl, rfl⟩
    · have gx := hin x (List.mem_append_right _ hx)
      obtain ⟨u, v, es⟩ := List.append_of_mem hx
      rw [es] at nd2 nd3
      cases v with
      | nil =>
        have l1 := nxP x h (by
          rw [e, es]
          refine nx_split.mpr ⟨P ++ u, [], by simp, ?_⟩
          have : P ++ u ++ [x] = h :: r0 := by rw [← eh, e, es]; simp
          rw [List.nil_append, this]; rfl)
        have : cutN on h o x = (on.length : Int) + 1 := by
          unfold cutN
          rw [if_pos (by rw [← l1, S.ahL gx])]
        rw [this, es]
        exact nx_split.mpr ⟨((on.length : Int) + 1) :: u, [], rfl, rfl⟩
      | cons c v =>
        have l1 := nxP x c (by rw [e, es]; exact nx_split.mpr ⟨P ++ u, c :: v, by simp, rfl⟩)
        have nc2 : c ≠ o := fun z => by
          cases u with
          | nil =>
            injection es with z3 z4
            rw [z3] at z
            rw [z] at nd2
            simp at nd2
          | cons y u =>
            injection es with z3 z4
            rw [z, z3] at nd2
            simp at nd2
        have nc1 : c ≠ h := fun z => by
          rcases hfst with ⟨_, z2⟩ | ⟨P', z2⟩
          · exact nc2 (z.trans z2)
          · exact nd3 h (by rw [z2]; simp) c (by simp) z.symm
        rw [inn x gx (by rw [l1]; exact nc1) (by rw [l1]; exact nc2), l1, es]
        exact nx_split.mpr ⟨((on.length : Int) + 1) :: u, c :: v, rfl, rfl⟩
  have R1 := R0.more (row := P ++ [(on.length : Int)]) (nx' := cutN on h o) ndA (fun x hx z => by
    rcases List.mem_append.mp hx with hx | hx
    · exact z.2 (by rw [e]; exact List.mem_append_left _ hx)
    · have : x = (on.length : Int) := by simpa using hx
      have := z.1
      unfold InR at this; omega) (fun x hx => out x hx.1 hx.2) cA
  have R2 := R1.more (row := ((on.length : Int) + 1) :: o :: Q) (nx' := cutN on h o) ndB (fun x hx z => by
    rcases List.mem_cons.mp hx with ex | hx
    · rcases z with z | z
      · have := z.1; unfold InR at this; omega
      · rcases List.mem_append.mp z with z | z
        · have := hin x (List.mem_append_left _ z); unfold InR at this; omega
        · have : x = (on.length : Int) := by simpa using z
          omega
    · rcases z with z | z
      · exact z.2 (by rw [e]; exact List.mem_append_right _ hx)
      · rcases List.mem_append.mp z with z | z
        · exact nd3 x z x hx rfl
        · have e1 : x = (on.length : Int) := by simpa using z
          have := hin x (List.mem_append_right _ hx); unfold InR at this; omega) (fun x _ => rfl) cB
  have e2 : dropR h (patsL on) ++ [P ++ [(on.length : Int)]] ++ [((on.length : Int) + 1) :: o :: Q] = dropR h (patsL on) ++ [P ++ [(on.length : Int)], ((on.length : Int) + 1) :: o :: Q] := by simp
  rw [e2] at R2
  refine R2.congr fun x => ?_
  rw [e]
  constructor
  · rintro ((z | z) | z)
    · have := z.1; unfold InR at this ⊢; omega
    · rcases List.mem_append.mp z with z | z
      · have := hin x (List.mem_append_left _ z); unfold InR at this ⊢; omega
      · have : x = (on.length : Int) := by simpa using z
        unfold InR; omega
    · rcases List.mem_cons.mp z with z | z
      · unfold InR; omega
      · have := hin x (List.mem_append_right _ z); unfold InR at this ⊢; omega
  · intro gx
    by_cases z1 : x = (on.length : Int)
    · exact .inl (.inr (by rw [z1]; simp))
    by_cases z2 : x = (on.length : Int) + 1
    · exact .inr (by rw [z2]; simp)
    have gx' : InR on.length x := by unfold InR at gx ⊢; omega
    by_cases z3 : x ∈ P
    · exact .inl (.inr (List.mem_append_left _ z3))
    by_cases z4 : x ∈ o :: Q
    · exact .inr (List.mem_cons_of_mem _ z4)
    · exact .inl (.inl ⟨gx', fun z => by
        rcases List.mem_append.mp z with z | z
        · exact z3 z
        · exact z4 z⟩)
theorem cut_ok {on on' : List Int} {ms ms' : List (Option Int)} (S : SkinOk on ms) {h o : Int} (e : cutF on ms h o = .skin on' ms') : SkinOk on' ms' := by
  unfold cutF at e
  split at e
  · rename_i g
    split at e
    · rename_i ho
      split at e
      · rename_i hle
        cases e
        obtain ⟨P, Q, ep⟩ := List.append_of_mem ho
        exact (S.cutR g.1 ep).all (by omega) hle (cutT_mm S)
      · cases e
    · cases e
  · cases e
end Hs
set_option linter.all false
set_option maxRecDepth 100000
namespace Hs
theorem skin_lk {on on' : List Int} {ms : List (Option Int)} (S : SkinOk on ms) (len : on'.length = on.length) (rng : ∀ x, InR on.length x → InR on.length (lk on' x)) (inj : ∀ x y, InR on.length x → InR on.length y → lk on' x = lk on' y → x = y) (sur : ∀ y, InR on.length y → ∃ x, InR on.length x ∧ lk on' x = y) : SkinOk on' ms := by
  have at' : ∀ i (h : i < on'.length), on'[i] = lk on' (i : Int) := fun i h => by
    unfold lk; simp [List.getD_eq_getElem?_getD, List.getElem?_eq_getElem h]
  refine ⟨by rw [len]; exact S.pos, by rw [len]; exact S.le, by rw [len]; exact S.len, fun x hx => ?_, ?_, fun y h0 h1 => ?_, fun h m e => by rw [len]; exact S.ok h m e⟩
  · obtain ⟨i, hi, e⟩ := List.getElem_of_mem hx
    rw [len, ← e, at' i hi]
    exact rng _ ⟨by omega, by omega⟩
  · rw [List.nodup_iff_pairwise_ne, List.pairwise_iff_getElem]
    intro i j hi hj hij e
    rw [at' i hi, at' j hj] at e
    have := inj _ _ ⟨by omega, by omega⟩ ⟨by omega, by omega⟩ e
    omega
  · rw [len] at h1
    obtain ⟨x, gx, e⟩ := sur y ⟨h0, h1⟩
    rw [← e]
    exact List.mem_of_getElem? (lk_get (by rw [len]; omega))
structure Six (on : List Int) (h a b m c d : Int) : Prop where
  gh : InR on.length h
  ga : InR on.length a
  gb : InR on.length b
  gm : InR on.length m
  gc : InR on.length c
  gd : InR on.length d
  ha : lk on h = a
  ab : lk on a = b
  bh : lk on b = h
  mc : lk on m = c
  cd : lk on c = d
  dm : lk on d = m
  nd : [h, a, b, m, c, d].Nodup
theorem trail_cons {f : Int → Option Int} {h0 x u : Int} {l : List Int} (t : Trail f h0 x (u :: l)) : u = x ∧ ((l = [] ∧ (f x = none ∨ f x = some h0)) ∨ ∃ y, f x = some y ∧ y ≠ h0 ∧ Trail f h0 y l) := by
  cases t with
  | last h => exact ⟨rfl, .inl ⟨rfl, h⟩⟩
  | step h hy t => exact ⟨rfl, .inr ⟨_, h, hy, t⟩⟩
theorem pat3 {on : List Int} {ms : List (Option Int)} (S : SkinOk on ms) {h x a b : Int} (g : InR on.length h) (e : patL on h = [x, a, b]) : x = h ∧ lk on h = a ∧ lk on a = b ∧ lk on b = h ∧ [h, a, b].Nodup ∧ InR on.length a ∧ InR on.length b := by
  obtain ⟨t, nd, rg, _⟩ := S.pat g
  rw [e] at t nd rg
  obtain ⟨rfl, q⟩ := trail_cons t
  rcases q with ⟨z, _⟩ | ⟨y, h1, _, t1⟩
  · cases z
  obtain ⟨rfl, q⟩ := trail_cons t1
  rcases q with ⟨z, _⟩ | ⟨y2, h2, _, t2⟩
  · cases z
  obtain ⟨rfl, q⟩ := trail_cons t2
  rcases q with ⟨_, h3⟩ | ⟨y3, _, _, t3⟩
  · rcases h3 with h3 | h3
    · cases h3
    · exact ⟨rfl, Option.some.inj h1, Option.some.inj h2, Option.some.inj h3, nd, rg _ (by simp), rg _ (by simp)⟩
  · cases t3
theorem six_of {on : List Int} {ms : List (Option Int)} (S : SkinOk on ms) {h m x a b y c d : Int} (g : InR on.length h) (gm : InR on.length m) (e1 : patL on h = [x, a, b]) (e2 : patL on m = [y, c, d]) (hn : m ∉ patL on h) : Six on h a b m c d := by
  obtain ⟨rfl, p1, p2, p3, n1, ga, gb⟩ := pat3 S g e1
  obtain ⟨rfl, q1, q2, q3, n2, gc, gd⟩ := pat3 S gm e2
  rw [e1] at hn
  have m1 : ¬ (y = x ∨ y = a ∨ y = b) := by simpa using hn
  have d1 : ¬ (d = x ∨ d = a ∨ d = b) := fun z => m1 (by
    rcases z with z | z | z
    · exact .inr (.inl (by rw [← q3, z]; exact p1))
    · exact .inr (.inr (by rw [← q3, z]; exact p2))
    · exact .inl (by rw [← q3, z]; exact p3))
  have c1 : ¬ (c = x ∨ c = a ∨ c = b) := fun z => d1 (by
    rcases z with z | z | z
    · exact .inr (.inl (by rw [← q2, z]; exact p1))
    · exact .inr (.inr (by rw [← q2, z]; exact p2))
    · exact .inl (by rw [← q2, z]; exact p3))
  refine ⟨g, ga, gb, gm, gc, gd, p1, p2, p3, q1, q2, q3, ?_⟩
  simp at n1 n2 ⊢
  grind
end Hs
set_option linter.all false
set_option maxRecDepth 100000
set_option maxHeartbeats 1000000
namespace Hs
theorem perm_t (x a b y c d : Int) : [x, b, c, y, d, a].Perm [x, a, b, y, c, d] := .cons x ((List.perm_append_comm (l₁ := [b, c, y, d]) (l₂ := [a])).trans (.cons a (.cons b (.swap y c [d]))))
theorem perm_u (x a b y c d : Int) : [x, d, a, y, b, c].Perm [x, a, b, y, c, d] := .cons x ((List.perm_append_comm (l₁ := [d]) (l₂ := [a, y, b, c])).trans (.cons a (.swap b y [c, d])))
def W6 (on : List Int) (p q r s t u : Int) : List Int := (((((on.set p.toNat q).set q.toNat r).set r.toNat p).set s.toNat t).set t.toNat u).set u.toNat s
theorem W6_len (on : List Int) (p q r s t u : Int) : (W6 on p q r s t u).length = on.length := by unfold W6; simp
theorem lk_W6 {on : List Int} {p q r s t u x : Int} (gp : InR on.length p) (gq : InR on.length q) (gr : InR on.length r) (gs : InR on.length s) (gt : InR on.length t) (gu : InR on.length u) (gx : InR on.length x) :
    lk (W6 on p q r s t u) x = if x = u then s else if x = t then u else if x = s then t else if x = r then p else if x = q then r else if x = p then q else lk on x := by
  unfold W6
  have hx := gx.1
  rw [lk_setI (by simpa using gu) hx, lk_setI (by simpa using gt) hx, lk_setI (by simpa using gs) hx, lk_setI (by simpa using gr) hx, lk_setI (by simpa using gq) hx, lk_setI (by simpa using gp) hx]
theorem nx_three {a b c x y : Int} (n : NxRow [a, b, c] x y) : (x = a ∧ y = b) ∨ (x = b ∧ y = c) ∨ (x = c ∧ y = a) := by
  obtain ⟨j, hj, h1, h2⟩ := n
  have hj : j < 3 := hj
  match j, hj with
  | 0, _ => exact .inr (.inr ⟨(Option.some.inj h1).symm, (Option.some.inj h2).symm⟩)
  | 1, _ => exact .inl ⟨(Option.some.inj h1).symm, (Option.some.inj h2).symm⟩
  | 2, _ => exact .inr (.inl ⟨(Option.some.inj h1).symm, (Option.some.inj h2).symm⟩)
theorem SkinOk.rows6 {on : List Int} {ms : List (Option Int)} (S : SkinOk on ms) {h a b m c d p q r s t u : Int} (X : Six on h a b m c d) (e1 : patL on h = [h, a, b]) (e2 : patL on m = [m, c, d]) (hp : [p, q, r, s, t, u].Perm [h, a, b, m, c, d]) :
    RowsOk (dropR m (dropR h (patsL on)) ++ [[p, q, r], [s, t, u]]) (InR on.length) (lk (W6 on p q r s t u)) := by
  have R0 := S.dropOk2 X.gh X.gm
  have nd : [p, q, r, s, t, u].Nodup := hp.nodup_iff.mpr X.nd
  have mem : ∀ x, x ∈ [p, q, r, s, t, u] ↔ x ∈ [h, a, b] ∨ x ∈ [m, c, d] := fun x => by
    rw [hp.mem_iff]; simp only [List.mem_cons, List.not_mem_nil, or_false]; constructor
    · rintro (h | h | h | h | h | h)
      · exact .inl (.inl h)
      · exact .inl (.inr (.inl h))
      · exact .inl (.inr (.inr h))
      · exact .inr (.inl h)
      · exact .inr (.inr (.inl h))
      · exact .inr (.inr (.inr h))
    · rintro ((h | h | h) | (h | h | h))
      · exact .inl h
      · exact .inr (.inl h)
      · exact .inr (.inr (.inl h))
      · exact .inr (.inr (.inr (.inl h)))
      · exact .inr (.inr (.inr (.inr (.inl h))))
      · exact .inr (.inr (.inr (.inr (.inr h))))
  have rng : ∀ x ∈ [p, q, r, s, t, u], InR on.length x := fun x hx => by
    rcases (mem x).mp hx with z | z
    · exact (S.pat X.gh).2.2.1 x (by rw [e1]; exact z)
    · exact (S.pat X.gm).2.2.1 x (by rw [e2]; exact z)
  have gp := rng p (by simp)
  have gq := rng q (by simp)
  have gr := rng r (by simp)
  have gs := rng s (by simp)
  have gt := rng t (by simp)
  have gu := rng u (by simp)
  have L := fun x gx => lk_W6 (x := x) gp gq gr gs gt gu gx
  have ⟨n1, n2, n3, n4, n5, n6, n7, n8, n9, n10, n11, n12, n13, n14, n15⟩ : p ≠ q ∧ p ≠ r ∧ p ≠ s ∧ p ≠ t ∧ p ≠ u ∧ q ≠ r ∧ q ≠ s ∧ q ≠ t ∧ q ≠ u ∧ r ≠ s ∧ r ≠ t ∧ r ≠ u ∧ s ≠ t ∧ s ≠ u ∧ t ≠ u := by
    simp at nd; grind
  have lu : lk (W6 on p q r s t u) u = s := by rw [L u gu]; simp
  have lt : lk (W6 on p q r s t u) t = u := by rw [L t gt]; simp [n15]
  have ls : lk (W6 on p q r s t u) s = t := by rw [L s gs]; simp [n14, n13]
  have lr : lk (W6 on p q r s t u) r = p := by rw [L r gr]; simp [n12, n11, n10]
  have lq : lk (W6 on p q r s t u) q = r := by rw [L q gq]; simp [n9, n8, n7, n6]
  have lp : lk (W6 on p q r s t u) p = q := by rw [L p gp]; simp [n5, n4, n3, n2, n1]
  have R1 := R0.more (row := [p, q, r]) (nx' := lk (W6 on p q r s t u)) (by clear rng mem L; simp [n1, n2, n6]) (fun x hx z => by
      have hx' : x ∈ [p, q, r, s, t, u] := by
        have : x = p ∨ x = q ∨ x = r := by simpa using hx
        rcases this with rfl | rfl | rfl <;> simp
      rcases (mem x).mp hx' with w | w
      · exact z.2.1 (by rw [e1]; exact w)
      · exact z.2.2 (by rw [e2]; exact w))
    (fun x hx => by
      have no : x ∉ [p, q, r, s, t, u] := fun z => by
        rcases (mem x).mp z with w | w
        · exact hx.2.1 (by rw [e1]; exact w)
        · exact hx.2.2 (by rw [e2]; exact w)
      have ⟨k1, k2, k3, k4, k5, k6⟩ : x ≠ p ∧ x ≠ q ∧ x ≠ r ∧ x ≠ s ∧ x ≠ t ∧ x ≠ u := by simpa using no
      rw [L x hx.1, if_neg k6, if_neg k5, if_neg k4, if_neg k3, if_neg k2, if_neg k1])
    (fun x y n => by
      rcases nx_three n with ⟨rfl, rfl⟩ | ⟨rfl, rfl⟩ | ⟨rfl, rfl⟩
      · exact lp
      · exact lq
      · exact lr)
  have R2 := R1.more (row := [s, t, u]) (nx' := lk (W6 on p q r s t u)) (by clear rng mem L; simp [n13, n14, n15]) (fun x hx z => by
      have hx3 : x = s ∨ x = t ∨ x = u := by simpa using hx
      have hx' : x ∈ [p, q, r, s, t, u] := by rcases hx3 with rfl | rfl | rfl <;> simp
      rcases z with z | z
      · rcases (mem x).mp hx' with w | w
        · exact z.2.1 (by rw [e1]; exact w)
        · exact z.2.2 (by rw [e2]; exact w)
      · have : x = p ∨ x = q ∨ x = r := by simpa using z
        clear rng mem L lu lt ls lr lq lp
        grind) (fun x _ => rfl)
    (fun x y n => by
      rcases nx_three n with ⟨rfl, rfl⟩ | ⟨rfl, rfl⟩ | ⟨rfl, rfl⟩
      · exact ls
      · exact lt
      · exact lu)
  have e3 : dropR m (dropR h (patsL on)) ++ [[p, q, r]] ++ [[s, t, u]] = dropR m (dropR h (patsL on)) ++ [[p, q, r], [s, t, u]] := by simp
  rw [e3] at R2
  refine R2.congr fun x => ?_
  rw [e1, e2]
  have mx := mem x
  have e4 : x ∈ [p, q, r, s, t, u] ↔ x ∈ [p, q, r] ∨ x ∈ [s, t, u] := by
    simp only [List.mem_cons, List.not_mem_nil, or_false]; constructor
    · rintro (h | h | h | h | h | h)
      · exact .inl (.inl h)
      · exact .inl (.inr (.inl h))
      · exact .inl (.inr (.inr h))
      · exact .inr (.inl h)
      · exact .inr (.inr (.inl h))
      · exact .inr (.inr (.inr h))
    · rintro ((h | h | h) | (h | h | h))
      · exact .inl h
      · exact .inr (.inl h)
      · exact .inr (.inr (.inl h))
      · exact .inr (.inr (.inr (.inl h)))
      · exact .inr (.inr (.inr (.inr (.inl h))))
      · exact .inr (.inr (.inr (.inr (.inr h))))
  constructor
  · rintro ((z | z) | z)
    · exact z.1
    · exact rng x (e4.mpr (.inl z))
    · exact rng x (e4.mpr (.inr z))
  · intro gx
    by_cases z1 : x ∈ [p, q, r]
    · exact .inl (.inr z1)
    by_cases z2 : x ∈ [s, t, u]
    · exact .inr z2
    · refine .inl (.inl ⟨gx, fun z => ?_, fun z => ?_⟩)
      · rcases e4.mp (mx.mpr (.inl z)) with w | w
        · exact z1 w
        · exact z2 w
      · rcases e4.mp (mx.mpr (.inr z)) with w | w
        · exact z1 w
        · exact z2 w
theorem SkinOk.skin6 {on : List Int} {ms : List (Option Int)} (S : SkinOk on ms) {p q r s t u : Int} {rows : List (List Int)} (R : RowsOk rows (InR on.length) (lk (W6 on p q r s t u))) : SkinOk (W6 on p q r s t u) ms ∧ W6 on p q r s t u = clOn (rngL on.length) (lk (W6 on p q r s t u)) ∧ ms = clMs (rngL on.length) (lkM ms) := by
  have e1 : W6 on p q r s t u = clOn (rngL on.length) (lk (W6 on p q r s t u)) := on_rngL (W6_len _ _ _ _ _ _ _) (fun x gx => R.into gx) (fun x _ => rfl)
  have e2 : ms = clMs (rngL on.length) (lkM ms) := ms_rngL S.len (fun x y gx e => (S.mtS gx.1 e).2.1) (fun x _ => rfl)
  refine ⟨?_, e1, e2⟩
  have := R.all (mt := lkM ms) S.pos S.le fun a ga b gb e => S.mm ga.1 e
  rw [← e1, ← e2] at this
  exact this
def turnG (tn : Bool) (on : List Int) (ms : List (Option Int)) (h : Int) : Deed := if InR on.length h then (match lkM ms h with
  | none => .harm "rim"
  | some m => if m ∈ patL on h then .harm "one" else match patL on h, patL on m with
    | [_, a, b], [_, c, d] => .skin (if tn = true then W6 on h b c m d a else W6 on h d a m b c) ms
    | _, _ => .harm "three") else .no
theorem turnG_ok {tn : Bool} {on on' : List Int} {ms ms' : List (Option Int)} (S : SkinOk on ms) {h : Int} (e : turnG tn on ms h = .skin on' ms') : SkinOk on' ms' := by
  unfold turnG at e
  split at e
  · rename_i g
    split at e
    · cases e
    · rename_i m hm
      split at e
      · cases e
      · rename_i hn
        split at e
        · rename_i x a b y c d p1 p2
          obtain ⟨rfl, _⟩ := pat3 S g p1
          have gm := (S.mate g hm).1
          obtain ⟨rfl, _⟩ := pat3 S gm p2
          have X := six_of S g gm p1 p2 hn
          cases tn
          · cases e
            exact (S.skin6 (S.rows6 (p := x) (q := d) (r := a) (s := y) (t := b) (u := c) X p1 p2 (perm_u _ _ _ _ _ _))).1
          · cases e
            exact (S.skin6 (S.rows6 (p := x) (q := b) (r := c) (s := y) (t := d) (u := a) X p1 p2 (perm_t _ _ _ _ _ _))).1
        · cases e
  · cases e
def swp (on : List Int) (h m : Int) : List Int := (on.set h.toNat (lk on m)).set m.toNat (lk on h)
theorem swp_len (on : List Int) (h m : Int) : (swp on h m).length = on.length := by unfold swp; simp
theorem lk_swp {on : List Int} {h m x : Int} (g : InR on.length h) (gm : InR on.length m) (hx : 0 ≤ x) : lk (swp on h m) x = if x = m then lk on h else if x = h then lk on m else lk on x := by
  unfold swp
  rw [lk_setI (by simpa using gm) hx, lk_setI g hx]
theorem SkinOk.swapped {on : List Int} {ms : List (Option Int)} (S : SkinOk on ms) {h m : Int} (g : InR on.length h) (gm : InR on.length m) : SkinOk (swp on h m) ms := by
  have L := fun x (gx : InR on.length x) => lk_swp g gm gx.1
  refine skin_lk S (swp_len _ _ _) (fun x gx => ?_) (fun x y gx gy e => ?_) (fun y gy => ?_)
  · rw [L x gx]; split
    · exact S.lkR g
    split
    · exact S.lkR gm
    · exact S.lkR gx
  · rw [L x gx, L y gy] at e
    have key : ∀ {u v : Int}, InR on.length u → InR on.length v → lk on u = lk on v → u = v := fun a b c => S.lkI a b c
    split at e
    · rename_i e1
      split at e
      · rename_i e2; rw [e1, e2]
      split at e
      · rename_i e2 e3; have := key g gm e; rw [e1, e3, this]
      · rename_i e2 e3; exact absurd (key g gy e).symm e3
    · rename_i e1
      split at e
      · rename_i e2
        split at e
        · rename_i e3; have := key gm g e; rw [e2, e3, this]
        split at e
        · rename_i e3 e4; rw [e2, e4]
        · rename_i e3 e4; exact absurd (key gm gy e).symm e3
      · rename_i e2
        split at e
        · rename_i e3; exact absurd (key gx g e) e2
        split at e
        · rename_i e3 e4; exact absurd (key gx gm e) e1
        · exact key gx gy e
  · by_cases c1 : lk on h = y
    · exact ⟨m, gm, by rw [L m gm, if_pos rfl]; exact c1⟩
    by_cases c2 : lk on m = y
    · refine ⟨h, g, ?_⟩
      rw [L h g]
      by_cases c3 : h = m
      · rw [if_pos c3, c3]; exact c2
      · rw [if_neg c3, if_pos rfl]; exact c2
    · refine ⟨ahd on y, S.ahR gy, ?_⟩
      rw [L _ (S.ahR gy), if_neg (fun z => c2 (by rw [← z]; exact S.lkA gy)), if_neg (fun z => c1 (by rw [← z]; exact S.lkA gy))]
      exact S.lkA gy
noncomputable def joinF (on : List Int) (ms : List (Option Int)) (h : Int) : Deed := if InR on.length h then (match lkM ms h with
  | none => .harm "rim"
  | some m => if m ∈ patL on h then .harm "one" else if lk on h = h ∧ lk on m = m then .harm "last" else .skin (woOn (swp on h m) [h, m]) (clMs (keptL on.length [h, m]) (lkM ms))) else .no
theorem join_ok {on on' : List Int} {ms ms' : List (Option Int)} (S : SkinOk on ms) {h : Int} (e : joinF on ms h = .skin on' ms') : SkinOk on' ms' := by
  unfold joinF at e
  split at e
  · rename_i g
    split at e
    · cases e
    · rename_i m hm
      split at e
      · cases e
      · rename_i hn
        split at e
        · cases e
        · rename_i hl
          cases e
          obtain ⟨gm, _, _⟩ := S.mate g hm
          have S' := S.swapped g gm
          have hlen := swp_len on h m
          have := S'.wo [h, m] (mt := lkM ms) ?_ (fun a ha b hb e => S.mm ha.1.1 e)
          · rw [hlen] at this; exact this
          · rw [hlen]
            by_cases c1 : lk on h = h
            · have c2 : lk on m ≠ m := fun z => hl ⟨c1, z⟩
              refine ⟨lk on m, S.lkR gm, ?_⟩
              have : lk on m ≠ h := fun z => by
                have := S.lkI gm g (z.trans c1.symm)
                rw [this] at c2; exact c2 c1
              simpa using ⟨this, c2⟩
            · refine ⟨lk on h, S.lkR g, ?_⟩
              have : lk on h ≠ m := fun z => hn (by
                have t := (S.pat g).1
                rcases t.into h (S.self_pat g) (lk on h) rfl with q | q
                · rw [z] at q; rw [q]; exact S.self_pat g
                · rw [z] at q; exact q)
              simpa using ⟨c1, this⟩
  · cases e
theorem pat_len1 {on : List Int} {ms : List (Option Int)} (S : SkinOk on ms) {h : Int} (g : InR on.length h) : (patL on h).length = 1 ↔ lk on h = h := by
  obtain ⟨t, nd, rg, _⟩ := S.pat g
  obtain ⟨r, e⟩ := t.head
  constructor
  · intro hl
    have : r = [] := by rw [e] at hl; simpa using hl
    rw [this] at e
    exact S.pat_nx g (by rw [e]; exact nx_split.mpr ⟨[], [], rfl, rfl⟩)
  · intro hl
    have : patL on h = [h] := by
      unfold patL
      exact trl_of (.last (.inr (by unfold onwF; rw [hl]))) _ (by simp)
    rw [this]; rfl
theorem SkinOk.joinR {on : List Int} {ms : List (Option Int)} (S : SkinOk on ms) {h m : Int} (g : InR on.length h) (gm : InR on.length m) {O W : List Int} (e1 : patL on h = h :: O) (e2 : patL on m = m :: W) (hn : m ∉ patL on h) (hl : ¬ (O = [] ∧ W = [])) :
    RowsOk (dropR m (dropR h (patsL on)) ++ [O ++ W]) (fun x => InR on.length x ∧ x ∉ [h, m]) (nxF (swp on h m) [h, m]) := by
  have R0 := S.dropOk2 g gm
  obtain ⟨_, nd1, rg1, _⟩ := S.pat g
  obtain ⟨_, nd2, rg2, _⟩ := S.pat gm
  have nh : h ∉ patL on m := fun z => hn (S.pat_sym gm z)
  have dis : ∀ x, x ∈ patL on h → x ∉ patL on m := fun x hx hx' => by
    have z1 := S.pat_sym gm hx'
    exact hn ((S.pat_same g hx m).mp z1)
  have nhm : h ≠ m := fun z => hn (by rw [← z]; exact S.self_pat g)
  have N1 : ∀ x c, NxRow (h :: O) x c → lk on x = c := fun x c n => S.pat_nx g (by rw [e1]; exact n)
  have N2 : ∀ x c, NxRow (m :: W) x c → lk on x = c := fun x c n => S.pat_nx gm (by rw [e2]; exact n)
  rw [e1] at nd1 rg1 hn dis
  rw [e2] at nd2 rg2 nh dis
  have inO : ∀ x ∈ O, InR on.length x ∧ x ≠ h ∧ x ≠ m := fun x hx => ⟨rg1 x (by simp [hx]), fun z => (List.nodup_cons.mp nd1).1 (z ▸ hx), fun z => hn (by rw [← z]; simp [hx])⟩
  have inW : ∀ x ∈ W, InR on.length x ∧ x ≠ h ∧ x ≠ m := fun x hx => ⟨rg2 x (by simp [hx]), fun z => nh (by rw [← z]; simp [hx]), fun z => (List.nodup_cons.mp nd2).1 (z ▸ hx)⟩
  have L := fun x (hx : 0 ≤ x) => lk_swp (x := x) g gm hx
  have Lh : lk (swp on h m) h = lk on m := by rw [L h g.1, if_neg nhm, if_pos rfl]
  have Lm : lk (swp on h m) m = lk on h := by rw [L m gm.1, if_pos rfl]
  have Lx : ∀ x, 0 ≤ x → x ≠ h → x ≠ m → lk (swp on h m) x = lk on x := fun x h0 k1 k2 => by rw [L x h0, if_neg k2, if_neg k1]
  have nT : ∀ x, x ≠ h → x ≠ m → x ∉ [h, m] := fun x k1 k2 => by simpa using ⟨k1, k2⟩
  have here : ∀ x c, InR on.length x → x ≠ h → x ≠ m → lk on x = c → c ≠ h → c ≠ m → nxF (swp on h m) [h, m] x = c := fun x c gx k1 k2 el c1 c2 =>
    nxF_is (k := 0) (by rw [Lx x gx.1 k1 k2, el]; exact .here (nT c c1 c2))
  have ndr : (O ++ W).Nodup := List.nodup_append.mpr ⟨(List.nodup_cons.mp nd1).2, (List.nodup_cons.mp nd2).2, fun a ha b hb z => dis a (by simp [ha]) (by rw [z]; simp [hb])⟩
  have fO : ∀ c r, O = c :: r → lk on h = c := fun c r z => N1 h c (by rw [z]; exact nx_split.mpr ⟨[], c :: r, rfl, rfl⟩)
  have fW : ∀ c r, W = c :: r → lk on m = c := fun c r z => N2 m c (by rw [z]; exact nx_split.mpr ⟨[], c :: r, rfl, rfl⟩)
  have zO : O = [] → lk on h = h := fun z => N1 h h (by rw [z]; exact nx_split.mpr ⟨[], [], rfl, rfl⟩)
  have zW : W = [] → lk on m = m := fun z => N2 m m (by rw [z]; exact nx_split.mpr ⟨[], [], rfl, rfl⟩)
  refine (R0.more (row := O ++ W) (nx' := nxF (swp on h m) [h, m]) ndr (fun x hx z => ?_) (fun x hx => ?_) (fun x b n => ?_)).congr fun x => ?_
  · rcases List.mem_append.mp hx with q | q
    · exact z.2.1 (by rw [e1]; simp [q])
    · exact z.2.2 (by rw [e2]; simp [q])
  · obtain ⟨gx, n1, n2⟩ := hx
    rw [e1] at n1
    rw [e2] at n2
    refine here x _ gx (fun z => n1 (by rw [z]; simp)) (fun z => n2 (by rw [z]; simp)) rfl (fun z => n1 ?_) (fun z => n2 ?_)
    · obtain ⟨a, ha⟩ := nx_pre (row := h :: O) (b := h) (by simp)
      have := N1 a h ha
      rw [S.lkI gx (rg1 a (nx_mem ha).1) (z.trans this.symm)]
      exact (nx_mem ha).1
    · obtain ⟨a, ha⟩ := nx_pre (row := m :: W) (b := m) (by simp)
      have := N2 a m ha
      rw [S.lkI gx (rg2 a (nx_mem ha).1) (z.trans this.symm)]
      exact (nx_mem ha).1
  · refine nx_fun ndr ?_ n
    rcases List.mem_append.mp (nx_mem n).1 with hx | hx
    · obtain ⟨gx, x1, x2⟩ := inO x hx
      obtain ⟨u, v, es⟩ := List.append_of_mem hx
      cases v with
      | cons c v =>
        have hc := inO c (by rw [es]; simp)
        have l1 := N1 x c (by rw [es]; exact nx_split.mpr ⟨h :: u, c :: v, rfl, rfl⟩)
        rw [here x c gx x1 x2 l1 hc.2.1 hc.2.2]
        exact nx_split.mpr ⟨u, c :: v ++ W, by rw [es]; simp, rfl⟩
      | nil =>
        have l1 := N1 x h (by rw [es]; exact nx_split.mpr ⟨h :: u, [], rfl, rfl⟩)
        cases hW : W with
        | cons c w =>
          have hc := inW c (by rw [hW]; simp)
          have : nxF (swp on h m) [h, m] x = c := nxF_is (k := 1) (by
            rw [Lx x gx.1 x1 x2, l1]
            refine .step (by simp) ?_
            rw [Lh, fW c w hW]
            exact .here (nT c hc.2.1 hc.2.2))
          rw [this]
          exact nx_split.mpr ⟨u, c :: w, by rw [es]; simp, rfl⟩
        | nil =>
          obtain ⟨c, o, hO⟩ : ∃ c o, u ++ [x] = c :: o := by cases u <;> exact ⟨_, _, rfl⟩
          have hc := inO c (by rw [es, hO]; simp)
          have : nxF (swp on h m) [h, m] x = c := nxF_is (k := 2) (by
            rw [Lx x gx.1 x1 x2, l1]
            refine .step (by simp) ?_
            rw [Lh, zW hW]
            refine .step (by simp) ?_
            rw [Lm, fO c o (by rw [es, hO])]
            exact .here (nT c hc.2.1 hc.2.2))
          rw [this]
          exact nx_split.mpr ⟨u, [], by rw [es]; simp, by rw [List.nil_append, hO]; rfl⟩
    · obtain ⟨gx, x1, x2⟩ := inW x hx
      obtain ⟨u, v, es⟩ := List.append_of_mem hx
      cases v with
      | cons c v =>
        have hc := inW c (by rw [es]; simp)
        have l1 := N2 x c (by rw [es]; exact nx_split.mpr ⟨m :: u, c :: v, rfl, rfl⟩)
        rw [here x c gx x1 x2 l1 hc.2.1 hc.2.2]
        exact nx_split.mpr ⟨O ++ u, c :: v, by rw [es]; simp, rfl⟩
      | nil =>
        have l1 := N2 x m (by rw [es]; exact nx_split.mpr ⟨m :: u, [], rfl, rfl⟩)
        cases hO : O with
        | cons c o =>
          have hc := inO c (by rw [hO]; simp)
          have : nxF (swp on h m) [h, m] x = c := nxF_is (k := 1) (by
            rw [Lx x gx.1 x1 x2, l1]
            refine .step (by simp) ?_
            rw [Lm, fO c o hO]
            exact .here (nT c hc.2.1 hc.2.2))
          rw [this]
          exact nx_split.mpr ⟨c :: o ++ u, [], by rw [es]; simp, rfl⟩
        | nil =>
          obtain ⟨c, w, hW⟩ : ∃ c w, u ++ [x] = c :: w := by cases u <;> exact ⟨_, _, rfl⟩
          have hc := inW c (by rw [es, hW]; simp)
          have : nxF (swp on h m) [h, m] x = c := nxF_is (k := 2) (by
            rw [Lx x gx.1 x1 x2, l1]
            refine .step (by simp) ?_
            rw [Lm, zO hO]
            refine .step (by simp) ?_
            rw [Lh, fW c w (by rw [es, hW])]
            exact .here (nT c hc.2.1 hc.2.2))
          rw [this]
          exact nx_split.mpr ⟨u, [], by rw [es]; simp, by rw [List.nil_append, hW]; rfl⟩
  · rw [e1, e2]
    have hx : x ∉ [h, m] ↔ x ≠ h ∧ x ≠ m := by simp
    rw [hx]
    constructor
    · rintro (⟨gx, k1, k2⟩ | z)
      · exact ⟨gx, fun z => k1 (by rw [z]; simp), fun z => k2 (by rw [z]; simp)⟩
      · rcases List.mem_append.mp z with q | q
        · exact inO x q
        · exact inW x q
    · rintro ⟨gx, k1, k2⟩
      by_cases z1 : x ∈ O
      · exact .inr (List.mem_append_left _ z1)
      by_cases z2 : x ∈ W
      · exact .inr (List.mem_append_right _ z2)
      · exact .inl ⟨gx, by simp [k1, z1], by simp [k2, z2]⟩
end Hs
set_option Elab.async false
set_option linter.all false
set_option maxRecDepth 100000
set_option maxHeartbeats 1000000
namespace Hs
open PySem L2
section
variable {P : Program} {w : World} {K : PySem.W.Frag} {mg : Str → Option Value} {base : Heap} {f : Addr} {fd : FuncData} {C : CsA} {S fH : Addr} {tM : Tok}
def spDeed2 (C : CsA) (D : List Int → List (Option Int) → Int → Int → Deed) : Sp := fun vs H Q E => ∃ (p : Addr) (on : List Int) (ms : List (Option Int)) (half other : Int), vs = [.ref p, .int half, .int other] ∧ SkAt H p on ms ∧ half.natAbs.log2 < 1920 ∧ other.natAbs.log2 < 1920 ∧
  (∀ on' ms', D on ms half other = .skin on' ms' → ∀ r H', Same H H' → SkAt H' r on' ms' → Q (.ref r) H') ∧ (∀ c od H', EF C (D on ms half other) H c od H' → E c od H')
theorem scTwo : FnScope ["skin", "half", "mate"] ["skin", "half"] (defScope s_check_two_patches) := ⟨rfl, rfl, rfl, by decide +kernel, rfl, by decide +kernel, by decide +kernel⟩
def twoD (on : List Int) (ms : List (Option Int)) (h : Int) : Deed := if InR on.length h then (match lkM ms h with
  | none => .harm "rim"
  | some m => if m ∈ patL on h then .harm "one" else .skin on ms) else .no
def spTwo (C : CsA) : Sp := fun vs H Q E => ∃ (p : Addr) (on : List Int) (ms : List (Option Int)) (half : Int), vs = [.ref p, .int half] ∧ SkAt H p on ms ∧ half.natAbs.log2 < 1920 ∧
  (∀ m, InR on.length half → lkM ms half = some m → m ∉ patL on half → ∀ H', Same H H' → Q .non H') ∧ (∀ c od H', EF C (twoD on ms half) H c od H' → E c od H')
theorem two_join {C : CsA} {on : List Int} {ms : List (Option Int)} {h : Int} {H H' : Hp} {c : Value} {od : Option Addr} (e : EF C (twoD on ms h) H c od H') : EF C (joinF on ms h) H c od H' := by
  unfold twoD at e
  unfold joinF
  by_cases g : InR on.length h
  · rw [if_pos g] at e ⊢
    cases em : lkM ms h with
    | none => rw [em] at e; exact e
    | some m =>
      rw [em] at e
      dsimp only at e ⊢
      by_cases hm : m ∈ patL on h
      · rw [if_pos hm] at e ⊢; exact e
      · rw [if_neg hm] at e; exact e.2.elim
  · rw [if_neg g] at e ⊢; exact e
theorem two_turn {C : CsA} {tn : Bool} {on : List Int} {ms : List (Option Int)} {h : Int} {H H' : Hp} {c : Value} {od : Option Addr} (e : EF C (twoD on ms h) H c od H') : EF C (turnG tn on ms h) H c od H' := by
  unfold twoD at e
  unfold turnG
  by_cases g : InR on.length h
  · rw [if_pos g] at e ⊢
    cases em : lkM ms h with
    | none => rw [em] at e; exact e
    | some m =>
      rw [em] at e
      dsimp only at e ⊢
      by_cases hm : m ∈ patL on h
      · rw [if_pos hm] at e ⊢; exact e
      · rw [if_neg hm] at e; exact e.2.elim
  · rw [if_neg g] at e ⊢; exact e
theorem len3 {l : List Int} (h : l.length = 3) : ∃ x a b, l = [x, a, b] := by
  match l, h with
  | [x, a, b], _ => exact ⟨x, a, b, rfl⟩
theorem turnG_three {tn : Bool} {on : List Int} {ms : List (Option Int)} {h m : Int} (g : InR on.length h) (e : lkM ms h = some m) (hn : m ∉ patL on h) (hl : ¬ ((patL on h).length = 3 ∧ (patL on m).length = 3)) : turnG tn on ms h = .harm "three" := by
  unfold turnG
  rw [if_pos g, e]
  dsimp only
  rw [if_neg hn]
  split
  · rename_i p1 p2; exact absurd ⟨by rw [p1]; rfl, by rw [p2]; rfl⟩ hl
  · rfl
theorem turnG_skin {tn : Bool} {on : List Int} {ms : List (Option Int)} {h m x a b y c d : Int} (g : InR on.length h) (e : lkM ms h = some m) (hn : m ∉ patL on h) (p1 : patL on h = [x, a, b]) (p2 : patL on m = [y, c, d]) : turnG tn on ms h = .skin (if tn = true then W6 on h b c m d a else W6 on h d a m b c) ms := by
  unfold turnG
  rw [if_pos g, e]
  dsimp only
  rw [if_neg hn, p1, p2]
theorem ok_two (B : Bi mg) (IH : InitE P K C.cH S fH "word" "word" (initPts i_Harm) (initTp i_Harm)) (hH : mg "Harm" = some (.ref C.cH)) (kH : PySem.W.keepIn K (.ref C.cH) = true) (FC : FnX P w K mg base "check_half" ["skin", "half"] 1 (spCheck K C.cN)) (FPa : FnX P w K mg base "patch_of" ["skin", "half"] 2 (spHalfT C.cN gPatch))
    (F : Fun K "check_two_patches" "check_two_patches" s_check_two_patches f fd) : FnOk P w K mg base (CXf P w) 3 f fd ["skin", "half"] (spTwo C) := by
  refine FunX.ok F scTwo (fun vs H Q E h => ?_) (fun cdv A outer s H vs Q E hr h G => ?_)
  · obtain ⟨p, on, ms, half, rfl, _⟩ := h; rfl
  obtain ⟨p, on, ms, half, rfl, ⟨sk, po, pm, h1, h2, h3⟩, hb, q1, q2⟩ := h
  have hl : (on.map V.int).length = on.length := List.length_map _
  refine ⟨_, (pss_cons (ps_expr (pe_callX FC hr (by decide) G (pa_cons (pv 0) (pa_cons (pv 1) pa_nil))))
   (pss_cons (ps_set (i := 2) scTwo.nd rfl (Or.inl rfl) (pe_ix ix_tup (pe_ix ix_tup (pv 0) pe_int (fun _ _ => rfl)) (pv 1) (fun _ _ => rfl)))
   (pss_cons (ps_if (pt_cmpR op_isN (pv 2) pe_non (nomark _))
   (pss_one (ps_raiseI rfl IH (by decide) hH kH hr (by decide) (by decide) tx_harm G (pa_cons pe_str pa_nil)))
   pss_nil)
   (pss_one (ps_if (pt_cmpR op_in_seq (pv 2) (pe_callX FPa hr (by decide) G (pa_cons (pv 0) (pa_cons (pv 1) pa_nil))) rfl)
   (pss_one (ps_raiseI rfl IH (by decide) hH kH hr (by decide) (by decide) tx_harm G (pa_cons pe_str pa_nil)))
   pss_nil))))), ?_⟩
  refine ⟨_, rfl, _, rfl, p, po, _, _, half, rfl, SqT.of h1, SqT.of h2, hb, fun g => ?_, fun g => q2 _ _ _ ⟨Same.refl _, by unfold twoD; rw [if_neg (by rw [hl] at g; exact g)]; exact ⟨rfl, rfl⟩⟩⟩
  rw [hl] at g
  replace g : InR on.length half := g
  refine ⟨_, rfl, p, _, _, .ref pm, rfl, rfl, SqT.of h1, at1 _ _ _, _, rfl, pm, _, _, _, rfl, rfl, SqT.of h3, at_lkM g.1 (by rw [sk.len]; exact g.2), ?_⟩
  cases e : lkM ms half with
  | none =>
    have eD : twoD on ms half = .harm "rim" := by unfold twoD; rw [if_pos g, e]
    exact ⟨_, rfl, rfl, _, rfl, itP rfl ⟨_, rfl, ⟨_, rfl, by decide⟩, fun dx hdx => q2 _ _ _ ⟨same_put hdx _, by rw [eD]; exact ⟨rfl, dx, rfl, upd_same⟩⟩⟩⟩
  | some m =>
    refine ⟨_, rfl, rfl, _, rfl, itN rfl ?_⟩
    refine ⟨_, rfl, _, rfl, _, rfl, p, on, ms, half, rfl, ⟨sk, po, pm, h1, h2, h3⟩, hb, fun _ r H1 sm hr0 hr1 => ?_, fun ng => absurd g ng⟩
    refine ⟨r, _, rfl, .inr (SqT.of hr1), rfl, flat_map _, _, rfl, ?_⟩
    rw [show (if false = true then !inV (mV (some m)) (List.map V.int (gPatch on ms half)) else inV (mV (some m)) (List.map V.int (gPatch on ms half))) = decide (m ∈ patL on half) from inV_ints m _]
    refine ite2 (fun c => ?_) (fun c => ?_)
    · have c : m ∈ patL on half := by simpa using c
      have eD : twoD on ms half = .harm "one" := by unfold twoD; rw [if_pos g, e]; dsimp only; rw [if_pos c]
      exact ⟨_, rfl, ⟨_, rfl, by decide⟩, fun dx hdx => q2 _ _ _ ⟨sm.trans (same_put hdx _), by rw [eD]; exact ⟨rfl, dx, rfl, upd_same⟩⟩⟩
    · have c : m ∉ patL on half := by simpa using c
      exact q1 m g e c _ sm
theorem scJoined : FnScope ["skin", "half", "mate", "onward", "mates"] ["skin", "half"] (defScope s_joined) := ⟨rfl, rfl, rfl, by decide +kernel, rfl, by decide +kernel, by decide +kernel⟩
theorem ok_joined (B : Bi mg) (IH : InitE P K C.cH S fH "word" "word" (initPts i_Harm) (initTp i_Harm)) (hH : mg "Harm" = some (.ref C.cH)) (kH : PySem.W.keepIn K (.ref C.cH) = true) (FTw : FnX P w K mg base "check_two_patches" ["skin", "half"] 3 (spTwo C)) (FWo : Fn P w K mg base "without" ["onward", "mates", "taken"] 1 (spWo K))
    (F : Fun K "joined" "joined" s_joined f fd) : FnOk P w K mg base (CXf P w) 4 f fd ["skin", "half"] (spDeed C joinF) := by
  refine FunX.ok F scJoined (fun vs H Q E h => ?_) (fun cdv A outer s H vs Q E hr h G => ?_)
  · obtain ⟨p, on, ms, half, rfl, _⟩ := h; rfl
  obtain ⟨p, on, ms, half, rfl, SA, hb, q1, q2⟩ := h
  obtain ⟨sk, po, pm, h1, h2, h3⟩ := id SA
  have hl : (on.map V.int).length = on.length := List.length_map _
  have hle := sk.le
  have hml := sk.len
  refine ⟨_, (pss_cons (ps_expr (pe_callX FTw hr (by decide) G (pa_cons (pv 0) (pa_cons (pv 1) pa_nil))))
   (pss_cons (ps_par (i := 3) (j := 4) rfl scJoined.nd rfl rfl (by decide) rfl rfl (pa_cons (pe_callTy call_list_of rfl B.list_ bt_list (pa_cons (pe_ix ix_tup (pv 0) pe_int (fun _ _ => rfl)) pa_nil)) (pa_cons (pe_ix ix_tup (pv 0) pe_int (fun _ _ => rfl)) pa_nil)) rfl)
   (pss_cons (ps_set (i := 2) scJoined.nd rfl (Or.inl rfl) (pe_ix ix_tup (pv 4) (pv 1) (fun _ _ => rfl)))
   (pss_cons (ps_if (PW.pt (pw_and (pt_cmpR op_eq (pe_ix ix_list (pv 3) (pv 1) (fun _ _ => rfl)) (pv 1) (nomark _)) (pw_and1 (pt_cmpR op_eq (pe_ix ix_list (pv 3) (pv 2) (fun _ _ => rfl)) (pv 2) (nomark _)))))
   (pss_one (ps_raiseI rfl IH (by decide) hH kH hr (by decide) (by decide) tx_harm G (pa_cons pe_str pa_nil)))
   pss_nil)
   (pss_cons (ps_asg (pe_tup (pa_cons (pe_ix ix_list (pv 3) (pv 2) (fun _ _ => rfl)) (pa_cons (pe_ix ix_list (pv 3) (pv 1) (fun _ _ => rfl)) pa_nil))) (pg_tup rfl (pgs_cons (pg_sub (pv 3) (pv 1) set_list) (pgs_cons (pg_sub (pv 3) (pv 2) set_list) pgs_nil))))
   (pss_one (ps_ret (pe_callF FWo hr (by decide) (pa_cons (pv 3) (pa_cons (pv 4) (pa_cons (pe_tup (pa_cons (pv 1) (pa_cons (pv 2) pa_nil))) pa_nil))))))))))), ?_⟩
  refine ⟨_, rfl, _, rfl, p, on, ms, half, rfl, SA, hb, fun m g e nm H1 s1 => ?_, fun c od H' ef => q2 _ _ _ (two_join ef)⟩
  obtain ⟨gm, hm2, nmh⟩ := sk.mate g e
  refine ⟨_, rfl, p, _, _, .ref po, rfl, rfl, SqT.of (s1 _ _ h1), at0 _ _, po, _, rfl, .inr (SqT.of (s1 _ _ h2)), fun lo hlo => ?_⟩
  refine ⟨_, rfl, p, _, _, .ref pm, rfl, rfl, SqT.of (up hlo (s1 _ _ h1)), at1 _ _ _, _, _, rfl, ?_⟩
  have flo : H lo = none := s1.free hlo
  have s2 := s1.trans (same_put hlo (.lst (on.map V.int)))
  have go := upd_same (H := H1) (a := lo) (o := .lst (on.map V.int))
  generalize upd H1 lo (.lst (on.map V.int)) = H2 at s2 go ⊢
  refine ⟨_, rfl, _, rfl, pm, _, _, .int m, rfl, rfl, SqT.of (s2 _ _ h3), (by rw [at_lkM g.1 (by rw [sk.len]; exact g.2), e]; rfl), ?_⟩
  have last : lk on half = half ∧ lk on m = m → joinF on ms half = .harm "last" := fun z => by unfold joinF; rw [if_pos g, e]; dsimp only; rw [if_neg nm, if_pos z]
  have goon : ¬ (lk on half = half ∧ lk on m = m) → joinF on ms half = .skin (woOn (swp on half m) [half, m]) (clMs (keptL on.length [half, m]) (lkM ms)) := fun z => by unfold joinF; rw [if_pos g, e]; dsimp only; rw [if_neg nm, if_neg z]
  have hsl := swp_len on half m
  have S' := sk.swapped g gm
  refine ⟨_, rfl, _, rfl, lo, _, _, _, rfl, rfl, SqL.of go, at_lk g.1 g.2, _, rfl, rfl, _, rfl, ite2 (fun c1 => ?_) (fun c1 => itN rfl ?_)⟩
  · refine ⟨_, rfl, _, rfl, lo, _, _, _, rfl, rfl, SqL.of go, at_lk gm.1 gm.2, _, rfl, rfl, _, rfl, ite2 (fun c2 => ?_) (fun c2 => ?_)⟩
    · have eD := last ⟨by simpa using c1, by simpa using c2⟩
      exact ⟨_, rfl, ⟨_, rfl, by decide⟩, fun dx hdx => q2 _ _ _ ⟨s2.trans (same_put hdx _), by rw [eD]; exact ⟨rfl, dx, rfl, upd_same⟩⟩⟩
    · have eD := goon (fun z => by simp at c2; exact c2 z.2)
      refine ⟨_, rfl, _, rfl, lo, _, _, _, rfl, rfl, SqL.of go, at_lk gm.1 gm.2, _, rfl, _, rfl, lo, _, _, _, rfl, rfl, SqL.of go, at_lk g.1 g.2, (by show 2 ≤ sizeLine; decide), fun tp htp => ?_⟩
      have nlt : lo ≠ tp := ne_of_none go htp
      refine ⟨tp, _, rfl, SqT.of upd_same, rfl, _, _, rfl, _, rfl, _, rfl, lo, _, _, half.toNat, rfl, rfl, up htp go, ix_in (n := on.length) (by simp) g, _, _, rfl, _, rfl, _, rfl, lo, _, _, m.toNat, rfl, rfl, upd_same, ix_in (n := on.length) (by simp) gm, rfl, ?_⟩
      rw [set_map, set_map]
      have s3 := same_set (same_set (s2.trans (same_put htp (.tup [V.int (lk on m), V.int (lk on half)]))) flo (o := .lst ((on.set half.toNat (lk on m)).map V.int))) flo (o := .lst ((swp on half m).map V.int))
      have go3 := upd_same (H := upd (upd H2 tp (.tup [V.int (lk on m), V.int (lk on half)])) lo (.lst ((on.set half.toNat (lk on m)).map V.int))) (a := lo) (o := .lst ((swp on half m).map V.int))
      replace s3 : Same H (upd (upd (upd H2 tp (.tup [V.int (lk on m), V.int (lk on half)])) lo (.lst ((on.set half.toNat (lk on m)).map V.int))) lo (.lst (((on.set half.toNat (lk on m)).set m.toNat (lk on half)).map V.int))) := s3
      replace go3 : upd (upd (upd H2 tp (.tup [V.int (lk on m), V.int (lk on half)])) lo (.lst ((on.set half.toNat (lk on m)).map V.int))) lo (.lst (((on.set half.toNat (lk on m)).set m.toNat (lk on half)).map V.int)) lo = some (.lst ((swp on half m).map V.int)) := go3
      generalize upd (upd (upd H2 tp (.tup [V.int (lk on m), V.int (lk on half)])) lo (.lst ((on.set half.toNat (lk on m)).map V.int))) lo (.lst (((on.set half.toNat (lk on m)).set m.toNat (lk on half)).map V.int)) = H3 at s3 go3 ⊢
      refine ⟨_, rfl, _, rfl, _, rfl, _, rfl, (by show 2 ≤ sizeLine; decide), fun tq htq => ?_⟩
      have s4 := s3.trans (same_put htq (.tup [V.int half, V.int m]))
      refine ⟨lo, pm, tq, swp on half m, ms, [half, m], rfl, .inl (SqL.of (up htq go3)), .inr (SqT.of (s4 _ _ h3)), SqT.of upd_same, by rw [hsl]; exact hle, by rw [hsl]; exact hml, fun x gx => S'.lkR gx, fun x gx nx => S'.fol _ gx nx, fun r ro rm H' s' g1 g2 g3 => ?_⟩
      rw [show woMs (swp on half m).length ms [half, m] = clMs (keptL on.length [half, m]) (lkM ms) by unfold woMs; rw [hsl]] at g3
      exact q1 _ _ eD r H' (s4.trans s') ⟨join_ok sk eD, ro, rm, g1, g2, g3⟩
  · have eD := goon (fun z => by simp at c1; exact c1 z.1)
    refine ⟨_, rfl, _, rfl, lo, _, _, _, rfl, rfl, SqL.of go, at_lk gm.1 gm.2, _, rfl, _, rfl, lo, _, _, _, rfl, rfl, SqL.of go, at_lk g.1 g.2, (by show 2 ≤ sizeLine; decide), fun tp htp => ?_⟩
    have nlt : lo ≠ tp := ne_of_none go htp
    refine ⟨tp, _, rfl, SqT.of upd_same, rfl, _, _, rfl, _, rfl, _, rfl, lo, _, _, half.toNat, rfl, rfl, up htp go, ix_in (n := on.length) (by simp) g, _, _, rfl, _, rfl, _, rfl, lo, _, _, m.toNat, rfl, rfl, upd_same, ix_in (n := on.length) (by simp) gm, rfl, ?_⟩
    rw [set_map, set_map]
    have s3 := same_set (same_set (s2.trans (same_put htp (.tup [V.int (lk on m), V.int (lk on half)]))) flo (o := .lst ((on.set half.toNat (lk on m)).map V.int))) flo (o := .lst ((swp on half m).map V.int))
    have go3 := upd_same (H := upd (upd H2 tp (.tup [V.int (lk on m), V.int (lk on half)])) lo (.lst ((on.set half.toNat (lk on m)).map V.int))) (a := lo) (o := .lst ((swp on half m).map V.int))
    replace s3 : Same H (upd (upd (upd H2 tp (.tup [V.int (lk on m), V.int (lk on half)])) lo (.lst ((on.set half.toNat (lk on m)).map V.int))) lo (.lst (((on.set half.toNat (lk on m)).set m.toNat (lk on half)).map V.int))) := s3
    replace go3 : upd (upd (upd H2 tp (.tup [V.int (lk on m), V.int (lk on half)])) lo (.lst ((on.set half.toNat (lk on m)).map V.int))) lo (.lst (((on.set half.toNat (lk on m)).set m.toNat (lk on half)).map V.int)) lo = some (.lst ((swp on half m).map V.int)) := go3
    generalize upd (upd (upd H2 tp (.tup [V.int (lk on m), V.int (lk on half)])) lo (.lst ((on.set half.toNat (lk on m)).map V.int))) lo (.lst (((on.set half.toNat (lk on m)).set m.toNat (lk on half)).map V.int)) = H3 at s3 go3 ⊢
    refine ⟨_, rfl, _, rfl, _, rfl, _, rfl, (by show 2 ≤ sizeLine; decide), fun tq htq => ?_⟩
    have s4 := s3.trans (same_put htq (.tup [V.int half, V.int m]))
    refine ⟨lo, pm, tq, swp on half m, ms, [half, m], rfl, .inl (SqL.of (up htq go3)), .inr (SqT.of (s4 _ _ h3)), SqT.of upd_same, by rw [hsl]; exact hle, by rw [hsl]; exact hml, fun x gx => S'.lkR gx, fun x gx nx => S'.fol _ gx nx, fun r ro rm H' s' g1 g2 g3 => ?_⟩
    rw [show woMs (swp on half m).length ms [half, m] = clMs (keptL on.length [half, m]) (lkM ms) by unfold woMs; rw [hsl]] at g3
    exact q1 _ _ eD r H' (s4.trans s') ⟨join_ok sk eD, ro, rm, g1, g2, g3⟩
theorem scThrees : FnScope ["skin", "half", "both"] ["skin", "half"] (defScope s_two_threes) := ⟨rfl, rfl, rfl, by decide +kernel, rfl, by decide +kernel, by decide +kernel⟩
def spThrees (C : CsA) (tn : Bool) : Sp := fun vs H Q E => ∃ (p : Addr) (on : List Int) (ms : List (Option Int)) (half : Int), vs = [.ref p, .int half] ∧ SkAt H p on ms ∧ half.natAbs.log2 < 1920 ∧
  (∀ m a b c d, InR on.length half → lkM ms half = some m → m ∉ patL on half → patL on half = [half, a, b] → patL on m = [m, c, d] → ∀ r r1 r2 H', Same H H' → H' r = some (.tup [.ref r1, .ref r2]) → H' r1 = some (.tup [.int half, .int a, .int b]) → H' r2 = some (.tup [.int m, .int c, .int d]) → Q (.ref r) H') ∧ (∀ c od H', EF C (turnG tn on ms half) H c od H' → E c od H')
theorem ok_threes (tn : Bool) (B : Bi mg) (IH : InitE P K C.cH S fH "word" "word" (initPts i_Harm) (initTp i_Harm)) (hH : mg "Harm" = some (.ref C.cH)) (kH : PySem.W.keepIn K (.ref C.cH) = true) (FPa : FnX P w K mg base "patch_of" ["skin", "half"] 2 (spHalfT C.cN gPatch)) (FTw : FnX P w K mg base "check_two_patches" ["skin", "half"] 3 (spTwo C))
    (F : Fun K "two_threes" "two_threes" s_two_threes f fd) : FnOk P w K mg base (CXf P w) 4 f fd ["skin", "half"] (spThrees C tn) := by
  refine FunX.ok F scThrees (fun vs H Q E h => ?_) (fun cdv A outer s H vs Q E hr h G => ?_)
  · obtain ⟨p, on, ms, half, rfl, _⟩ := h; rfl
  obtain ⟨p, on, ms, half, rfl, SA, hb, q1, q2⟩ := h
  obtain ⟨sk, po, pm, h1, h2, h3⟩ := id SA
  have hl : (on.map V.int).length = on.length := List.length_map _
  refine ⟨_, (pss_cons (ps_expr (pe_callX FTw hr (by decide) G (pa_cons (pv 0) (pa_cons (pv 1) pa_nil))))
   (pss_cons (ps_set (i := 2) scThrees.nd rfl (Or.inl rfl) (pe_tup (pa_cons (pe_callX FPa hr (by decide) G (pa_cons (pv 0) (pa_cons (pv 1) pa_nil))) (pa_cons (pe_callX FPa hr (by decide) G (pa_cons (pv 0) (pa_cons (pe_ix ix_tup (pe_ix ix_tup (pv 0) pe_int (fun _ _ => rfl)) (pv 1) (fun _ _ => rfl)) pa_nil))) pa_nil))))
   (pss_cons (ps_if (PW.pt (pw_or (pt_cmpR op_ne (pe_callB call_len_seq rfl B.len_ bt_len (pa_cons (pe_ix ix_tup (pv 2) pe_int (fun _ _ => rfl)) pa_nil)) pe_int (nomark _)) (pw_or1 (pt_cmpR op_ne (pe_callB call_len_seq rfl B.len_ bt_len (pa_cons (pe_ix ix_tup (pv 2) pe_int (fun _ _ => rfl)) pa_nil)) pe_int (nomark _)))))
   (pss_one (ps_raiseI rfl IH (by decide) hH kH hr (by decide) (by decide) tx_harm G (pa_cons pe_str pa_nil)))
   pss_nil)
   (pss_one (ps_ret (pv 2)))))), ?_⟩
  refine ⟨_, rfl, _, rfl, p, on, ms, half, rfl, SA, hb, fun m g e nm H1 s1 => ?_, fun c od H' ef => q2 _ _ _ (two_turn ef)⟩
  obtain ⟨gm, _, _⟩ := sk.mate g e
  refine ⟨_, rfl, _, rfl, p, on, ms, half, rfl, SA.same s1, hb, fun _ r1 H2 s2 f1 e1 => ?_, fun ng => absurd g ng⟩
  have s12 := s1.trans s2
  refine ⟨_, rfl, _, rfl, p, _, _, .ref pm, rfl, rfl, SqT.of (s12 _ _ h1), at1 _ _ _, _, rfl, pm, _, _, .int m, rfl, rfl, SqT.of (s12 _ _ h3), (by rw [at_lkM g.1 (by rw [sk.len]; exact g.2), e]; rfl), ?_⟩
  refine ⟨p, on, ms, m, rfl, SA.same s12, small_log (by have := sk.le; omega), fun _ r2 H3 s3 f2 e2 => ?_, fun ng => absurd gm ng⟩
  have s13 := s12.trans s3
  refine ⟨(by show 2 ≤ sizeLine; decide), fun r hr0 => ?_⟩
  have s4 := s13.trans (same_put hr0 (.tup [.ref r1, .ref r2]))
  have gr : upd H3 r (.tup [.ref r1, .ref r2]) r = some (.tup [.ref r1, .ref r2]) := upd_same
  have g1 := same_put hr0 (.tup [.ref r1, .ref r2]) _ _ (s3 _ _ e1)
  have g2 := same_put hr0 (.tup [.ref r1, .ref r2]) _ _ e2
  generalize upd H3 r (.tup [.ref r1, .ref r2]) = H4 at s4 gr g1 g2 ⊢
  have no : ¬ ((patL on half).length = 3 ∧ (patL on m).length = 3) → tRaiseI C.cH "word" okS (fun x => E) (tCons (tC (V.str "three")) tNil) { nx := fun x H' => Q V.non H', rt := Q } [some (.ref p), some (.int half), some (.ref r)] H4 := fun z => by
    have eD := turnG_three (tn := tn) g e nm z
    exact ⟨_, rfl, ⟨_, rfl, by decide⟩, fun dx hdx => q2 _ _ _ ⟨s4.trans (same_put hdx _), by rw [eD]; exact ⟨rfl, dx, rfl, upd_same⟩⟩⟩
  refine ⟨_, rfl, r, _, _, .ref r1, rfl, rfl, SqT.of gr, at0 _ _, r1, _, rfl, .inr (SqT.of g1), rfl, _, rfl, ite2 (fun k1 => itP rfl (no ?_)) (fun k1 => ?_)⟩
  · simp [gPatch] at k1
    omega
  refine ⟨_, rfl, r, _, _, .ref r2, rfl, rfl, SqT.of gr, at1 _ _ _, r2, _, rfl, .inr (SqT.of g2), rfl, _, rfl, ite2 (fun k2 => no ?_) (fun k2 => ?_)⟩
  · simp [gPatch] at k2
    omega
  have l1 : (patL on half).length = 3 := by simp [gPatch] at k1; omega
  have l2 : (patL on m).length = 3 := by simp [gPatch] at k2; omega
  obtain ⟨x, a, b, p1⟩ := len3 l1
  obtain ⟨y, c, d, p2⟩ := len3 l2
  obtain ⟨rfl, _⟩ := pat3 sk g p1
  obtain ⟨rfl, _⟩ := pat3 sk gm p2
  unfold gPatch at g1 g2
  rw [p1] at g1
  rw [p2] at g2
  exact ⟨_, rfl, q1 _ a b c d g e nm p1 p2 r r1 r2 H4 s4 gr g1 g2⟩
theorem scWith : FnScope ["skin", "one", "other", "onward", "first", "second", "third"] ["skin", "one", "other"] (defScope s_with_threes) := ⟨rfl, rfl, rfl, by decide +kernel, rfl, by decide +kernel, by decide +kernel⟩
def spWith : Sp := fun vs H Q _ => ∃ (p po pm u1 u2 : Addr) (on : List Int) (a b c d e g : Int), vs = [.ref p, .ref u1, .ref u2] ∧ H p = some (.tup [.ref po, .ref pm]) ∧ H po = some (.tup (on.map V.int)) ∧ on.length ≤ 400 ∧ (InR on.length a ∧ InR on.length b ∧ InR on.length c ∧ InR on.length d ∧ InR on.length e ∧ InR on.length g) ∧
  H u1 = some (.tup [.int a, .int b, .int c]) ∧ H u2 = some (.tup [.int d, .int e, .int g]) ∧ ∀ r r1 H', Same H H' → H' r = some (.tup [.ref r1, .ref pm]) → H' r1 = some (.tup ((W6 on a b c d e g).map V.int)) → Q (.ref r) H'
theorem ok_with (B : Bi mg) (F : Fun K "with_threes" "with_threes" s_with_threes f fd) : FnOk P w K mg base CX0 1 f fd ["skin", "one", "other"] spWith := by
  refine F.ok scWith (fun vs H Q E h => ?_) (fun cdv A outer s H vs Q E hr h => ?_)
  · obtain ⟨p, po, pm, u1, u2, on, a, b, c, d, e, g, rfl, _⟩ := h; rfl
  obtain ⟨p, po, pm, u1, u2, on, a, b, c, d, e, g, rfl, h1, h2, hle, ⟨ga, gb, gc, gd, ge, gg⟩, e1, e2, q⟩ := h
  refine ⟨_, (pss_cons (ps_set (i := 3) scWith.nd rfl (Or.inl rfl) (pe_callTy call_list_of rfl B.list_ bt_list (pa_cons (pe_ix ix_tup (pv 0) pe_int (fun _ _ => rfl)) pa_nil)))
   (pss_cons (ps_for PassesOwn.never rfl (pi_tup (pe_tup (pa_cons (pv 1) (pa_cons (pv 2) pa_nil)))) (pg_tup rfl (pgs_cons (pg_name (i := 4) scWith.nd rfl (Or.inl rfl)) (pgs_cons (pg_name (i := 5) scWith.nd rfl (Or.inl rfl)) (pgs_cons (pg_name (i := 6) scWith.nd rfl (Or.inl rfl)) pgs_nil))))
   (pss_cons (ps_asg (pv 5) (pg_sub (pv 3) (pv 4) set_list))
   (pss_cons (ps_asg (pv 6) (pg_sub (pv 3) (pv 5) set_list))
   (pss_one (ps_asg (pv 4) (pg_sub (pv 3) (pv 6) set_list))))))
   (pss_one (ps_ret (pe_tup (pa_cons (pe_callTy call_tuple_of rfl B.tuple_ bt_tuple (pa_cons (pv 3) pa_nil)) (pa_cons (pe_ix ix_tup (pv 0) pe_int (fun _ _ => rfl)) pa_nil))))))), ?_⟩
  refine ⟨_, rfl, p, _, _, .ref po, rfl, rfl, SqT.of h1, at0 _ _, po, _, rfl, .inr (SqT.of h2), fun l hl0 => ?_⟩
  have nl : ∀ z u, H z = some u → z ≠ l := fun z u hz => ne_of_none hz hl0
  refine ⟨_, rfl, _, rfl, (by show 2 ≤ sizeLine; decide), fun tp htp => ?_⟩
  have ntl : tp ≠ l := (ne_of_none upd_same htp).symm
  refine ⟨tp, rfl, ⟨_, SqT.of upd_same⟩, for_tup (K := K) (a := tp) (xs := [V.ref u1, V.ref u2])
    (fun i σ H' => ∃ o1 o2 o3 : Option V, σ = [some (.ref p), some (.ref u1), some (.ref u2), some (.ref l), o1, o2, o3] ∧ (∀ z u, H z = some u → H' z = some u) ∧ H' tp = some (.tup [V.ref u1, V.ref u2]) ∧
      H' l = some (.lst ((if i = 0 then on else if i = 1 then ((on.set a.toNat b).set b.toNat c).set c.toNat a else W6 on a b c d e g).map V.int)))
    ⟨none, none, none, rfl, fun z u hz => up htp (by rw [upd_ne (nl z u hz)]; exact hz), upd_same, by rw [upd_ne ntl.symm]; exact upd_same⟩ (fun i σ H' _ ⟨_, _, _, _, _, z, _⟩ => SqT.of z) ?_ ?_⟩
  · rintro i x σ H' hx ⟨o1, o2, o3, rfl, ho, ht, hl'⟩
    match i, hx with
    | 0, hx =>
      obtain rfl : V.ref u1 = x := Option.some.inj hx
      refine ⟨u1, _, rfl, SqT.of (ho _ _ e1), rfl, _, _, rfl, _, _, rfl, _, _, rfl, rfl, ?_⟩
      refine ⟨_, rfl, _, rfl, _, rfl, l, _, _, _, rfl, rfl, hl', ix_in (by simp) ga, ?_⟩
      refine ⟨_, rfl, _, rfl, _, rfl, l, _, _, _, rfl, rfl, upd_same, ix_in (by simp) gb, ?_⟩
      refine ⟨_, rfl, _, rfl, _, rfl, l, _, _, _, rfl, rfl, upd_same, ix_in (by simp) gc, ?_⟩
      refine ⟨_, _, _, rfl, fun z u hz => by rw [upd_ne (nl z u hz), upd_ne (nl z u hz), upd_ne (nl z u hz)]; exact ho z u hz, by rw [upd_ne ntl, upd_ne ntl, upd_ne ntl]; exact ht, ?_⟩
      rw [upd_same, set_map, set_map, set_map]; rfl
    | 1, hx =>
      obtain rfl : V.ref u2 = x := Option.some.inj hx
      refine ⟨u2, _, rfl, SqT.of (ho _ _ e2), rfl, _, _, rfl, _, _, rfl, _, _, rfl, rfl, ?_⟩
      refine ⟨_, rfl, _, rfl, _, rfl, l, _, _, _, rfl, rfl, hl', ix_in (by simp) gd, ?_⟩
      refine ⟨_, rfl, _, rfl, _, rfl, l, _, _, _, rfl, rfl, upd_same, ix_in (by simp) ge, ?_⟩
      refine ⟨_, rfl, _, rfl, _, rfl, l, _, _, _, rfl, rfl, upd_same, ix_in (by simp) gg, ?_⟩
      refine ⟨_, _, _, rfl, fun z u hz => by rw [upd_ne (nl z u hz), upd_ne (nl z u hz), upd_ne (nl z u hz)]; exact ho z u hz, by rw [upd_ne ntl, upd_ne ntl, upd_ne ntl]; exact ht, ?_⟩
      rw [upd_same, set_map, set_map, set_map]; rfl
  · rintro σ H' ⟨o1, o2, o3, rfl, ho, ht, hl'⟩
    replace hl' : H' l = some (.lst ((W6 on a b c d e g).map V.int)) := hl'
    refine ⟨_, rfl, l, _, rfl, .inl ⟨SqL.of hl', fun r1 hr1 => ?_⟩⟩
    refine ⟨_, rfl, p, _, _, .ref pm, rfl, rfl, SqT.of (up hr1 (ho _ _ h1)), at1 _ _ _, (by show 2 ≤ sizeLine; decide), fun r hr0 => ?_⟩
    exact q r r1 _ (fun z u hz => up hr0 (up hr1 (ho z u hz))) upd_same (up hr0 upd_same)
theorem scTurned : FnScope ["skin", "half", "one", "after", "last", "mate", "mate_after", "mate_last"] ["skin", "half"] (defScope s_turned) := ⟨rfl, rfl, rfl, by decide +kernel, rfl, by decide +kernel, by decide +kernel⟩
theorem ok_turned (B : Bi mg) (F3 : FnX P w K mg base "two_threes" ["skin", "half"] 4 (spThrees C true)) (FW : Fn P w K mg base "with_threes" ["skin", "one", "other"] 1 spWith)
    (F : Fun K "turned" "turned" s_turned f fd) : FnOk P w K mg base (CXf P w) 5 f fd ["skin", "half"] (spDeed C (turnG true)) := by
  refine FunX.ok F scTurned (fun vs H Q E h => ?_) (fun cdv A outer s H vs Q E hr h G => ?_)
  · obtain ⟨p, on, ms, half, rfl, _⟩ := h; rfl
  obtain ⟨p, on, ms, half, rfl, SA, hb, q1, q2⟩ := h
  obtain ⟨sk, po, pm, h1, h2, h3⟩ := id SA
  have hl : (on.map V.int).length = on.length := List.length_map _
  have hle := sk.le
  have hml := sk.len
  refine ⟨_, (pss_cons (ps_asg (pe_callX F3 hr (by decide) G (pa_cons (pv 0) (pa_cons (pv 1) pa_nil))) (pg_tup rfl (pgs_cons (pg_tup rfl (pgs_cons (pg_name (i := 2) scTurned.nd rfl (Or.inl rfl)) (pgs_cons (pg_name (i := 3) scTurned.nd rfl (Or.inl rfl)) (pgs_cons (pg_name (i := 4) scTurned.nd rfl (Or.inl rfl)) pgs_nil)))) (pgs_cons (pg_tup rfl (pgs_cons (pg_name (i := 5) scTurned.nd rfl (Or.inl rfl)) (pgs_cons (pg_name (i := 6) scTurned.nd rfl (Or.inl rfl)) (pgs_cons (pg_name (i := 7) scTurned.nd rfl (Or.inl rfl)) pgs_nil)))) pgs_nil))))
   (pss_one (ps_ret (pe_callF FW hr (by decide) (pa_cons (pv 0) (pa_cons (pe_tup (pa_cons (pv 2) (pa_cons (pv 4) (pa_cons (pv 6) pa_nil)))) (pa_cons (pe_tup (pa_cons (pv 5) (pa_cons (pv 7) (pa_cons (pv 3) pa_nil)))) pa_nil))))))), ?_⟩
  refine ⟨_, rfl, _, rfl, p, on, ms, half, rfl, SA, hb, fun m a b c d g e nm p1 p2 r r1 r2 H1 s1 gr g1 g2 => ?_, q2⟩
  obtain ⟨gm, _, _⟩ := sk.mate g e
  have X6 := six_of sk g gm p1 p2 nm
  have eD := turnG_skin (tn := true) g e nm p1 p2
  refine ⟨r, _, rfl, SqT.of gr, rfl, _, _, rfl, r1, _, rfl, SqT.of g1, rfl, _, _, rfl, _, _, rfl, _, _, rfl, rfl, _, _, rfl, r2, _, rfl, SqT.of g2, rfl, _, _, rfl, _, _, rfl, _, _, rfl, rfl, rfl, ?_⟩
  refine ⟨_, rfl, _, rfl, _, rfl, _, rfl, (by show 3 ≤ sizeLine; decide), fun u1 hu1 => ?_⟩
  refine ⟨_, rfl, _, rfl, _, rfl, (by show 3 ≤ sizeLine; decide), fun u2 hu2 => ?_⟩
  have s2 := (s1.trans (same_put hu1 (.tup [.int half, .int b, .int c]))).trans (same_put hu2 (.tup [.int m, .int d, .int a]))
  exact ⟨p, po, pm, u1, u2, on, half, b, c, m, d, a, rfl, s2 _ _ h1, s2 _ _ h2, sk.le, ⟨X6.gh, X6.gb, X6.gc, X6.gm, X6.gd, X6.ga⟩, up hu2 upd_same, upd_same, fun r3 r4 H' s3 g3 g4 => q1 _ _ eD r3 H' (s2.trans s3) ⟨turnG_ok sk eD, r4, pm, g3, g4, (s2.trans s3) _ _ h3⟩⟩
theorem scUnturned : FnScope ["skin", "half", "one", "after", "last", "mate", "mate_after", "mate_last"] ["skin", "half"] (defScope s_unturned) := ⟨rfl, rfl, rfl, by decide +kernel, rfl, by decide +kernel, by decide +kernel⟩
theorem ok_unturned (B : Bi mg) (F3 : FnX P w K mg base "two_threes" ["skin", "half"] 4 (spThrees C false)) (FW : Fn P w K mg base "with_threes" ["skin", "one", "other"] 1 spWith)
    (F : Fun K "unturned" "unturned" s_unturned f fd) : FnOk P w K mg base (CXf P w) 5 f fd ["skin", "half"] (spDeed C (turnG false)) := by
  refine FunX.ok F scUnturned (fun vs H Q E h => ?_) (fun cdv A outer s H vs Q E hr h G => ?_)
  · obtain ⟨p, on, ms, half, rfl, _⟩ := h; rfl
  obtain ⟨p, on, ms, half, rfl, SA, hb, q1, q2⟩ := h
  obtain ⟨sk, po, pm, h1, h2, h3⟩ := id SA
  have hl : (on.map V.int).length = on.length := List.length_map _
  have hle := sk.le
  have hml := sk.len
  refine ⟨_, (pss_cons (ps_asg (pe_callX F3 hr (by decide) G (pa_cons (pv 0) (pa_cons (pv 1) pa_nil))) (pg_tup rfl (pgs_cons (pg_tup rfl (pgs_cons (pg_name (i := 2) scUnturned.nd rfl (Or.inl rfl)) (pgs_cons (pg_name (i := 3) scUnturned.nd rfl (Or.inl rfl)) (pgs_cons (pg_name (i := 4) scUnturned.nd rfl (Or.inl rfl)) pgs_nil)))) (pgs_cons (pg_tup rfl (pgs_cons (pg_name (i := 5) scUnturned.nd rfl (Or.inl rfl)) (pgs_cons (pg_name (i := 6) scUnturned.nd rfl (Or.inl rfl)) (pgs_cons (pg_name (i := 7) scUnturned.nd rfl (Or.inl rfl)) pgs_nil)))) pgs_nil))))
   (pss_one (ps_ret (pe_callF FW hr (by decide) (pa_cons (pv 0) (pa_cons (pe_tup (pa_cons (pv 2) (pa_cons (pv 7) (pa_cons (pv 3) pa_nil)))) (pa_cons (pe_tup (pa_cons (pv 5) (pa_cons (pv 4) (pa_cons (pv 6) pa_nil)))) pa_nil))))))), ?_⟩
  refine ⟨_, rfl, _, rfl, p, on, ms, half, rfl, SA, hb, fun m a b c d g e nm p1 p2 r r1 r2 H1 s1 gr g1 g2 => ?_, q2⟩
  obtain ⟨gm, _, _⟩ := sk.mate g e
  have X6 := six_of sk g gm p1 p2 nm
  have eD := turnG_skin (tn := false) g e nm p1 p2
  refine ⟨r, _, rfl, SqT.of gr, rfl, _, _, rfl, r1, _, rfl, SqT.of g1, rfl, _, _, rfl, _, _, rfl, _, _, rfl, rfl, _, _, rfl, r2, _, rfl, SqT.of g2, rfl, _, _, rfl, _, _, rfl, _, _, rfl, rfl, rfl, ?_⟩
  refine ⟨_, rfl, _, rfl, _, rfl, _, rfl, (by show 3 ≤ sizeLine; decide), fun u1 hu1 => ?_⟩
  refine ⟨_, rfl, _, rfl, _, rfl, (by show 3 ≤ sizeLine; decide), fun u2 hu2 => ?_⟩
  have s2 := (s1.trans (same_put hu1 (.tup [.int half, .int d, .int a]))).trans (same_put hu2 (.tup [.int m, .int b, .int c]))
  exact ⟨p, po, pm, u1, u2, on, half, d, a, m, b, c, rfl, s2 _ _ h1, s2 _ _ h2, sk.le, ⟨X6.gh, X6.gd, X6.ga, X6.gm, X6.gb, X6.gc⟩, up hu2 upd_same, upd_same, fun r3 r4 H' s3 g3 g4 => q1 _ _ eD r3 H' (s2.trans s3) ⟨turnG_ok sk eD, r4, pm, g3, g4, (s2.trans s3) _ _ h3⟩⟩
theorem scCut : FnScope ["skin", "half", "other", "new", "onward", "mates"] ["skin", "half", "other"] (defScope s_cut) := ⟨rfl, rfl, rfl, by decide +kernel, rfl, by decide +kernel, by decide +kernel⟩
theorem ok_cut (B : Bi mg) (ownU : OwnE K C.cU) (hU : mg "Unlike" = some (.ref C.cU)) (FC : FnX P w K mg base "check_half" ["skin", "half"] 1 (spCheck K C.cN)) (FRm : FnX P w K mg base "check_room" ["skin", "many"] 1 (spRoom K C.cT)) (FPa : FnX P w K mg base "patch_of" ["skin", "half"] 2 (spHalfT C.cN gPatch)) (FAh : FnX P w K mg base "ahead_of" ["skin", "half"] 2 (spHalf C.cN gAhead))
    (F : Fun K "cut" "cut" s_cut f fd) : FnOk P w K mg base (CXf P w) 3 f fd ["skin", "half", "other"] (spDeed2 C cutF) := by
  refine FunX.ok F scCut (fun vs H Q E h => ?_) (fun cdv A outer s H vs Q E hr h G => ?_)
  · obtain ⟨p, on, ms, half, other, rfl, _⟩ := h; rfl
  obtain ⟨p, on, ms, half, other, rfl, SA, hb, hbo, q1, q2⟩ := h
  obtain ⟨sk, po, pm, h1, h2, h3⟩ := id SA
  have hl : (on.map V.int).length = on.length := List.length_map _
  have hle := sk.le
  have hml := sk.len
  refine ⟨_, (pss_cons (ps_expr (pe_callX FC hr (by decide) G (pa_cons (pv 0) (pa_cons (pv 1) pa_nil))))
   (pss_cons (ps_expr (pe_callX FC hr (by decide) G (pa_cons (pv 0) (pa_cons (pv 2) pa_nil))))
   (pss_cons (ps_if (pt_cmpR op_notIn_seq (pv 2) (pe_callX FPa hr (by decide) G (pa_cons (pv 0) (pa_cons (pv 1) pa_nil))) rfl)
   (pss_one (ps_raise rfl ownU hU G (pa_cons (pe_fstr (pj_raw pe_str (pj_int (pv 1) (pj_raw pe_str (pj_int (pv 2) (pj_raw pe_str pj_nil)))))) pa_nil)))
   pss_nil)
   (pss_cons (ps_expr (pe_callX FRm hr (by decide) G (pa_cons (pv 0) (pa_cons pe_int pa_nil))))
   (pss_cons (ps_par (i := 4) (j := 5) rfl scCut.nd rfl rfl (by decide) rfl rfl (pa_cons (pe_callTy call_list_of rfl B.list_ bt_list (pa_cons (pe_ix ix_tup (pv 0) pe_int (fun _ _ => rfl)) pa_nil)) (pa_cons (pe_callTy call_list_of rfl B.list_ bt_list (pa_cons (pe_ix ix_tup (pv 0) pe_int (fun _ _ => rfl)) pa_nil)) pa_nil)) rfl)
   (pss_cons (ps_set (i := 3) scCut.nd rfl (Or.inl rfl) (pe_callB call_len_seq rfl B.len_ bt_len (pa_cons (pv 4) pa_nil)))
   (pss_cons (ps_expr (pe_bm PySem.F.plainAttrs_list PySem.F.slot_list_extend PySem.F.type_list_extend mt_extend (pv 4) (pa_cons (pe_lst (pa_cons (pv 1) (pa_cons (pv 2) pa_nil))) pa_nil)))
   (pss_cons (ps_asg (pv 3) (pg_sub (pv 4) (pe_callX FAh hr (by decide) G (pa_cons (pv 0) (pa_cons (pv 2) pa_nil))) set_list))
   (pss_cons (ps_asg (pe_op op_add (pv 3) pe_int) (pg_sub (pv 4) (pe_callX FAh hr (by decide) G (pa_cons (pv 0) (pa_cons (pv 1) pa_nil))) set_list))
   (pss_cons (ps_if (pt_cmpR op_eq (pv 1) (pv 2) (nomark _))
   (pss_one (ps_asg (pv 3) (pg_sub (pv 4) (pv 3) set_list)))
   pss_nil)
   (pss_cons (ps_expr (pe_bm PySem.F.plainAttrs_list PySem.F.slot_list_extend PySem.F.type_list_extend mt_extend (pv 5) (pa_cons (pe_lst (pa_cons (pe_op op_add (pv 3) pe_int) (pa_cons (pv 3) pa_nil))) pa_nil)))
   (pss_one (ps_ret (pe_tup (pa_cons (pe_callTy call_tuple_of rfl B.tuple_ bt_tuple (pa_cons (pv 4) pa_nil)) (pa_cons (pe_callTy call_tuple_of rfl B.tuple_ bt_tuple (pa_cons (pv 5) pa_nil)) pa_nil)))))))))))))))), ?_⟩
  refine ⟨_, rfl, _, rfl, p, po, _, _, half, rfl, SqT.of h1, SqT.of h2, hb, fun g => ?_, fun g => q2 _ _ _ ⟨Same.refl _, by unfold cutF; rw [if_neg (fun z => g (by rw [hl]; exact z.1))]; exact ⟨rfl, rfl⟩⟩⟩
  rw [hl] at g
  replace g : InR on.length half := g
  refine ⟨_, rfl, _, rfl, p, po, _, _, other, rfl, SqT.of h1, SqT.of h2, hbo, fun go0 => ?_, fun go0 => q2 _ _ _ ⟨Same.refl _, by unfold cutF; rw [if_neg (fun z => go0 (by rw [hl]; exact z.2))]; exact ⟨rfl, rfl⟩⟩⟩
  rw [hl] at go0
  replace go0 : InR on.length other := go0
  refine ⟨_, rfl, _, rfl, _, rfl, p, on, ms, half, rfl, SA, hb, fun _ rp H1 s1 f1 e1 => ?_, fun ng => absurd g ng⟩
  unfold gPatch at e1
  refine ⟨rp, _, rfl, .inr (SqT.of e1), rfl, flat_map _, _, rfl, ?_⟩
  rw [notin_ints]
  refine ite2 (fun c => ?_) (fun c => ?_)
  · have c : other ∉ patL on half := by simpa using c
    have eD : cutF on ms half other = .unlike := by unfold cutF; rw [if_pos ⟨g, go0⟩, if_neg c]
    exact ⟨_, rfl, by decide, _, rfl, _, rfl, hb, _, rfl, by decide, _, rfl, _, rfl, hbo, _, rfl, by decide, fun txt => ⟨(by show 1 ≤ 100; decide), q2 _ _ _ ⟨s1, by rw [eD]; exact ⟨rfl, rfl⟩⟩⟩⟩
  have c : other ∈ patL on half := by simpa using c
  have s0 := s1
  refine ⟨_, rfl, p, po, _, _, _, rfl, SqT.of (s0 _ _ h1), SqT.of (s0 _ _ h2), fun rm => ?_, fun rm => q2 _ _ _ ⟨s0, ?_⟩⟩
  rotate_left
  · unfold cutF
    rw [hl] at rm
    rw [if_pos ⟨g, go0⟩, if_pos c, if_neg (by omega)]; exact ⟨rfl, rfl⟩
  rw [hl] at rm
  have rm' : on.length + 2 ≤ 400 := by omega
  refine ⟨_, rfl, p, _, _, .ref po, rfl, rfl, SqT.of (s0 _ _ h1), at0 _ _, po, _, rfl, .inr (SqT.of (s0 _ _ h2)), fun lo hlo => ?_⟩
  refine ⟨_, rfl, p, _, _, .ref pm, rfl, rfl, SqT.of (up hlo (s0 _ _ h1)), at1 _ _ _, pm, _, rfl, .inr (SqT.of (up hlo (s0 _ _ h3))), fun lm hlm => ⟨_, _, rfl, ?_⟩⟩
  have nom : lo ≠ lm := ne_of_none upd_same hlm
  have flo : H lo = none := s0.free hlo
  have flm : H lm = none := (s0.trans (same_put hlo _)).free hlm
  have sA := (s0.trans (same_put hlo (.lst (on.map V.int)))).trans (same_put hlm (.lst (ms.map mV)))
  have go := up hlm (upd_same (H := H1) (a := lo) (o := .lst (on.map V.int))) (o := .lst (ms.map mV))
  have gm := upd_same (H := upd H1 lo (.lst (on.map V.int))) (a := lm) (o := .lst (ms.map mV))
  generalize upd (upd H1 lo (.lst (on.map V.int))) lm (.lst (ms.map mV)) = HA at sA go gm ⊢
  refine ⟨_, rfl, lo, _, rfl, .inl (SqL.of go), ?_⟩
  rw [hl]
  refine ⟨_, rfl, .inl ⟨rfl, _, SqL.of go⟩, _, rfl, _, rfl, (by show 2 ≤ sizeLine; decide), fun la hla => ?_⟩
  have nlo : lo ≠ la := ne_of_none go hla
  have nlm : lm ≠ la := ne_of_none gm hla
  refine ⟨lo, la, _, _, rfl, rfl, up hla go, upd_same, by rw [hl, sizeLine_eq]; show on.length + 2 ≤ _; omega, ?_⟩
  have e0 : on.map V.int ++ [V.int half, V.int other] = ((on ++ [half]) ++ [other]).map V.int := by simp
  rw [e0]
  have sB := same_set (sA.trans (same_put hla (.lst [V.int half, V.int other]))) flo (o := .lst (((on ++ [half]) ++ [other]).map V.int))
  have goB := upd_same (H := upd HA la (.lst [V.int half, V.int other])) (a := lo) (o := .lst (((on ++ [half]) ++ [other]).map V.int))
  have gmB : upd (upd HA la (.lst [V.int half, V.int other])) lo (.lst (((on ++ [half]) ++ [other]).map V.int)) lm = some (.lst (ms.map mV)) := by rw [upd_ne nom.symm, upd_ne nlm]; exact gm
  generalize upd (upd HA la (.lst [V.int half, V.int other])) lo (.lst (((on ++ [half]) ++ [other]).map V.int)) = HB at sB goB gmB ⊢
  have gao := sk.ahR go0
  have gah := sk.ahR g
  refine ⟨_, rfl, _, rfl, _, rfl, _, rfl, p, on, ms, other, rfl, SA.same sB, hbo, fun _ => ⟨lo, _, _, (ahd on other).toNat, rfl, rfl, goB, ix_in (n := on.length + 2) (by simp) (by unfold InR at gao ⊢; omega), ?_⟩, fun ng => absurd go0 ng⟩
  rw [set_map]
  have sC := same_set sB flo (o := .lst ((((on ++ [half]) ++ [other]).set (ahd on other).toNat (on.length : Int)).map V.int))
  have goC := upd_same (H := HB) (a := lo) (o := .lst ((((on ++ [half]) ++ [other]).set (ahd on other).toNat (on.length : Int)).map V.int))
  have gmC : upd HB lo (.lst ((((on ++ [half]) ++ [other]).set (ahd on other).toNat (on.length : Int)).map V.int)) lm = _ := (upd_ne nom.symm).trans gmB
  generalize upd HB lo (.lst ((((on ++ [half]) ++ [other]).set (ahd on other).toNat (on.length : Int)).map V.int)) = HC at sC goC gmC ⊢
  refine ⟨_, rfl, _, _, rfl, rfl, _, rfl, _, rfl, _, rfl, p, on, ms, half, rfl, SA.same sC, hb, fun _ => ⟨lo, _, _, (ahd on half).toNat, rfl, rfl, goC, ix_in (n := on.length + 2) (by simp) (by unfold InR at gah ⊢; omega), ?_⟩, fun ng => absurd g ng⟩
  rw [set_map]
  have sD := same_set sC flo (o := .lst (((((on ++ [half]) ++ [other]).set (ahd on other).toNat (on.length : Int)).set (ahd on half).toNat ((on.length : Int) + 1)).map V.int))
  have goD := upd_same (H := HC) (a := lo) (o := .lst (((((on ++ [half]) ++ [other]).set (ahd on other).toNat (on.length : Int)).set (ahd on half).toNat ((on.length : Int) + 1)).map V.int))
  have gmD : upd HC lo (.lst (((((on ++ [half]) ++ [other]).set (ahd on other).toNat (on.length : Int)).set (ahd on half).toNat ((on.length : Int) + 1)).map V.int)) lm = _ := (upd_ne nom.symm).trans gmC
  generalize upd HC lo (.lst (((((on ++ [half]) ++ [other]).set (ahd on other).toNat (on.length : Int)).set (ahd on half).toNat ((on.length : Int) + 1)).map V.int)) = HD at sD goD gmD ⊢
  have eD : cutF on ms half other = .skin (clOn (rngL (on.length + 2)) (cutN on half other)) (clMs (rngL (on.length + 2)) (cutT on.length ms)) := by
    unfold cutF; rw [if_pos ⟨g, go0⟩, if_pos c, if_pos rm']
  have sk2 := cut_ok sk eD
  obtain ⟨PP, QQ, ep⟩ := List.append_of_mem c
  have RC := sk.cutR g ep
  have base1 : ∀ x, InR (on.length + 2) x → lk (((((on ++ [half]) ++ [other]).set (ahd on other).toNat (on.length : Int)).set (ahd on half).toNat ((on.length : Int) + 1))) x = if x = ahd on half then (on.length : Int) + 1 else if x = ahd on other then (on.length : Int) else if x = (on.length : Int) + 1 then other else if x = (on.length : Int) then half else lk on x := fun x gx => by
    rw [lk_setI (by unfold InR at gah ⊢; simp; omega) gx.1, lk_setI (by unfold InR at gao ⊢; simp; omega) gx.1, lk_snoc gx.1 (by unfold InR at gx; simp; omega)]
    rw [show ((on ++ [half]).length : Int) = (on.length : Int) + 1 by simp]
    by_cases k : x = (on.length : Int) + 1
    · simp only [if_pos k]
    · simp only [if_neg k]
      rw [lk_snoc gx.1 (by unfold InR at gx; omega)]
  have eM : ms.map mV ++ [V.int ((on.length : Int) + 1), V.int (on.length : Int)] = (clMs (rngL (on.length + 2)) (cutT on.length ms)).map mV := by
    rw [show ms.map mV ++ [V.int ((on.length : Int) + 1), V.int (on.length : Int)] = ((ms ++ [some ((on.length : Int) + 1)]) ++ [some (on.length : Int)]).map mV by simp [mV]]
    rw [← ms_rngL (ms := (ms ++ [some ((on.length : Int) + 1)]) ++ [some (on.length : Int)]) (by simp [hml]) (fun x y gx ex => ?_) (fun x gx => ?_)]
    · unfold cutT at ex
      unfold InR at gx ⊢
      split at ex
      · cases ex; omega
      split at ex
      · cases ex; omega
      · have := (sk.mtS gx.1 ex).2.1; unfold InR at this; omega
    · rw [lkM_snoc gx.1, lkM_snoc gx.1, show ((ms ++ [some ((on.length : Int) + 1)]).length : Int) = (on.length : Int) + 1 by simp [hml], show (ms.length : Int) = (on.length : Int) by rw [hml]]
      unfold cutT
      by_cases k1 : x = (on.length : Int)
      · rw [if_neg (by omega), if_pos k1, if_pos k1]
      · rw [if_neg k1, if_neg k1]
  have hlm : (ms.map mV).length = ms.length := List.length_map _
  dsimp only [gName]
  refine seq_join (fun σ HE => σ = [some (.ref p), some (.int half), some (.int other), some (.int (on.length : Int)), some (.ref lo), some (.ref lm)] ∧ Same H HE ∧ HE lo = some (.lst ((clOn (rngL (on.length + 2)) (cutN on half other)).map V.int)) ∧ HE lm = some (.lst (ms.map mV))) (fun {Nx} hN => ?_) ?_
  · refine ⟨_, rfl, _, rfl, rfl, _, rfl, ite2 (fun c1 => ?_) (fun c1 => ?_)⟩
    · have c1 : half = other := by simpa using c1
      refine ⟨_, rfl, _, rfl, _, rfl, lo, _, _, on.length, rfl, rfl, goD, ix_in (k := (on.length : Int)) (n := on.length + 2) (by simp) (by unfold InR; omega), ?_⟩
      rw [set_map]
      refine hN _ _ ⟨rfl, same_set sD flo, ?_, by rw [upd_ne nom.symm]; exact gmD⟩
      rw [upd_same, on_rngL (on := (((((on ++ [half]) ++ [other]).set (ahd on other).toNat (on.length : Int)).set (ahd on half).toNat ((on.length : Int) + 1)).set on.length (on.length : Int))) (nx := cutN on half other) (by simp) (fun x gx => RC.into gx) (fun x gx => ?_)]
      have e9 := lk_setI (l := ((((on ++ [half]) ++ [other]).set (ahd on other).toNat (on.length : Int)).set (ahd on half).toNat ((on.length : Int) + 1))) (j := (on.length : Int)) (v := (on.length : Int)) (x := x) (by unfold InR; simp; omega) gx.1
      rw [Int.toNat_natCast] at e9
      rw [e9]
      by_cases k : x = (on.length : Int)
      · unfold cutN
        unfold InR at gah gao
        rw [if_pos k, if_neg (by omega), if_neg (by omega), if_pos k, if_pos c1]
      · rw [if_neg k, base1 x gx]
        unfold cutN
        simp only [if_neg k]
    · have c1 : half ≠ other := by simpa using c1
      refine hN _ _ ⟨rfl, sD, ?_, gmD⟩
      rw [goD, on_rngL (on := ((((on ++ [half]) ++ [other]).set (ahd on other).toNat (on.length : Int)).set (ahd on half).toNat ((on.length : Int) + 1))) (nx := cutN on half other) (by simp) (fun x gx => RC.into gx) (fun x gx => ?_)]
      rw [base1 x gx]
      unfold cutN
      by_cases k : x = (on.length : Int)
      · simp only [if_neg (show ¬ x = (on.length : Int) + 1 by omega), if_pos k, if_neg c1]
      · simp only [if_neg k]
  rintro σ HE ⟨rfl, sE, goE, gmE⟩
  refine ⟨_, rfl, .inl ⟨rfl, _, SqL.of gmE⟩, _, rfl, _, _, rfl, rfl, _, rfl, (by show 2 ≤ sizeLine; decide), fun lb hlb => ?_⟩
  have nlo2 : lo ≠ lb := ne_of_none goE hlb
  have nlm2 : lm ≠ lb := ne_of_none gmE hlb
  refine ⟨lm, lb, _, _, rfl, rfl, up hlb gmE, upd_same, by rw [hlm, sizeLine_eq]; show ms.length + 2 ≤ _; omega, ?_⟩
  rw [eM]
  have sB := same_set (sE.trans (same_put hlb (.lst [V.int ((on.length : Int) + 1), V.int (on.length : Int)]))) flm (o := .lst ((clMs (rngL (on.length + 2)) (cutT on.length ms)).map mV))
  have gO : upd (upd HE lb (.lst [V.int ((on.length : Int) + 1), V.int (on.length : Int)])) lm (.lst ((clMs (rngL (on.length + 2)) (cutT on.length ms)).map mV)) lo = _ := (upd_ne nom).trans ((upd_ne nlo2).trans goE)
  have gM := upd_same (H := upd HE lb (.lst [V.int ((on.length : Int) + 1), V.int (on.length : Int)])) (a := lm) (o := .lst ((clMs (rngL (on.length + 2)) (cutT on.length ms)).map mV))
  refine ⟨_, rfl, lo, _, rfl, .inl ⟨SqL.of gO, fun r1 hr1 => ⟨_, rfl, lm, _, rfl, .inl ⟨SqL.of (up hr1 gM), fun r2 hr2 => ⟨(by show 2 ≤ sizeLine; decide), fun r hr0 => ?_⟩⟩⟩⟩⟩
  exact q1 _ _ eD r _ (((sB.trans (same_put hr1 _)).trans (same_put hr2 _)).trans (same_put hr0 _)) ⟨sk2, r1, r2, upd_same, up hr0 (up hr2 upd_same), up hr0 upd_same⟩
end
end Hs
set_option Elab.async false
set_option linter.all false
set_option maxRecDepth 100000
set_option maxHeartbeats 4000000
namespace Hs
open PySem L2
section
variable {P : Program} {w : World} {K : PySem.W.Frag} {mg : Str → Option Value} {base : Heap} {f : Addr} {fd : FuncData} {C : CsA} {S fH : Addr} {tM : Tok}
theorem flat_dis {rows : List (List Int)} (h : rows.flatten.Nodup) {i j : Nat} {r r' : List Int} (hi : rows[i]? = some r) (hj : rows[j]? = some r') (ne : i ≠ j) {x : Int} (hx : x ∈ r) : x ∉ r' := fun hx' => by
  induction rows generalizing i j with
  | nil => simp at hi
  | cons q rs ih =>
    rw [List.flatten_cons] at h
    obtain ⟨_, n2, n3⟩ := List.nodup_append.mp h
    cases i with
    | zero =>
      cases j with
      | zero => exact ne rfl
      | succ j =>
        obtain rfl : q = r := by simpa using hi
        exact n3 x hx x (List.mem_flatten.mpr ⟨r', List.mem_of_getElem? (by simpa using hj), hx'⟩) rfl
    | succ i =>
      cases j with
      | zero =>
        obtain rfl : q = r' := by simpa using hj
        exact n3 x hx' x (List.mem_flatten.mpr ⟨r, List.mem_of_getElem? (by simpa using hi), hx⟩) rfl
      | succ j => exact ih n2 (by simpa using hi) (by simpa using hj) (by omega)
theorem int_inj {a b : List Int} (h : a.map V.int = b.map V.int) : a = b := by
  induction a generalizing b with
  | nil => cases b with
    | nil => rfl
    | cons y b => simp at h
  | cons x a ih => cases b with
    | nil => simp at h
    | cons y b =>
      rw [List.map_cons, List.map_cons] at h
      injection h with h1 h2
      injection h1 with h1
      rw [h1, ih h2]
theorem RowsAt.put {H : Hp} {lr : Addr} {rs : List Addr} {rows : List (List Int)} (R : RowsAt H lr rs rows) (nd : rows.flatten.Nodup) {i : Nat} {r : Addr} {row row' : List Int} {a : Int} (hi : rows[i]? = some row) (ha : a ∈ row) (hr : rs[i]? = some r) : RowsAt (upd H r (.lst (row'.map V.int))) lr rs (rows.set i row') := by
  have h0 := R.at_ i r row hr hi
  refine ⟨?_, by rw [List.length_set]; exact R.len, fun j q w hq hw => ?_⟩
  · rw [upd_ne]
    · exact R.top
    · intro z
      have t := R.top
      rw [z, h0] at t
      have t := HO.lst.inj (Option.some.inj t)
      cases row with
      | nil => cases ha
      | cons x row =>
        cases rs with
        | nil => simp at hr
        | cons y rs => simp at t
  · rw [List.getElem?_set] at hw
    by_cases e : i = j
    · subst e
      rw [if_pos rfl] at hw
      split at hw
      · cases hw
        rw [hr] at hq
        cases hq
        exact upd_same
      · cases hw
    · rw [if_neg e] at hw
      have hj := R.at_ j q w hq hw
      rw [upd_ne]
      · exact hj
      · intro z
        rw [z, h0] at hj
        have := int_inj (HO.lst.inj (Option.some.inj hj))
        subst this
        exact flat_dis nd hi hw e ha ha
theorem RowsAt.dict {H : Hp} {lr pd : Addr} {rs : List Addr} {rows : List (List Int)} {kvs : List (Key × V)} (R : RowsAt H lr rs rows) (h : H pd = some (.dK kvs)) (o : HO) : RowsAt (upd H pd o) lr rs rows := by
  refine ⟨by rw [upd_ne (fun z => by have t := R.top; rw [z, h] at t; cases t)]; exact R.top, R.len, fun i r row a b => ?_⟩
  have t := R.at_ i r row a b
  rw [upd_ne (fun z => by rw [z, h] at t; cases t)]; exact t
theorem DictIs.has {kvs : List (Key × V)} {mt : Int → Option Int} (h : DictIs kvs mt) {x m : Int} (h0 : 0 ≤ x) (e : mt x = some m) : valV kvs (.inl x) = some (.int m) := by
  have z := h x h0
  rw [e] at z
  cases q : valV kvs (.inl x) with
  | none => rw [q] at z; cases z
  | some v => rw [q] at z; exact congrArg some z
theorem tx_last : ("Harm+" : Str) ++ ("last" : Str) = "Harm+last" := by decide +kernel
theorem RowsOk.rowLen {rows : List (List Int)} {S : Int → Prop} {nx : Int → Int} (R : RowsOk rows S nx) {L : List Int} (hm : ∀ x, x ∈ L ↔ S x) (nd : L.Nodup) : rows.flatten.length = L.length := by
  have : rows.flatten.Perm L := (List.perm_ext_iff_of_nodup R.nd nd).mpr fun x => by rw [R.mem, hm]
  exact this.length_eq
theorem lt_nd {L : List Int} (h : L.Pairwise (· < ·)) : L.Nodup := h.imp fun h => by omega
theorem closed_by {H1 : Hp} {lr pd : Addr} {rs : List Addr} {rows : List (List Int)} {kvs : List (Key × V)} {mt : Int → Option Int} {S : Int → Prop} {nx : Int → Int} {L0 : List Int} {Q : VK} {E : XK} (RA : RowsAt H1 lr rs rows) (R : RowsOk rows S nx) (hpd : H1 pd = some (.dK kvs)) (hD : DictIs kvs mt)
    (hL : L0.Pairwise (· < ·)) (hm : ∀ x, x ∈ L0 ↔ S x) (hz : L0.length ≤ 1000) (h0 : ∀ x, S x → 0 ≤ x) (hr : rows.length ≤ 1000) (q : ∀ r ro rm H', Same H1 H' → H' r = some (.tup [.ref ro, .ref rm]) → H' ro = some (.tup ((clOn L0 nx).map V.int)) → H' rm = some (.tup ((clMs L0 mt).map mV)) → Q (.ref r) H') : spClosed [.ref lr, .ref pd] H1 Q E := by
  have nd := lt_nd hL
  refine ⟨lr, pd, rs, rows, kvs, mt, nx, rfl, RA, hpd, hD, R.nd, by rw [R.rowLen hm nd]; exact hz, fun x hx => h0 x ((R.mem x).mp hx), hr, R.nx, fun L r ro rm H' hp hl s' g1 g2 g3 => ?_⟩
  have eL : L = L0 := sort_uniq hl hL fun z => by rw [hp.mem_iff, R.mem, hm]
  subst eL
  exact q r ro rm H' s' g1 g2 g3
theorem mergeK_nil {l : List (Key × V)} (nd : (l.map (·.1)).Nodup) : mergeK [] l = l := by
  suffices h : ∀ (l acc : List (Key × V)), ((acc ++ l).map (·.1)).Nodup → mergeK acc l = acc ++ l by
    simpa using h l [] (by simpa using nd)
  intro l
  induction l with
  | nil => intro acc _; simp [mergeK]
  | cons p r ih =>
    intro acc h
    have hv : valV acc p.1 = none := by
      cases e : valV acc p.1 with
      | none => rfl
      | some v =>
        have := valV_in e
        rw [List.map_append] at h
        exact absurd rfl ((List.nodup_append.mp h).2.2 _ this p.1 (by simp))
    show mergeK (putK acc p.1 p.2) r = _
    rw [putK_new _ hv, ih _ (by simpa using h)]
    simp
def Deed.text : Deed → Str
  | .skin _ _ => ""
  | .no => "NoHalf+"
  | .many => "TooMany+"
  | .rim => "NoRim+"
  | .unlike => "Unlike+"
  | .harm w => ("Harm+" : Str) ++ w
def DueR (H : Hp) (D : Deed) (v : V) : Prop := match D with
  | .skin on ms => ∃ r, v = .ref r ∧ SkAt H r on ms
  | .many => ∃ r ro rm xs, v = .ref r ∧ H r = some (.tup [.ref ro, .ref rm]) ∧ H ro = some (.tup xs) ∧ 400 < xs.length
  | .no => False
  | d => v = .str d.text
theorem due_closed {H' : Hp} {D : Deed} {r ro rm : Addr} {on' : List Int} {ms' : List (Option Int)} (g1 : H' r = some (.tup [.ref ro, .ref rm])) (g2 : H' ro = some (.tup (on'.map V.int))) (g3 : H' rm = some (.tup (ms'.map mV))) (h1 : on'.length ≤ 400 → D = .skin on' ms') (h2 : ¬ on'.length ≤ 400 → D = .many) (ok : D = .skin on' ms' → SkinOk on' ms') : DueR H' D (.ref r) := by
  by_cases h : on'.length ≤ 400
  · have e := h1 h
    rw [e]
    exact ⟨r, rfl, ok e, ro, rm, g1, g2, g3⟩
  · rw [h2 h]
    exact ⟨r, ro, rm, _, rfl, g1, g2, by rw [List.length_map]; omega⟩
theorem clOn_len (L : List Int) (nx : Int → Int) : (clOn L nx).length = L.length := by unfold clOn; simp
theorem woOn_len (on T : List Int) : (woOn on T).length ≤ on.length := by unfold woOn; rw [clOn_len]; exact keptL_len _ _
theorem scPatchDue : FnScope ["skin", "word", "half", "other", "rows", "mates", "new", "mate", "one", "two", "at", "row"] ["skin", "word", "half", "other"] (defScope s__law_patch_due) := ⟨rfl, rfl, rfl, by decide +kernel, rfl, by decide +kernel, by decide +kernel⟩
theorem lc_rowf {K : PySem.W.Frag} {lr : Addr} {rs : List Addr} {rows : List (List Int)} {g : TG} {tt : TT} {te : TE} {vs : List Nat} {σ : L2.St} {H1 : Hp} {D : Addr} {Qd : Hp → Prop} (p : List Int → Bool) (R : RowsAt H1 lr rs rows) (hD : H1 D = none) (hz : rows.length ≤ 1000)
    (hs : ∀ r row H2 (Y : V → Hp → Prop) (Z : Hp → Prop), Same H1 H2 → H2 r = some (.lst (row.map V.int)) → (p row = true → Y (.ref r) H2) → (p row = false → Z H2) → g (.ref r) (wipe σ vs) H2 fun σ2 H3 => wipe σ2 vs = wipe σ vs ∧ tt σ2 H3 fun b H4 => if b = true then te σ2 H4 Y else Z H4)
    (hd : ∀ us H', Same H1 H' → RowsAt H' D us (rows.filter p) → (∀ r ∈ us, r ∈ rs) → Qd H') :
    ∃ W : Nat → Nat → Hp → Prop, (∃ m, W 0 m (upd H1 D (.lst []))) ∧ ∀ i m H, W i m H →
      ((Itl K lr).stop i H ∧ Qd H) ∨ ((Itl K lr).go i H ∧ ∃ Nx : Hp → Prop, (∀ H', Nx H' → ∃ m', m' < m ∧ W (i + 1) m' H') ∧ ∀ x H', (Itl K lr).yld i H x H' → g x (wipe σ vs) H' fun σ2 H2 => wipe σ2 vs = wipe σ vs ∧ tt σ2 H2 fun b H3 =>
        if b = true then te σ2 H3 fun y H4 => ∃ acc, H4 D = some (.lst acc) ∧ acc.length < sizeLine ∧ Nx (upd H4 D (.lst (acc ++ [y]))) else Nx H3) := by
  refine lc_list (K := K) (a := lr) (xs := rs.map V.ref) (Pv := fun i H3 => Same H1 H3 ∧ ∃ us : List Addr, H3 D = some (.lst (us.map V.ref)) ∧ (∀ r ∈ us, r ∈ rs) ∧ us.length = ((rows.take i).filter p).length ∧ us.length ≤ i ∧ ∀ (j : Nat) r row, us[j]? = some r → ((rows.take i).filter p)[j]? = some row → H1 r = some (.lst (row.map V.int)))
    ⟨same_put hD _, [], upd_same, (fun r h => by cases h), rfl, Nat.le_refl _, fun j r row h => by simp at h⟩ (fun i H3 _ pv => SqL.of (pv.1 _ _ R.top)) ?_ ?_
  · rintro i x H3 hx ⟨s3, us, k1, k2, k3, k5, k4⟩
    rw [List.getElem?_map] at hx
    obtain ⟨a, ha, rfl⟩ := Option.map_eq_some_iff.mp hx
    have hi : i < rows.length := by rw [← R.len]; exact (List.getElem?_eq_some_iff.mp ha).1
    have er : rows[i]? = some rows[i] := List.getElem?_eq_getElem hi
    have hrow := R.at_ i a _ ha er
    have tk : rows.take (i + 1) = rows.take i ++ [rows[i]] := by rw [List.take_succ, er]; rfl
    refine hs a rows[i] H3 _ _ s3 (s3 _ _ hrow) (fun hp => ?_) (fun hp => ?_)
    · have ef : [rows[i]].filter p = [rows[i]] := by rw [List.filter_cons_of_pos hp]; rfl
      refine ⟨us.map V.ref, k1, by rw [List.length_map, sizeLine_eq]; omega, same_set s3 hD, us ++ [a], by rw [upd_same, List.map_append]; rfl, ?_, ?_, by simp; omega, ?_⟩
      · intro r hr0
        rcases List.mem_append.mp hr0 with z | z
        · exact k2 r z
        · rw [List.mem_singleton.mp z]; exact List.mem_of_getElem? ha
      · rw [tk, List.filter_append, ef, List.length_append, List.length_append, k3]; rfl
      · intro j r row h1 h2
        rw [tk, List.filter_append, ef] at h2
        by_cases hj : j < us.length
        · rw [List.getElem?_append_left hj] at h1
          rw [List.getElem?_append_left (by omega)] at h2
          exact k4 j r row h1 h2
        · have ej : j = us.length := by
            have := (List.getElem?_eq_some_iff.mp h1).1
            simp at this; omega
          rw [ej, List.getElem?_append_right (Nat.le_refl _), Nat.sub_self] at h1
          rw [ej, k3, List.getElem?_append_right (Nat.le_refl _), Nat.sub_self] at h2
          obtain rfl : a = r := by simpa using h1
          obtain rfl : rows[i] = row := by simpa using h2
          exact hrow
    · have ef : [rows[i]].filter p = [] := by rw [List.filter_cons_of_neg (by rw [hp]; exact Bool.false_ne_true)]; rfl
      refine ⟨s3, us, k1, k2, ?_, by omega, ?_⟩
      · rw [tk, List.filter_append, ef, List.append_nil]; exact k3
      · rw [tk, List.filter_append, ef, List.append_nil]; exact k4
  · rintro H3 ⟨s3, us, k1, k2, k3, k5, k4⟩
    rw [List.length_map, R.len, List.take_of_length_le (Nat.le_refl _)] at k3 k4
    exact hd us H3 s3 ⟨k1, k3, fun j r row h1 h2 => s3 _ _ (k4 j r row h1 h2)⟩ k2
theorem RowsAt.cat {H : Hp} {a b p : Addr} {rs ss : List Addr} {rows rows2 : List (List Int)} (R : RowsAt H a rs rows) (R2 : RowsAt H b ss rows2) (hp : H p = none) : RowsAt (upd H p (.lst (rs.map V.ref ++ ss.map V.ref))) p (rs ++ ss) (rows ++ rows2) := by
  refine ⟨by rw [upd_same, List.map_append], by rw [List.length_append, List.length_append, R.len, R2.len], fun i r w h1 h2 => ?_⟩
  by_cases h : i < rs.length
  · rw [List.getElem?_append_left h] at h1
    rw [List.getElem?_append_left (by rw [← R.len]; exact h)] at h2
    exact up hp (R.at_ i r w h1 h2)
  · rw [List.getElem?_append_right (by omega)] at h1
    rw [R.len] at h1
    rw [List.getElem?_append_right (by rw [← R.len]; omega)] at h2
    exact up hp (R2.at_ _ r w h1 h2)
theorem RowsAt.two {H : Hp} {l a b : Addr} {r1 r2 : List Int} (h : H l = some (.lst [.ref a, .ref b])) (h1 : H a = some (.lst (r1.map V.int))) (h2 : H b = some (.lst (r2.map V.int))) : RowsAt H l [a, b] [r1, r2] := by
  refine ⟨h, rfl, fun i r w k1 k2 => ?_⟩
  match i, k1, k2 with
  | 0, k1, k2 => cases k1; cases k2; exact h1
  | 1, k1, k2 => cases k1; cases k2; exact h2
theorem RowsAt.one {H : Hp} {l a : Addr} {r1 : List Int} (h : H l = some (.lst [.ref a])) (h1 : H a = some (.lst (r1.map V.int))) : RowsAt H l [a] [r1] := by
  refine ⟨h, rfl, fun i r w k1 k2 => ?_⟩
  match i, k1, k2 with
  | 0, k1, k2 => cases k1; cases k2; exact h1
noncomputable def patchD (word : Str) (on : List Int) (ms : List (Option Int)) (half other : Int) : Deed := if word = "cut" then cutF on ms half other else if word = "join" then joinF on ms half else if word = "turn" then turnG true on ms half else turnG false on ms half
def spPatchDue : Sp := fun vs H Q _ => ∃ (p : Addr) (on : List Int) (ms : List (Option Int)) (word : Str) (half other : Int), vs = [.ref p, .str word, .int half, .int other] ∧ SkAt H p on ms ∧ InR on.length half ∧ InR on.length other ∧ (word = "cut" ∨ word = "join" ∨ word = "turn" ∨ word = "unturn") ∧
  ∀ v H', Same H H' → DueR H' (patchD word on ms half other) v → Q v H'
theorem tx_rim : ("Harm+" : Str) ++ ("rim" : Str) = "Harm+rim" := by decide +kernel
theorem tx_one : ("Harm+" : Str) ++ ("one" : Str) = "Harm+one" := by decide +kernel
theorem tx_three : ("Harm+" : Str) ++ ("three" : Str) = "Harm+three" := by decide +kernel
theorem due_harm {H' : Hp} {D : Deed} {w t : Str} (e : D = .harm w) (ht : ("Harm+" : Str) ++ w = t) : DueR H' D (.str t) := by rw [e]; show V.str t = V.str (("Harm+" : Str) ++ w); rw [ht]
theorem ok_patchDue (B : BiD mg) (FRo : Fn P w K mg base "_law_rows_of" ["skin"] 5 spRowsOf) (FPo : Fn P w K mg base "_law_pairs_of" ["skin"] 1 spPairsOf) (FLP : Fn P w K mg base "_law_patch" ["skin", "half"] 1 (spInT gPatch)) (FCl : Fn P w K mg base "_law_closed" ["rows", "mates"] 1 spClosed)
    (F : Fun K "_law_patch_due" "_law_patch_due" s__law_patch_due f fd) : FnOk P w K mg base CX0 6 f fd ["skin", "word", "half", "other"] spPatchDue := by
  refine F.ok scPatchDue (fun vs H Q E h => ?_) (fun cdv A outer s H vs Q E hr h => ?_)
  · obtain ⟨p, on, ms, word, half, other, rfl, _⟩ := h; rfl
  obtain ⟨p, on, ms, word, half, other, rfl, SA, g, go, hw, q⟩ := h
  obtain ⟨sk, po, pm, h1, h2, h3⟩ := id SA
  have hl : (on.map V.int).length = on.length := List.length_map _
  have hle := sk.le
  have hml := sk.len
  have hpl := pats_len on
  refine ⟨_, (pss_cons (ps_setLc (i := 4) (own := [("row", 11)]) (g := gName 11) rfl scPatchDue.nd rfl rfl (sw_true rfl rfl rfl rfl) (pi_list (pe_callF FRo hr (by decide) (pa_cons (pv 0) pa_nil))) (blkOk_by (own := [("row", 11)]) (N := ["skin", "word", "half", "other", "rows", "mates", "new", "mate", "one", "two", "at", "row"]) (sc := (defScope s__law_patch_due)) (by decide +kernel)) (fun _ _ _ _ _ => (pg_name (i := 11) scPatchDue.nd rfl (Or.inl rfl))) (fun _ _ _ _ _ => (pts_one (pt_cmpR (op_notIn_seqK (K := K) rfl) (pv 2) (pv 11) rfl))) (fun _ _ _ _ _ => (pv 11)))
   (pss_cons (ps_set (i := 5) scPatchDue.nd rfl (Or.inl rfl) (pe_callF FPo hr (by decide) (pa_cons (pv 0) pa_nil)))
   (pss_cons (ps_set (i := 6) scPatchDue.nd rfl (Or.inl rfl) (pe_callB call_len_seq rfl B.len_ bt_len (pa_cons (pe_ix ix_tup (pv 0) pe_int (fun _ _ => rfl)) pa_nil)))
   (pss_cons (ps_set (i := 7) scPatchDue.nd rfl (Or.inr rfl) (pe_ix ix_tup (pe_ix ix_tup (pv 0) pe_int (fun _ _ => rfl)) (pv 2) (fun _ _ => rfl)))
   (pss_cons (ps_set (i := 8) scPatchDue.nd rfl (Or.inl rfl) (pe_callTy call_list_of rfl B.list_ bt_list (pa_cons (pe_callF FLP hr (by decide) (pa_cons (pv 0) (pa_cons (pv 2) pa_nil))) pa_nil)))
   (pss_cons (ps_if (pt_cmpR op_eq (pv 1) pe_str (nomark _))
   (pss_cons (ps_if (pt_cmpR op_notIn_seq (pv 3) (pv 8) rfl)
   (pss_one (ps_ret pe_str))
   pss_nil)
   (pss_cons (ps_set (i := 10) scPatchDue.nd rfl (Or.inl rfl) (pe_bm PySem.F.plainAttrs_list PySem.F.slot_list_index PySem.F.type_list_index mt_index (pv 8) (pa_cons (pv 3) pa_nil)))
   (pss_cons (ps_expr (pe_dupd (pv 5) (pe_disp (pps_cons (pv 6) (pe_op op_add (pv 6) pe_int) (pps_cons (pe_op op_add (pv 6) pe_int) (pv 6) pps_nil)) (by rfl) (by rfl) (fun z => by cases z) (by decide)) ⟨rfl, rfl, rfl, rfl⟩))
   (pss_one (ps_ret (pe_callF FCl hr (by decide) (pa_cons (pe_op op_cat (pv 4) (pe_lst (pa_cons (pe_op op_cat (pe_slice sl_list (pv 8) po_none (po_some (pv 10))) (pe_lst (pa_cons (pv 6) pa_nil))) (pa_cons (pe_op op_cat (pe_lst (pa_cons (pe_op op_add (pv 6) pe_int) pa_nil)) (pe_slice sl_list (pv 8) (po_some (pv 10)) po_none)) pa_nil)))) (pa_cons (pv 5) pa_nil))))))))
   pss_nil)
   (pss_cons (ps_if (pt_cmpR op_isN (pv 7) pe_non (nomark _))
   (pss_one (ps_ret pe_str))
   pss_nil)
   (pss_cons (ps_if (pt_cmpR op_in_seq (pv 7) (pv 8) rfl)
   (pss_one (ps_ret pe_str))
   pss_nil)
   (pss_cons (ps_set (i := 9) scPatchDue.nd rfl (Or.inl rfl) (pe_callTy call_list_of rfl B.list_ bt_list (pa_cons (pe_callF FLP hr (by decide) (pa_cons (pv 0) (pa_cons (pv 7) pa_nil))) pa_nil)))
   (pss_cons (ps_setLc (i := 4) (own := [("row", 11)]) (g := gName 11) rfl scPatchDue.nd rfl rfl (sw_true rfl rfl rfl rfl) (pi_list (pv 4)) (blkOk_by (own := [("row", 11)]) (N := ["skin", "word", "half", "other", "rows", "mates", "new", "mate", "one", "two", "at", "row"]) (sc := (defScope s__law_patch_due)) (by decide +kernel)) (fun _ _ _ _ _ => (pg_name (i := 11) scPatchDue.nd rfl (Or.inl rfl))) (fun _ _ _ _ _ => (pts_one (pt_cmpR (op_notIn_seqK (K := K) rfl) (pv 7) (pv 11) rfl))) (fun _ _ _ _ _ => (pv 11)))
   (pss_cons (ps_if (pt_cmpR op_eq (pv 1) pe_str (nomark _))
   (pss_cons (ps_if (pt_cmpR op_eq (pe_op op_add (pe_callB call_len_seq rfl B.len_ bt_len (pa_cons (pv 8) pa_nil)) (pe_callB call_len_seq rfl B.len_ bt_len (pa_cons (pv 9) pa_nil))) pe_int (nomark _))
   (pss_one (ps_ret pe_str))
   pss_nil)
   (pss_one (ps_ret (pe_callF FCl hr (by decide) (pa_cons (pe_op op_cat (pv 4) (pe_lst (pa_cons (pe_op op_cat (pe_slice sl_list (pv 8) (po_some pe_int) po_none) (pe_slice sl_list (pv 9) (po_some pe_int) po_none)) pa_nil))) (pa_cons (pv 5) pa_nil))))))
   pss_nil)
   (pss_cons (ps_if (pt_cmpR (op_neD hr.units) (pe_tup (pa_cons (pe_callB call_len_seq rfl B.len_ bt_len (pa_cons (pv 8) pa_nil)) (pa_cons (pe_callB call_len_seq rfl B.len_ bt_len (pa_cons (pv 9) pa_nil)) pa_nil))) (pe_tup (pa_cons pe_int (pa_cons pe_int pa_nil))) (nomark _))
   (pss_one (ps_ret pe_str))
   pss_nil)
   (pss_cons (ps_if (pt_cmpR op_eq (pv 1) pe_str (nomark _))
   (pss_one (ps_ret (pe_callF FCl hr (by decide) (pa_cons (pe_op op_cat (pv 4) (pe_lst (pa_cons (pe_lst (pa_cons (pv 2) (pa_cons (pe_ix ix_list (pv 8) pe_int (fun _ _ => rfl)) (pa_cons (pe_ix ix_list (pv 9) pe_int (fun _ _ => rfl)) pa_nil)))) (pa_cons (pe_lst (pa_cons (pv 7) (pa_cons (pe_ix ix_list (pv 9) pe_int (fun _ _ => rfl)) (pa_cons (pe_ix ix_list (pv 8) pe_int (fun _ _ => rfl)) pa_nil)))) pa_nil)))) (pa_cons (pv 5) pa_nil)))))
   pss_nil)
   (pss_one (ps_ret (pe_callF FCl hr (by decide) (pa_cons (pe_op op_cat (pv 4) (pe_lst (pa_cons (pe_lst (pa_cons (pv 2) (pa_cons (pe_ix ix_list (pv 9) pe_int (fun _ _ => rfl)) (pa_cons (pe_ix ix_list (pv 8) pe_int (fun _ _ => rfl)) pa_nil)))) (pa_cons (pe_lst (pa_cons (pv 7) (pa_cons (pe_ix ix_list (pv 8) pe_int (fun _ _ => rfl)) (pa_cons (pe_ix ix_list (pv 9) pe_int (fun _ _ => rfl)) pa_nil)))) pa_nil)))) (pa_cons (pv 5) pa_nil)))))))))))))))))), ?_⟩
  refine ⟨_, rfl, p, on, ms, rfl, SA, fun lr rs H1 s1 flr frs RA => ?_⟩
  refine ⟨lr, rfl, ⟨_, SqL.of RA.top⟩, fun D hD => ?_⟩
  refine lc_rowf (K := K) (p := fun row => decide (half ∉ row)) RA hD (by omega) (fun r row Hx Y Z _ hr0 hy hz => ?_) (fun us Hn sn RAn hus => ?_)
  · refine ⟨rfl, _, rfl, _, rfl, r, _, rfl, .inl (SqL.of hr0), rfl, flat_map _, _, rfl, ?_⟩
    rw [notin_ints]
    by_cases c : half ∈ row
    · exact itN (by simp [c]) (hz (by simp [c]))
    · exact itP (by simp [c]) ⟨_, rfl, hy (by simp [c])⟩
  replace RAn : RowsAt Hn D us (dropR half (patsL on)) := RAn
  have dl := dropR_len half (patsL on)
  have s12 := s1.trans sn
  have fD : H D = none := s1.free hD
  refine ⟨_, rfl, p, on, ms, rfl, SA.same s12, fun pd kvs H3 s3 fpd hpd hDi hkl => ?_⟩
  have s13 := s12.trans s3
  have RA3 := RAn.same s3
  have fpd0 : H pd = none := s12.free fpd
  refine ⟨_, rfl, p, _, _, .ref po, rfl, rfl, SqT.of (s13 _ _ h1), at0 _ _, po, _, rfl, .inr (SqT.of (s13 _ _ h2)), ?_⟩
  rw [show ((on.map V.int).length : Int) = (on.length : Int) by rw [hl]]
  refine ⟨_, rfl, p, _, _, .ref pm, rfl, rfl, SqT.of (s13 _ _ h1), at1 _ _ _, _, rfl, pm, _, _, _, rfl, rfl, SqT.of (s13 _ _ h3), at_lkM g.1 (by rw [hml]; exact g.2), ?_⟩
  refine ⟨_, rfl, _, rfl, p, on, ms, half, rfl, SA.same s13, g, fun rp H4 s4 f4 e4 => ⟨rp, _, rfl, .inr (SqT.of e4), fun lo hlo => ?_⟩⟩
  unfold gPatch at e4 ⊢
  have s15 := (s13.trans s4).trans (same_put hlo (.lst ((patL on half).map V.int)))
  have RA5 := (RA3.same s4).same (same_put hlo (.lst ((patL on half).map V.int)))
  have hpd5 := up hlo (s4 _ _ hpd) (o := .lst ((patL on half).map V.int))
  have eo5 := upd_same (H := H4) (a := lo) (o := .lst ((patL on half).map V.int))
  generalize upd H4 lo (.lst ((patL on half).map V.int)) = H5 at s15 RA5 hpd5 eo5 ⊢
  clear e4 f4 s4
  obtain ⟨tr, ndp, rgp, lnp⟩ := sk.pat g
  have main : (word = "join" ∨ word = "turn" ∨ word = "unturn") → patchD word on ms half other = (if word = "join" then joinF on ms half else turnG (decide (word = "turn")) on ms half) := fun z => by
    unfold patchD
    rcases z with rfl | rfl | rfl
    · rw [if_neg (by decide), if_pos rfl, if_pos rfl]
    · rw [if_neg (by decide), if_neg (by decide), if_pos rfl, if_neg (by decide)]; rfl
    · rw [if_neg (by decide), if_neg (by decide), if_neg (by decide), if_neg (by decide)]; rfl
  by_cases hcut : word = "cut"
  · subst hcut
    have eS : patchD "cut" on ms half other = cutF on ms half other := by unfold patchD; rw [if_pos rfl]
    rw [eS] at q
    refine ⟨_, rfl, rfl, _, rfl, itP (by decide) ?_⟩
    refine ⟨_, rfl, _, rfl, lo, _, rfl, .inl (SqL.of eo5), rfl, flat_map _, _, rfl, ?_⟩
    rw [notin_ints]
    refine ite2 (fun c => ?_) (fun c => ?_)
    · have c : other ∉ patL on half := by simpa using c
      refine q _ _ s15 ?_
      have : cutF on ms half other = .unlike := by unfold cutF; rw [if_pos ⟨g, go⟩, if_neg c]
      rw [this]; rfl
    have c : other ∈ patL on half := by simpa using c
    obtain ⟨PP, QQ, ep⟩ := List.append_of_mem c
    rw [ep] at ndp
    have nPP : other ∉ PP := fun z => (List.nodup_append.mp ndp).2.2 other z other (by simp) rfl
    refine ⟨_, rfl, .inl ⟨rfl, _, SqL.of eo5⟩, _, rfl, lo, (patL on half).map V.int, .int other, PP.length, .int other, rfl, rfl, SqL.of eo5, rfl, flat_map _, ?_, eqV_self other, fun m z' hm' hz' => ?_, ?_⟩
    · rw [ep, List.getElem?_map, List.getElem?_append_right (Nat.le_refl _)]; simp
    · rw [ep, List.getElem?_map, List.getElem?_append_left hm'] at hz'
      obtain ⟨w', hw', rfl⟩ := Option.map_eq_some_iff.mp hz'
      exact eqV_ne fun cc => nPP (cc ▸ List.mem_of_getElem? hw')
    refine ⟨_, rfl, pd, rfl, .inl ⟨_, .inl hpd5⟩, fun d2 hd2 => ?_⟩
    refine ⟨_, rfl, _, rfl, _, _, rfl, rfl, _, rfl, _, _, rfl, rfl, _, rfl, upd_same, [(.inl (on.length : Int), .int ((on.length : Int) + 1)), (.inl ((on.length : Int) + 1), .int (on.length : Int))], rfl, by show 2 ≤ 15; decide, ?_⟩
    rw [mergeK_nil (by simp; omega)]
    have np : pd ≠ d2 := ne_of_none hpd5 hd2
    refine ⟨d2, kvs, _, rfl, by rw [upd_ne np, upd_ne np]; exact hpd5, upd_same, np, by show kvs.length + 2 ≤ _; rw [sizeLine_eq]; omega, ?_⟩
    have dD : DictIs (mergeK kvs [(.inl (on.length : Int), .int ((on.length : Int) + 1)), (.inl ((on.length : Int) + 1), .int (on.length : Int))]) (cutT on.length ms) := fun x hx => by
      show (valV (putK (putK kvs (.inl (on.length : Int)) (.int ((on.length : Int) + 1))) (.inl ((on.length : Int) + 1)) (.int (on.length : Int))) (.inl x)).getD .non = _
      rw [valV_put, valV_put]
      simp only [Sum.inl.injEq]
      unfold cutT
      by_cases k1 : x = (on.length : Int)
      · rw [if_neg (by omega), if_pos k1, if_pos k1]; rfl
      by_cases k2 : x = (on.length : Int) + 1
      · rw [if_pos k2, if_neg k1, if_pos k2]; rfl
      rw [if_neg k2, if_neg k1, if_neg k1, if_neg k2]
      exact hDi x hx
    have z6 : ∀ o, Same H5 (upd (upd H5 d2 (.dK [])) d2 o) := fun o => same_set (same_put hd2 _) hd2
    have RA6 := (RA5.same (z6 (.dK [(.inl (on.length : Int), .int ((on.length : Int) + 1)), (.inl ((on.length : Int) + 1), .int (on.length : Int))]))).dict (pd := pd) (z6 _ _ _ hpd5) (.dK (mergeK kvs [(.inl (on.length : Int), .int ((on.length : Int) + 1)), (.inl ((on.length : Int) + 1), .int (on.length : Int))]))
    have s16 := same_set (s15.trans (z6 (.dK [(.inl (on.length : Int), .int ((on.length : Int) + 1)), (.inl ((on.length : Int) + 1), .int (on.length : Int))]))) fpd0 (o := .dK (mergeK kvs [(.inl (on.length : Int), .int ((on.length : Int) + 1)), (.inl ((on.length : Int) + 1), .int (on.length : Int))]))
    have hpd6 := upd_same (H := upd (upd H5 d2 (.dK [])) d2 (.dK [(.inl (on.length : Int), .int ((on.length : Int) + 1)), (.inl ((on.length : Int) + 1), .int (on.length : Int))])) (a := pd) (o := .dK (mergeK kvs [(.inl (on.length : Int), .int ((on.length : Int) + 1)), (.inl ((on.length : Int) + 1), .int (on.length : Int))]))
    have npl : lo ≠ pd := fun z => by rw [z, hpd5] at eo5; cases eo5
    have eo6 : upd (upd (upd H5 d2 (.dK [])) d2 (.dK [(.inl (on.length : Int), .int ((on.length : Int) + 1)), (.inl ((on.length : Int) + 1), .int (on.length : Int))])) pd (.dK (mergeK kvs [(.inl (on.length : Int), .int ((on.length : Int) + 1)), (.inl ((on.length : Int) + 1), .int (on.length : Int))])) lo = some (.lst ((patL on half).map V.int)) := by rw [upd_ne npl]; exact z6 _ _ _ eo5
    generalize upd (upd (upd H5 d2 (.dK [])) d2 (.dK [(.inl (on.length : Int), .int ((on.length : Int) + 1)), (.inl ((on.length : Int) + 1), .int (on.length : Int))])) pd (.dK (mergeK kvs [(.inl (on.length : Int), .int ((on.length : Int) + 1)), (.inl ((on.length : Int) + 1), .int (on.length : Int))])) = H6 at RA6 s16 hpd6 eo6 ⊢
    have lPQ : PP.length + QQ.length + 1 ≤ 400 := by rw [ep] at lnp; simp at lnp; omega
    refine ⟨_, rfl, _, rfl, _, rfl, _, rfl, lo, _, rfl, SqL.of eo6, fun p1 hp1 => ?_⟩
    rw [cut_take _ _ (by omega), Int.toNat_natCast, ← List.map_take, show (patL on half).take PP.length = PP by rw [ep]; simp]
    refine ⟨_, rfl, (by show 1 ≤ sizeLine; decide), fun p2 hp2 => ?_⟩
    refine ⟨p1, p2, _, _, rfl, rfl, up hp2 upd_same, upd_same, by rw [List.length_map, sizeLine_eq]; show _ + 1 ≤ _; omega, fun p3 hp3 => ?_⟩
    rw [show PP.map V.int ++ [V.int (on.length : Int)] = (PP ++ [(on.length : Int)]).map V.int by simp]
    have t3 : Same H6 (upd (upd (upd H6 p1 (.lst (PP.map V.int))) p2 (.lst [V.int (on.length : Int)])) p3 (.lst ((PP ++ [(on.length : Int)]).map V.int))) := ((same_put hp1 _).trans (same_put hp2 _)).trans (same_put hp3 _)
    have c3 := upd_same (H := upd (upd H6 p1 (.lst (PP.map V.int))) p2 (.lst [V.int (on.length : Int)])) (a := p3) (o := .lst ((PP ++ [(on.length : Int)]).map V.int))
    generalize upd (upd (upd H6 p1 (.lst (PP.map V.int))) p2 (.lst [V.int (on.length : Int)])) p3 (.lst ((PP ++ [(on.length : Int)]).map V.int)) = H7 at t3 c3 ⊢
    refine ⟨_, rfl, _, _, rfl, rfl, (by show 1 ≤ sizeLine; decide), fun p4 hp4 => ?_⟩
    refine ⟨_, rfl, _, rfl, _, rfl, lo, _, rfl, SqL.of (up hp4 (t3 _ _ eo6)), fun p5 hp5 => ?_⟩
    rw [cut_drop _ _ (by omega), Int.toNat_natCast, ← List.map_drop, show (patL on half).drop PP.length = other :: QQ by rw [ep]; simp]
    refine ⟨p4, p5, _, _, rfl, rfl, up hp5 upd_same, upd_same, by rw [List.length_map, sizeLine_eq]; show 1 + (QQ.length + 1) ≤ _; omega, fun p6 hp6 => ?_⟩
    rw [show [V.int ((on.length : Int) + 1)] ++ (other :: QQ).map V.int = (((on.length : Int) + 1) :: other :: QQ).map V.int by simp]
    have t6 : Same H7 (upd (upd (upd H7 p4 (.lst [V.int ((on.length : Int) + 1)])) p5 (.lst ((other :: QQ).map V.int))) p6 (.lst ((((on.length : Int) + 1) :: other :: QQ).map V.int))) := ((same_put hp4 _).trans (same_put hp5 _)).trans (same_put hp6 _)
    have c6 := upd_same (H := upd (upd H7 p4 (.lst [V.int ((on.length : Int) + 1)])) p5 (.lst ((other :: QQ).map V.int))) (a := p6) (o := .lst ((((on.length : Int) + 1) :: other :: QQ).map V.int))
    generalize upd (upd (upd H7 p4 (.lst [V.int ((on.length : Int) + 1)])) p5 (.lst ((other :: QQ).map V.int))) p6 (.lst ((((on.length : Int) + 1) :: other :: QQ).map V.int)) = H8 at t6 c6 ⊢
    refine ⟨(by show 2 ≤ sizeLine; decide), fun p7 hp7 => ?_⟩
    have t8 := t3.trans t6
    have RA8 := (RA6.same t8).same (same_put hp7 (.lst [V.ref p3, V.ref p6]))
    have R28 : RowsAt (upd H8 p7 (.lst [V.ref p3, V.ref p6])) p7 [p3, p6] [PP ++ [(on.length : Int)], ((on.length : Int) + 1) :: other :: QQ] := .two upd_same (up hp7 (t6 _ _ c3)) (up hp7 c6)
    refine ⟨D, p7, _, _, rfl, rfl, RA8.top, upd_same, by rw [List.length_map, RA8.len, sizeLine_eq]; show _ + 2 ≤ _; omega, fun p8 hp8 => ?_⟩
    have R9 := RA8.cat R28 hp8
    have s19 := ((s16.trans t8).trans (same_put hp7 (.lst [V.ref p3, V.ref p6]))).trans (same_put hp8 (.lst (us.map V.ref ++ [p3, p6].map V.ref)))
    have hpd9 := up hp8 (up hp7 (t8 _ _ hpd6) (o := .lst [V.ref p3, V.ref p6])) (o := .lst (us.map V.ref ++ [p3, p6].map V.ref))
    refine ⟨_, rfl, ?_⟩
    refine closed_by (E := E0) R9 (sk.cutR g ep) hpd9 dD (rngL_lt _) (fun x => rngL_mem) (by rw [rngL_len]; omega) (fun x hx => hx.1) (by rw [List.length_append]; show _ + 2 ≤ _; omega) fun r ro rm H' s' g1 g2 g3 => ?_
    refine q _ _ (s19.trans s') (due_closed g1 g2 g3 (fun h => ?_) (fun h => ?_) (fun e => cut_ok sk e))
    · rw [clOn_len, rngL_len] at h
      unfold cutF; rw [if_pos ⟨g, go⟩, if_pos c, if_pos h]
    · rw [clOn_len, rngL_len] at h
      unfold cutF; rw [if_pos ⟨g, go⟩, if_pos c, if_neg h]
  have hw3 : word = "join" ∨ word = "turn" ∨ word = "unturn" := by
    rcases hw with h | h
    · exact absurd h hcut
    · exact h
  rw [main hw3] at q
  refine ⟨_, rfl, rfl, _, rfl, itN (decide_eq_false (fun z => hcut (V.str.inj z))) ?_⟩
  have harm : ∀ w' t', ("Harm+" : Str) ++ w' = t' → joinF on ms half = .harm w' → (∀ tn, turnG tn on ms half = .harm w') → ∀ H', Same H H' → Q (.str t') H' := fun w' t' ht e1 e2 H' s' => q _ _ s' (by
    split
    · exact due_harm e1 ht
    · exact due_harm (e2 _) ht)
  cases em : lkM ms half with
  | none =>
    refine ⟨_, rfl, rfl, _, rfl, itP rfl (harm "rim" _ tx_rim ?_ (fun tn => ?_) _ s15)⟩
    · unfold joinF; rw [if_pos g, em]
    · unfold turnG; rw [if_pos g, em]
  | some m =>
  obtain ⟨gm, hm2, nmh⟩ := sk.mate g em
  refine ⟨_, rfl, rfl, _, rfl, itN rfl ?_⟩
  refine ⟨_, rfl, _, rfl, lo, _, rfl, .inl (SqL.of eo5), rfl, flat_map _, _, rfl, ?_⟩
  rw [show (if false = true then !inV (mV (some m)) (List.map V.int (patL on half)) else inV (mV (some m)) (List.map V.int (patL on half))) = decide (m ∈ patL on half) from inV_ints m _]
  refine ite2 (fun c => ?_) (fun c => ?_)
  · have c : m ∈ patL on half := by simpa using c
    refine harm "one" _ tx_one ?_ (fun tn => ?_) _ s15
    · unfold joinF; rw [if_pos g, em]; dsimp only; rw [if_pos c]
    · unfold turnG; rw [if_pos g, em]; dsimp only; rw [if_pos c]
  have nm : m ∉ patL on half := by simpa using c
  refine ⟨_, rfl, _, rfl, p, on, ms, m, rfl, SA.same s15, gm, fun rq H6 s6 f6 e6 => ⟨rq, (patL on m).map V.int, rfl, .inr (SqT.of e6), fun lt hlt => ?_⟩⟩
  have s17 := (s15.trans s6).trans (same_put hlt (.lst ((patL on m).map V.int)))
  have RA7 := (RA5.same s6).same (same_put hlt (.lst ((patL on m).map V.int)))
  have hpd7 := up hlt (s6 _ _ hpd5) (o := .lst ((patL on m).map V.int))
  have eo7 := up hlt (s6 _ _ eo5) (o := .lst ((patL on m).map V.int))
  have et7 := upd_same (H := H6) (a := lt) (o := .lst ((patL on m).map V.int))
  generalize upd H6 lt (.lst ((patL on m).map V.int)) = H7 at s17 RA7 hpd7 eo7 et7 ⊢
  clear e6 f6 s6
  refine ⟨_, rfl, D, rfl, ⟨_, SqL.of RA7.top⟩, fun D2 hD2 => ?_⟩
  have hD := hD2
  refine lc_rowf (K := K) (p := fun row => decide (m ∉ row)) RA7 hD (by omega) (fun r row Hx Y Z _ hr0 hy hz => ?_) (fun us2 H8 s8 RA8 hus2 => ?_)
  · refine ⟨rfl, _, rfl, _, rfl, r, _, rfl, .inl (SqL.of hr0), rfl, flat_map _, _, rfl, ?_⟩
    rw [show (if true = true then !inV (mV (some m)) (List.map V.int row) else inV (mV (some m)) (List.map V.int row)) = !decide (m ∈ row) from notin_ints m row]
    by_cases c : m ∈ row
    · exact itN (by simp [c]) (hz (by simp [c]))
    · exact itP (by simp [c]) ⟨_, rfl, hy (by simp [c])⟩
  replace RA8 : RowsAt H8 D2 us2 (dropR m (dropR half (patsL on))) := RA8
  have dl2 := dropR_len m (dropR half (patsL on))
  have s18 := s17.trans s8
  have hpd8 := s8 _ _ hpd7
  have eo8 := s8 _ _ eo7
  have et8 := s8 _ _ et7
  obtain ⟨_, _, rgm, lnm⟩ := sk.pat gm
  obtain ⟨OO, eO⟩ := tr.head
  obtain ⟨WW, eW⟩ := (sk.pat gm).1.head
  have lO : OO.length + 1 ≤ 400 := by rw [eO] at lnp; simp at lnp; omega
  have lW : WW.length + 1 ≤ 400 := by rw [eW] at lnm; simp at lnm; omega
  by_cases hjoin : word = "join"
  · subst hjoin
    rw [if_pos rfl] at q
    refine ⟨_, rfl, rfl, _, rfl, itP (by decide) ?_⟩
    refine ⟨_, rfl, lo, _, rfl, .inl (SqL.of eo8), _, rfl, lt, _, rfl, .inl (SqL.of et8), _, _, rfl, rfl, rfl, _, rfl, ite2 (fun c => ?_) (fun c => ?_)⟩
    · have c : ((((patL on half).map V.int).length : Int) + (((patL on m).map V.int).length : Int)) = 2 := by simpa using c
      rw [List.length_map, List.length_map] at c
      have p1 : 1 ≤ (patL on half).length := by rw [eO]; simp
      have p2 : 1 ≤ (patL on m).length := by rw [eW]; simp
      refine q _ _ s18 (due_harm ?_ tx_last)
      unfold joinF; rw [if_pos g, em]; dsimp only; rw [if_neg nm, if_pos ⟨(pat_len1 sk g).mp (by omega), (pat_len1 sk gm).mp (by omega)⟩]
    have nl : ¬ (OO = [] ∧ WW = []) := fun z => by
      rw [eO, eW, z.1, z.2] at c
      exact c rfl
    have eD : joinF on ms half = .skin (woOn (swp on half m) [half, m]) (clMs (keptL on.length [half, m]) (lkM ms)) := by
      unfold joinF; rw [if_pos g, em]; dsimp only; rw [if_neg nm, if_neg (fun z => nl ?_)]
      have z1 := (pat_len1 sk g).mpr z.1
      have z2 := (pat_len1 sk gm).mpr z.2
      rw [eO] at z1
      rw [eW] at z2
      exact ⟨by simpa using z1, by simpa using z2⟩
    refine ⟨_, rfl, _, rfl, 1, rfl, lo, _, rfl, SqL.of eo8, fun p1 hp1 => ?_⟩
    rw [cut_drop _ _ (by decide), ← List.map_drop, show (patL on half).drop (1 : Int).toNat = OO by rw [eO]; rfl]
    refine ⟨_, rfl, 1, rfl, lt, _, rfl, SqL.of (up hp1 et8), fun p2 hp2 => ?_⟩
    rw [cut_drop _ _ (by decide), ← List.map_drop, show (patL on m).drop (1 : Int).toNat = WW by rw [eW]; rfl]
    refine ⟨p1, p2, _, _, rfl, rfl, up hp2 upd_same, upd_same, by rw [List.length_map, List.length_map, sizeLine_eq]; omega, fun p3 hp3 => ?_⟩
    rw [← List.map_append]
    refine ⟨(by show 1 ≤ sizeLine; decide), fun p4 hp4 => ?_⟩
    have t4 : Same H8 (upd (upd (upd (upd H8 p1 (.lst (OO.map V.int))) p2 (.lst (WW.map V.int))) p3 (.lst ((OO ++ WW).map V.int))) p4 (.lst [V.ref p3])) := (((same_put hp1 _).trans (same_put hp2 _)).trans (same_put hp3 _)).trans (same_put hp4 _)
    have R24 : RowsAt (upd (upd (upd (upd H8 p1 (.lst (OO.map V.int))) p2 (.lst (WW.map V.int))) p3 (.lst ((OO ++ WW).map V.int))) p4 (.lst [V.ref p3])) p4 [p3] [OO ++ WW] := .one upd_same (up hp4 upd_same)
    generalize upd (upd (upd (upd H8 p1 (.lst (OO.map V.int))) p2 (.lst (WW.map V.int))) p3 (.lst ((OO ++ WW).map V.int))) p4 (.lst [V.ref p3]) = H9 at t4 R24 ⊢
    have RA9 := RA8.same t4
    refine ⟨D2, p4, _, _, rfl, rfl, RA9.top, R24.top, by rw [List.length_map, RA9.len, sizeLine_eq]; show _ + 1 ≤ _; omega, fun p5 hp5 => ?_⟩
    have R10 := RA9.cat R24 hp5
    refine ⟨_, rfl, ?_⟩
    refine closed_by (E := E0) R10 (sk.joinR g gm eO eW nm nl) (up hp5 (t4 _ _ hpd8)) hDi (keptL_lt _ _) (fun x => keptL_mem) (Nat.le_trans (keptL_len _ _) (by omega)) (fun x hx => hx.1.1) (by rw [List.length_append]; show _ + 1 ≤ _; omega) fun r ro rm H' s' g1 g2 g3 => ?_
    have e5 : clOn (keptL on.length [half, m]) (nxF (swp on half m) [half, m]) = woOn (swp on half m) [half, m] := by unfold woOn; rw [swp_len]
    rw [e5] at g2
    exact q _ _ (((s18.trans t4).trans (same_put hp5 _)).trans s') (due_closed g1 g2 g3 (fun h => eD) (fun h => absurd (Nat.le_trans (woOn_len _ _) (by rw [swp_len]; exact hle)) h) (fun e => join_ok sk e))
  rw [if_neg hjoin] at q
  refine ⟨_, rfl, rfl, _, rfl, itN (decide_eq_false (fun z => hjoin (V.str.inj z))) ?_⟩
  refine ⟨_, rfl, lo, _, rfl, .inl (SqL.of eo8), _, rfl, lt, _, rfl, .inl (SqL.of et8), (by show 2 ≤ sizeLine; decide), fun ta hta => ?_⟩
  refine ⟨(by show 2 ≤ sizeLine; decide), fun tb htb => ?_⟩
  rw [List.length_map, List.length_map] at htb ⊢
  have s20 := (s18.trans (same_put hta (.tup [V.int ((patL on half).length : Int), V.int ((patL on m).length : Int)]))).trans (same_put htb (.tup [V.int 3, V.int 3]))
  have RA9 := (RA8.same (same_put hta (.tup [V.int ((patL on half).length : Int), V.int ((patL on m).length : Int)]))).same (same_put htb (.tup [V.int 3, V.int 3]))
  have hpd9 := up htb (up hta hpd8 (o := .tup [V.int ((patL on half).length : Int), V.int ((patL on m).length : Int)])) (o := .tup [V.int 3, V.int 3])
  have eo9 := up htb (up hta eo8 (o := .tup [V.int ((patL on half).length : Int), V.int ((patL on m).length : Int)])) (o := .tup [V.int 3, V.int 3])
  have et9 := up htb (up hta et8 (o := .tup [V.int ((patL on half).length : Int), V.int ((patL on m).length : Int)])) (o := .tup [V.int 3, V.int 3])
  have ea9 := up htb (upd_same (H := H8) (a := ta) (o := .tup [V.int ((patL on half).length : Int), V.int ((patL on m).length : Int)])) (o := .tup [V.int 3, V.int 3])
  have eb9 := upd_same (H := upd H8 ta (.tup [V.int ((patL on half).length : Int), V.int ((patL on m).length : Int)])) (a := tb) (o := .tup [V.int 3, V.int 3])
  generalize upd (upd H8 ta (.tup [V.int ((patL on half).length : Int), V.int ((patL on m).length : Int)])) tb (.tup [V.int 3, V.int 3]) = H9 at s20 RA9 hpd9 eo9 et9 ea9 eb9 ⊢
  have gx : ∀ i j : Int, Gd 1 (.tuple [.int i, .int j]) := fun i j => Gd.tup (k := 0) (gdA_cons (gd_i 0 i) (gdA_cons (gd_i 0 j) (gdA_nil 0))) (by simp)
  refine ⟨_, _, .tup (SqT.of ea9) (.cons (.int _) (.cons (.int _) .nil)), .tup (SqT.of eb9) (.cons (.int _) (.cons (.int _) .nil)), (gx _ _).shaped (by decide), (gx _ _).shaped (by decide), _, rfl, ?_⟩
  have eqv : (!PyData.eqv (.tuple [.int ((patL on half).length : Int), .int ((patL on m).length : Int)]) (.tuple [.int 3, .int 3])) = !(decide ((patL on half).length = 3) && decide ((patL on m).length = 3)) := by
    have k : ∀ a b : Nat, PyData.eqv (.tuple [.int (a : Int), .int (b : Int)]) (.tuple [.int 3, .int 3]) = (decide (a = 3) && decide (b = 3)) := fun a b => by
      by_cases h1 : a = 3 <;> by_cases h2 : b = 3 <;> simp [PyData.eqv, PyData.eqvAll, h1, h2] <;> omega
    rw [k]
  rw [eqv]
  by_cases h33 : (patL on half).length = 3 ∧ (patL on m).length = 3
  rotate_left
  · refine itP ?_ (q _ _ s20 (due_harm (turnG_three g em nm h33) tx_three))
    by_cases k1 : (patL on half).length = 3
    · have k2 : (patL on m).length ≠ 3 := fun z => h33 ⟨k1, z⟩
      simp [k1, k2]
    · simp [k1]
  refine itN (by simp [h33.1, h33.2]) ?_
  obtain ⟨x, a, b, p1⟩ := len3 h33.1
  obtain ⟨y, c', d, p2⟩ := len3 h33.2
  obtain ⟨rfl, _⟩ := pat3 sk g p1
  obtain ⟨rfl, _⟩ := pat3 sk gm p2
  have X6 := six_of sk g gm p1 p2 nm
  rw [p1] at eo9
  rw [p2] at et9
  replace eo9 : H9 lo = some (.lst [.int x, .int a, .int b]) := eo9
  replace et9 : H9 lt = some (.lst [.int y, .int c', .int d]) := et9
  have mx : ∀ (q1 q2 q3 q4 q5 q6 : Int), [q1, q2, q3, q4, q5, q6].Perm [x, a, b, y, c', d] → ∀ (tn : Bool) (Hz : Hp) (pp : Addr), turnG tn on ms x = .skin (W6 on q1 q2 q3 q4 q5 q6) ms → decide (word = "turn") = tn → Same H Hz → (∀ lz ss, RowsAt Hz lz ss [[q1, q2, q3], [q4, q5, q6]] → RowsAt Hz D2 us2 (dropR y (dropR x (patsL on))) → Hz pp = none → Hz pd = some (.dK kvs) → spClosed [.ref pp, .ref pd] (upd Hz pp (.lst (us2.map V.ref ++ ss.map V.ref))) Q E0) := fun q1 q2 q3 q4 q5 q6 hp tn Hz pp eT et sz lz ss Rz RDz hpp hpz => by
    have R6 := sk.rows6 X6 p1 p2 hp
    obtain ⟨_, w1, w2⟩ := sk.skin6 R6
    refine closed_by (E := E0) (RDz.cat Rz hpp) R6 (up hpp hpz) hDi (rngL_lt _) (fun x => rngL_mem) (by rw [rngL_len]; omega) (fun x hx => hx.1) (by rw [List.length_append]; show _ + 2 ≤ _; omega) fun r ro rm H' s' g1 g2 g3 => ?_
    rw [← w1] at g2
    rw [← w2] at g3
    rw [et] at q
    exact q _ _ ((sz.trans (same_put hpp _)).trans s') (due_closed g1 g2 g3 (fun _ => eT) (fun h => absurd (by rw [W6_len]; exact hle) h) (fun e => turnG_ok sk e))
  by_cases hturn : word = "turn"
  · subst hturn
    refine ⟨_, rfl, rfl, _, rfl, itP (by decide) ?_⟩
    refine ⟨_, rfl, _, rfl, _, rfl, lo, _, _, .int b, rfl, rfl, SqL.of eo9, rfl, _, rfl, lt, _, _, .int c', rfl, rfl, SqL.of et9, rfl, (by show 3 ≤ sizeLine; decide), fun u1 hu1 => ?_⟩
    refine ⟨_, rfl, _, rfl, lt, _, _, .int d, rfl, rfl, SqL.of (up hu1 et9), rfl, _, rfl, lo, _, _, .int a, rfl, rfl, SqL.of (up hu1 eo9), rfl, (by show 3 ≤ sizeLine; decide), fun u2 hu2 => ?_⟩
    refine ⟨(by show 2 ≤ sizeLine; decide), fun u3 hu3 => ?_⟩
    have t4 : Same H9 (upd (upd (upd H9 u1 (.lst [V.int x, V.int b, V.int c'])) u2 (.lst [V.int y, V.int d, V.int a])) u3 (.lst [V.ref u1, V.ref u2])) := ((same_put hu1 _).trans (same_put hu2 _)).trans (same_put hu3 _)
    have R24 : RowsAt (upd (upd (upd H9 u1 (.lst [V.int x, V.int b, V.int c'])) u2 (.lst [V.int y, V.int d, V.int a])) u3 (.lst [V.ref u1, V.ref u2])) u3 [u1, u2] [[x, b, c'], [y, d, a]] := .two upd_same (up hu3 (up hu2 upd_same)) (up hu3 upd_same)
    replace t4 : Same H9 (upd (upd (upd H9 u1 (.lst [V.int x, V.int b, V.int c'])) u2 (.lst [mV (some y), V.int d, V.int a])) u3 (.lst [V.ref u1, V.ref u2])) := t4
    replace R24 : RowsAt (upd (upd (upd H9 u1 (.lst [V.int x, V.int b, V.int c'])) u2 (.lst [mV (some y), V.int d, V.int a])) u3 (.lst [V.ref u1, V.ref u2])) u3 [u1, u2] [[x, b, c'], [y, d, a]] := R24
    generalize upd (upd (upd H9 u1 (.lst [V.int x, V.int b, V.int c'])) u2 (.lst [mV (some y), V.int d, V.int a])) u3 (.lst [V.ref u1, V.ref u2]) = H10 at t4 R24 ⊢
    have RA10 := RA9.same t4
    refine ⟨D2, u3, _, _, rfl, rfl, RA10.top, R24.top, by rw [List.length_map, RA10.len, sizeLine_eq]; show _ + 2 ≤ _; omega, fun p5 hp5 => ?_⟩
    refine ⟨_, rfl, ?_⟩
    exact mx x b c' y d a (perm_t _ _ _ _ _ _) true H10 p5 (turnG_skin g em nm p1 p2) (by decide) (s20.trans t4) u3 [u1, u2] R24 RA10 hp5 (t4 _ _ hpd9)
  · have hun : word = "unturn" := by
      rcases hw3 with h | h | h
      · exact absurd h hjoin
      · exact absurd h hturn
      · exact h
    subst hun
    refine ⟨_, rfl, rfl, _, rfl, itN (by decide) ?_⟩
    refine ⟨_, rfl, _, rfl, _, rfl, lt, _, _, .int d, rfl, rfl, SqL.of et9, rfl, _, rfl, lo, _, _, .int a, rfl, rfl, SqL.of eo9, rfl, (by show 3 ≤ sizeLine; decide), fun u1 hu1 => ?_⟩
    refine ⟨_, rfl, _, rfl, lo, _, _, .int b, rfl, rfl, SqL.of (up hu1 eo9), rfl, _, rfl, lt, _, _, .int c', rfl, rfl, SqL.of (up hu1 et9), rfl, (by show 3 ≤ sizeLine; decide), fun u2 hu2 => ?_⟩
    refine ⟨(by show 2 ≤ sizeLine; decide), fun u3 hu3 => ?_⟩
    have t4 : Same H9 (upd (upd (upd H9 u1 (.lst [V.int x, V.int d, V.int a])) u2 (.lst [V.int y, V.int b, V.int c'])) u3 (.lst [V.ref u1, V.ref u2])) := ((same_put hu1 _).trans (same_put hu2 _)).trans (same_put hu3 _)
    have R24 : RowsAt (upd (upd (upd H9 u1 (.lst [V.int x, V.int d, V.int a])) u2 (.lst [V.int y, V.int b, V.int c'])) u3 (.lst [V.ref u1, V.ref u2])) u3 [u1, u2] [[x, d, a], [y, b, c']] := .two upd_same (up hu3 (up hu2 upd_same)) (up hu3 upd_same)
    replace t4 : Same H9 (upd (upd (upd H9 u1 (.lst [V.int x, V.int d, V.int a])) u2 (.lst [mV (some y), V.int b, V.int c'])) u3 (.lst [V.ref u1, V.ref u2])) := t4
    replace R24 : RowsAt (upd (upd (upd H9 u1 (.lst [V.int x, V.int d, V.int a])) u2 (.lst [mV (some y), V.int b, V.int c'])) u3 (.lst [V.ref u1, V.ref u2])) u3 [u1, u2] [[x, d, a], [y, b, c']] := R24
    generalize upd (upd (upd H9 u1 (.lst [V.int x, V.int d, V.int a])) u2 (.lst [mV (some y), V.int b, V.int c'])) u3 (.lst [V.ref u1, V.ref u2]) = H10 at t4 R24 ⊢
    have RA10 := RA9.same t4
    refine ⟨D2, u3, _, _, rfl, rfl, RA10.top, R24.top, by rw [List.length_map, RA10.len, sizeLine_eq]; show _ + 2 ≤ _; omega, fun p5 hp5 => ?_⟩
    refine ⟨_, rfl, ?_⟩
    exact mx x d a y b c' (perm_u _ _ _ _ _ _) false H10 p5 (turnG_skin g em nm p1 p2) (by decide) (s20.trans t4) u3 [u1, u2] R24 RA10 hp5 (t4 _ _ hpd9)
end
end Hs
set_option Elab.async false
set_option linter.all false
set_option maxRecDepth 100000
set_option maxHeartbeats 4000000
namespace Hs
open PySem L2
section
variable {P : Program} {w : World} {K : PySem.W.Frag} {mg : Str → Option Value} {base : Heap} {f : Addr} {fd : FuncData} {C : CsA} {S fH : Addr} {tM : Tok}
theorem scLDeed : FnScope ["bag", "skin", "words", "many", "word", "half", "alone", "some", "other", "near", "one"] ["bag", "skin", "words"] (defScope s__law_deed) := ⟨rfl, rfl, rfl, by decide +kernel, rfl, by decide +kernel, by decide +kernel⟩
theorem only_but {b : Addr} {H H' : Hp} (o : Only1 b H H') : But b H H' := fun c u hc h => (o c hc).trans h
theorem But.trans {b : Addr} {H H1 H2 : Hp} (h : But b H H1) (k : But b H1 H2) : But b H H2 := fun c u hc q => k c u hc (h c u hc q)
theorem _root_.L2.Same.but {b : Addr} {H H' : Hp} (s : Same H H') : But b H H' := fun c u _ h => s c u h
theorem SkAt.but {H H' : Hp} {p b : Addr} {on : List Int} {ms : List (Option Int)} {xs : List V} (S : SkAt H p on ms) (h : H b = some (.lst xs)) (o : But b H H') : SkAt H' p on ms := by
  obtain ⟨k, po, pm, h1, h2, h3⟩ := S
  have n : ∀ a ys, H a = some (.tup ys) → a ≠ b := fun a ys z e => by rw [e, h] at z; cases z
  exact ⟨k, po, pm, o _ _ (n _ _ h1) h1, o _ _ (n _ _ h2) h2, o _ _ (n _ _ h3) h3⟩
def two_ (word : Str) : Bool := decide (word = "cut") || (decide (word = "part") || decide (word = "sew"))
def DeedOk (word : Str) (nums : List Int) : Prop := (∀ n ∈ nums, n.natAbs ≤ 1000000000) ∧ (if two_ word = true then ∃ a b, nums = [a, b] else ∃ a, nums = [a])
def spLDeed : Sp := fun vs H Q _ => ∃ (b p pw : Addr) (on : List Int) (ms : List (Option Int)) (ws : List Str) (x y : Int), vs = [.ref b, .ref p, .ref pw] ∧ SkAt H p on ms ∧ H b = some (.lst [.int x, .int y]) ∧ H pw = some (.lst (ws.map V.str)) ∧ 0 < ws.length ∧ ws.length ≤ 100 ∧
  ∀ r H' x' y' word nums, word ∈ ws → DeedOk word nums → But b H H' → H' b = some (.lst [.int x', .int y']) → H' r = some (.tup (.str word :: nums.map V.int)) → Q (.ref r) H'
theorem inV_strs (w : Str) : ∀ ws : List Str, inV (.str w) (ws.map V.str) = decide (w ∈ ws)
  | [] => by simp [inV]
  | x :: ws => by
    have h := inV_strs w ws
    by_cases e : x = w
    · subst e; simp [inV, eqV]
    · have e2 : ¬ w = x := fun z => e z.symm
      simp [inV, eqV] at h ⊢
      simp [e, e2, h]
theorem in_strs (w : Str) (ws : List Str) : (if false = true then !inV (.str w) (ws.map V.str) else inV (.str w) (ws.map V.str)) = decide (w ∈ ws) := by rw [if_neg (by decide), inV_strs]
theorem notin_strs (w : Str) (ws : List Str) : (if true = true then !inV (.str w) (ws.map V.str) else inV (.str w) (ws.map V.str)) = !decide (w ∈ ws) := by rw [if_pos rfl, inV_strs]
theorem mem_two (w : Str) : decide (w ∈ (["cut", "part", "sew"] : List Str)) = two_ w := by
  unfold two_
  by_cases h1 : w = "cut" <;> by_cases h2 : w = "part" <;> by_cases h3 : w = "sew" <;> simp [h1, h2, h3]
theorem at_strs {ws : List Str} {i : Int} (h0 : 0 ≤ i) (h : i < ws.length) : ∃ v, v ∈ ws ∧ atI (ws.map V.str) i = some (.str v) := by
  have hi : i.toNat < ws.length := by omega
  exact ⟨ws[i.toNat], List.getElem_mem hi, atN h0 (by rw [List.getElem?_map, List.getElem?_eq_getElem hi]; rfl)⟩
def aloneL (on : List Int) (ms : List (Option Int)) : List Int := (rngL on.length).filter fun h => decide (lkM ms h = none)
theorem alone_rng {on : List Int} {ms : List (Option Int)} : ∀ x ∈ aloneL on ms, InR on.length x := fun x hx => rngL_mem.mp (List.mem_filter.mp hx).1
theorem alone_len {on : List Int} {ms : List (Option Int)} : (aloneL on ms).length ≤ on.length := by
  have := List.length_filter_le (fun h => decide (lkM ms h = none)) (rngL on.length)
  rw [rngL_len] at this; exact this
theorem alone_take (ms : List (Option Int)) (i : Nat) : ((rngL (i + 1)).filter fun h => decide (lkM ms h = none)) = ((rngL i).filter fun h => decide (lkM ms h = none)) ++ (if lkM ms (i : Int) = none then [(i : Int)] else []) := by
  rw [rngL_succ, List.filter_append]
  by_cases h : lkM ms (i : Int) = none <;> simp [h]
theorem ok_ldeed (B : Bi mg) (FT : Fn P w K mg base "_law_take" ["bag", "many"] 1 spTake) (FLP : Fn P w K mg base "_law_patch" ["skin", "half"] 1 (spInT gPatch)) (FLK : Fn P w K mg base "_law_knot" ["skin", "half"] 2 (spInT gKnot))
    (F : Fun K "_law_deed" "_law_deed" s__law_deed f fd) : FnOk P w K mg base CX0 3 f fd ["bag", "skin", "words"] spLDeed := by
  refine F.ok scLDeed (fun vs H Q E h => ?_) (fun cdv A outer s H vs Q E hr h => ?_)
  · obtain ⟨b, p, pw, on, ms, ws, x, y, rfl, _⟩ := h; rfl
  obtain ⟨b, p, pw, on, ms, ws, x, y, rfl, SA, hb, hw, hw0, hw1, q⟩ := h
  obtain ⟨sk, po, pm, h1, h2, h3⟩ := id SA
  have hl : (on.map V.int).length = on.length := List.length_map _
  have hle := sk.le
  have hpos := sk.pos
  have hml := sk.len
  have npw : pw ≠ b := fun z => by
    rw [z, hb] at hw
    have := HO.lst.inj (Option.some.inj hw)
    cases ws with
    | nil => simp at this
    | cons a ws => simp at this
  refine ⟨_, (pss_cons (ps_set (i := 3) scLDeed.nd rfl (Or.inl rfl) (pe_callB call_len_seq rfl B.len_ bt_len (pa_cons (pe_ix ix_tup (pv 1) pe_int (fun _ _ => rfl)) pa_nil)))
   (pss_cons (ps_set (i := 4) scLDeed.nd rfl (Or.inl rfl) (pe_ix ix_list (pv 2) (pe_callF FT hr (by decide) (pa_cons (pv 0) (pa_cons (pe_callB call_len_seq rfl B.len_ bt_len (pa_cons (pv 2) pa_nil)) pa_nil))) (fun _ _ => rfl)))
   (pss_cons (ps_set (i := 5) scLDeed.nd rfl (Or.inl rfl) (pe_callF FT hr (by decide) (pa_cons (pv 0) (pa_cons (pv 3) pa_nil))))
   (pss_cons (ps_setLc (i := 6) (own := [("one", 10)]) (g := gName 10) rfl scLDeed.nd rfl rfl (sw_true rfl rfl rfl rfl) (pi_range1 rfl B.range_ (pa_cons (pv 3) pa_nil)) (blkOk_by (own := [("one", 10)]) (N := ["bag", "skin", "words", "many", "word", "half", "alone", "some", "other", "near", "one"]) (sc := (defScope s__law_deed)) (by decide +kernel)) (fun _ _ _ _ _ => (pg_name (i := 10) scLDeed.nd rfl (Or.inl rfl))) (fun _ _ _ _ _ => (pts_one (pt_cmpR op_isN (pe_ix (ix_tupK (K := K) rfl) (pe_ix (ix_tupK (K := K) rfl) (pv 1) pe_int (fun _ _ => rfl)) (pv 10) (fun _ _ => rfl)) pe_non (nomark _)))) (fun _ _ _ _ _ => (pv 10)))
   (pss_cons (ps_if (PW.pt (pw_and (pt_cmpR op_in_seq (pv 4) (pe_lst (pa_cons pe_str (pa_cons pe_str (pa_cons pe_str pa_nil)))) rfl) (pw_and (pt_cmpR (op_neNil hr.units) (pv 6) (pe_lst pa_nil) (nomark _)) (pw_and1 (pt_cmpR op_gt (pe_callF FT hr (by decide) (pa_cons (pv 0) (pa_cons pe_int pa_nil))) pe_int (nomark _))))))
   (pss_one (ps_set (i := 5) scLDeed.nd rfl (Or.inl rfl) (pe_ix ix_list (pv 6) (pe_callF FT hr (by decide) (pa_cons (pv 0) (pa_cons (pe_callB call_len_seq rfl B.len_ bt_len (pa_cons (pv 6) pa_nil)) pa_nil))) (fun _ _ => rfl))))
   pss_nil)
   (pss_cons (ps_if (pt_cmpR op_eq (pe_callF FT hr (by decide) (pa_cons (pv 0) (pa_cons pe_int pa_nil))) pe_int (nomark _))
   (pss_one (ps_set (i := 5) scLDeed.nd rfl (Or.inl rfl) (pe_ix ix_list (pe_lst (pa_cons (pe_un un_neg pe_int) (pa_cons (pv 3) (pa_cons (pe_op op_pow pe_int pe_int) (pa_cons (pe_un un_neg (pv 3)) pa_nil))))) (pe_callF FT hr (by decide) (pa_cons (pv 0) (pa_cons pe_int pa_nil))) (fun _ _ => rfl))))
   pss_nil)
   (pss_cons (ps_if (pt_cmpR op_notIn_seq (pv 4) (pe_lst (pa_cons pe_str (pa_cons pe_str (pa_cons pe_str pa_nil)))) rfl)
   (pss_one (ps_ret (pe_tup (pa_cons (pv 4) (pa_cons (pv 5) pa_nil)))))
   pss_nil)
   (pss_cons (ps_set (i := 7) scLDeed.nd rfl (Or.inl rfl) (pe_lst (pa_cons (pe_callF FT hr (by decide) (pa_cons (pv 0) (pa_cons (pv 3) pa_nil))) (pa_cons (pv 5) (pa_cons (pe_un un_neg pe_int) (pa_cons (pv 3) pa_nil))))))
   (pss_cons (ps_set (i := 8) scLDeed.nd rfl (Or.inl rfl) (pe_ix ix_list (pv 7) (pe_ix ix_list (pe_lst (pa_cons pe_int (pa_cons pe_int (pa_cons pe_int (pa_cons pe_int (pa_cons pe_int (pa_cons pe_int (pa_cons pe_int (pa_cons pe_int pa_nil))))))))) (pe_callF FT hr (by decide) (pa_cons (pv 0) (pa_cons pe_int pa_nil))) (fun _ _ => rfl)) (fun _ _ => rfl)))
   (pss_cons (ps_if (PW.pt (pw_and (pt_chain op_le op_lt pe_int (pv 5) (pv 3)) (pw_and1 (pt_cmpR op_gt (pe_callF FT hr (by decide) (pa_cons (pv 0) (pa_cons pe_int pa_nil))) pe_int (nomark _)))))
   (pss_cons (ps_set (i := 9) scLDeed.nd rfl (Or.inl rfl) (pe_ix ix_list (pe_lst (pa_cons (pe_callF FLP hr (by decide) (pa_cons (pv 1) (pa_cons (pv 5) pa_nil))) (pa_cons (pe_callF FLK hr (by decide) (pa_cons (pv 1) (pa_cons (pv 5) pa_nil))) (pa_cons (pv 6) pa_nil)))) (pe_bm PySem.F.plainAttrs_list PySem.F.slot_list_index PySem.F.type_list_index mt_index (pe_lst (pa_cons pe_str (pa_cons pe_str (pa_cons pe_str pa_nil)))) (pa_cons (pv 4) pa_nil)) (fun _ _ => rfl)))
   (pss_one (ps_if (pt_cmpR op_gt (pe_callB call_len_seq rfl B.len_ bt_len (pa_cons (pv 9) pa_nil)) pe_int (nomark _))
   (pss_one (ps_set (i := 8) scLDeed.nd rfl (Or.inl rfl) (pe_ix ix_seq (pv 9) (pe_callF FT hr (by decide) (pa_cons (pv 0) (pa_cons (pe_callB call_len_seq rfl B.len_ bt_len (pa_cons (pv 9) pa_nil)) pa_nil))) (fun _ _ => rfl))))
   pss_nil)))
   pss_nil)
   (pss_one (ps_ret (pe_tup (pa_cons (pv 4) (pa_cons (pv 5) (pa_cons (pv 8) pa_nil)))))))))))))))), ?_⟩
  refine ⟨_, rfl, p, _, _, .ref po, rfl, rfl, SqT.of h1, at0 _ _, po, _, rfl, .inr (SqT.of h2), ?_⟩
  rw [show ((on.map V.int).length : Int) = (on.length : Int) by rw [hl]]
  refine ⟨_, rfl, _, rfl, _, rfl, pw, _, rfl, .inl (SqL.of hw), b, x, y, _, rfl, hb, by rw [List.length_map]; omega, by rw [List.length_map]; omega, fun r1 H1 x1 y1 r10 r11 hb1 o1 => ?_⟩
  rw [List.length_map] at r11
  obtain ⟨word, hwd, hwa⟩ := at_strs r10 r11
  refine ⟨pw, _, _, .str word, rfl, rfl, SqL.of ((o1 pw npw).trans hw), hwa, ?_⟩
  refine ⟨_, rfl, _, rfl, b, x1, y1, _, rfl, hb1, by omega, by omega, fun half H2 x2 y2 r20 r21 hb2 o2 => ?_⟩
  have B2 : But b H H2 := (only_but o1).trans (only_but o2)
  have SA2 := SA.but hb B2
  refine ⟨_, rfl, _, rfl, by omega, by omega, fun D hD => ?_⟩
  have nDb : D ≠ b := (ne_of_none hb2 hD).symm
  obtain ⟨_, po2, pm2, k1, k2, k3⟩ := id SA2
  refine lc_range (Pv := fun i H' => Same H2 H' ∧ H' D = some (.lst (((rngL i).filter fun h => decide (lkM ms h = none)).map V.int))) ⟨same_put hD _, upd_same⟩ (fun i H' hi pv => ?_) (fun H' pv => ?_)
  · obtain ⟨sm, gD⟩ := pv
    have hi' : i < on.length := by omega
    have gi : InR on.length (i : Int) := ⟨by omega, by omega⟩
    rw [Int.zero_add]
    refine ⟨rfl, _, rfl, p, _, _, .ref pm2, rfl, rfl, SqT.of (sm _ _ k1), at1 _ _ _, _, rfl, pm2, _, _, _, rfl, rfl, SqT.of (sm _ _ k3), at_lkM gi.1 (by rw [hml]; exact gi.2), rfl, _, rfl, ?_⟩
    have hf := List.length_filter_le (fun h => decide (lkM ms h = none)) (rngL i)
    rw [rngL_len] at hf
    cases e : lkM ms (i : Int) with
    | none =>
      refine itP rfl ⟨_, rfl, _, gD, by rw [List.length_map, sizeLine_eq]; omega, same_set sm hD, ?_⟩
      rw [upd_same, alone_take, if_pos e, List.map_append]; rfl
    | some m =>
      refine itN rfl ⟨sm, ?_⟩
      rw [gD, alone_take, if_neg (by rw [e]; exact nofun), List.append_nil]
  obtain ⟨sm, gD⟩ := pv
  rw [show ((on.length : Int)).toNat = on.length by omega] at gD
  replace gD : H' D = some (.lst ((aloneL on ms).map V.int)) := gD
  have B3 : But b H H' := B2.trans sm.but
  have SA3 := SA2.same sm
  have hb3 := sm _ _ hb2
  have hal := alone_len (on := on) (ms := ms)
  clear hD sm k1 k2 k3 SA2 B2 hb2 o1 o2 hb1 hwa
  generalize H' = H3 at gD B3 SA3 hb3 ⊢
  dsimp only [gName]
  refine seq_join (fun σ H4 => ∃ (half x y : Int), σ = [some (.ref b), some (.ref p), some (.ref pw), some (.int (on.length : Int)), some (.str word), some (.int half), some (.ref D), none, none, none, none] ∧ But b H H4 ∧ SkAt H4 p on ms ∧ H4 b = some (.lst [.int x, .int y]) ∧ H4 D = some (.lst ((aloneL on ms).map V.int)) ∧ 0 ≤ half ∧ half < on.length) (fun {Nx} hN => ?_) ?_
  · have stay : ∀ (H4 : Hp) (x4 y4 : Int), But b H H4 → SkAt H4 p on ms → H4 b = some (.lst [.int x4, .int y4]) → H4 D = some (.lst ((aloneL on ms).map V.int)) → Nx [some (.ref b), some (.ref p), some (.ref pw), some (.int (on.length : Int)), some (.str word), some (.int half), some (.ref D), none, none, none, none] H4 := fun H4 x4 y4 a1 a2 a3 a4 => hN _ _ ⟨half, x4, y4, rfl, a1, a2, a3, a4, r20, r21⟩
    refine ⟨_, rfl, (by show 3 ≤ sizeLine; decide), fun l3 hl3 => ?_⟩
    refine ⟨l3, _, rfl, .inl (SqL.of upd_same), rfl, rfl, _, rfl, ?_⟩
    have B4 := B3.new hl3 (o := .lst [V.str "cap", V.str "grow", V.str "sew"])
    have SA4 := SA3.same (same_put hl3 (.lst [V.str "cap", V.str "grow", V.str "sew"]))
    have hb4 := up hl3 hb3 (o := .lst [V.str "cap", V.str "grow", V.str "sew"])
    have gD4 := up hl3 gD (o := .lst [V.str "cap", V.str "grow", V.str "sew"])
    generalize upd H3 l3 (.lst [V.str "cap", V.str "grow", V.str "sew"]) = H4 at B4 SA4 hb4 gD4 ⊢
    refine ite2 (fun c1 => ?_) (fun c1 => itN rfl (stay H4 _ _ B4 SA4 hb4 gD4))
    refine ⟨_, rfl, (by show 0 ≤ sizeLine; decide), fun l0 hl0 => ⟨D, l0, aloneL on ms, rfl, rfl, SqL.of (up hl0 gD4), SqL.of upd_same, _, rfl, ?_⟩⟩
    have B5 := B4.new hl0 (o := .lst [])
    have SA5 := SA4.same (same_put hl0 (.lst []))
    have hb5 := up hl0 hb4 (o := .lst [])
    have gD5 := up hl0 gD4 (o := .lst [])
    generalize upd H4 l0 (.lst []) = H5 at B5 SA5 hb5 gD5 ⊢
    refine ite2 (fun c2 => ?_) (fun c2 => itN rfl (stay H5 _ _ B5 SA5 hb5 gD5))
    have hne : 0 < (aloneL on ms).length := by
      cases e : aloneL on ms with
      | nil => rw [e] at c2; exact absurd c2 (by decide)
      | cons a r => simp
    refine ⟨_, rfl, b, _, _, 4, rfl, hb5, by decide, by decide, fun r6 H6 x6 y6 r60 r61 hb6 o6 => ⟨_, _, rfl, rfl, _, rfl, ?_⟩⟩
    have B6 := B5.one o6
    have SA6 := SA5.but hb5 (only_but o6)
    have gD6 := (o6 D nDb).trans gD5
    refine ite2 (fun c3 => ?_) (fun c3 => stay H6 _ _ B6 SA6 hb6 gD6)
    refine ⟨_, rfl, _, rfl, _, rfl, D, _, rfl, .inl (SqL.of gD6), b, _, _, _, rfl, hb6, by rw [List.length_map]; omega, by rw [List.length_map]; omega, fun r7 H7 x7 y7 r70 r71 hb7 o7 => ?_⟩
    rw [List.length_map] at r71
    obtain ⟨h7, hm7, ha7⟩ := at_ints r70 r71
    have gD7 := (o7 D nDb).trans gD6
    have gh7 := alone_rng h7 hm7
    exact ⟨D, _, _, _, rfl, rfl, SqL.of gD7, ha7, hN _ _ ⟨h7, x7, y7, rfl, B6.one o7, SA6.but hb6 (only_but o7), hb7, gD7, gh7.1, gh7.2⟩⟩
  rintro σ H4 ⟨half, x4, y4, rfl, B4, SA4, hb4, gD4, h40, h41⟩
  refine seq_join (fun σ H5 => ∃ (half x y : Int), σ = [some (.ref b), some (.ref p), some (.ref pw), some (.int (on.length : Int)), some (.str word), some (.int half), some (.ref D), none, none, none, none] ∧ But b H H5 ∧ SkAt H5 p on ms ∧ H5 b = some (.lst [.int x, .int y]) ∧ H5 D = some (.lst ((aloneL on ms).map V.int)) ∧ half.natAbs ≤ 1000000000) (fun {Nx} hN => ?_) ?_
  · refine ⟨_, rfl, b, _, _, 20, rfl, hb4, by decide, by decide, fun r6 H6 x6 y6 r60 r61 hb6 o6 => ⟨rfl, _, rfl, ?_⟩⟩
    have B6 := B4.one o6
    have SA6 := SA4.but hb4 (only_but o6)
    have gD6 := (o6 D nDb).trans gD4
    refine ite2 (fun c3 => ?_) (fun c3 => hN _ _ ⟨half, x6, y6, rfl, B6, SA6, hb6, gD6, by omega⟩)
    refine ⟨_, rfl, _, rfl, _, _, rfl, rfl, ⟨by decide, by decide, by decide⟩, _, rfl, _, rfl, (by show 4 ≤ sizeLine; decide), fun l4 hl4 => ?_⟩
    refine ⟨_, rfl, b, _, _, 4, rfl, up hl4 hb6, by decide, by decide, fun r7 H7 x7 y7 r70 r71 hb7 o7 => ?_⟩
    have n4b : l4 ≠ b := (ne_of_none hb6 hl4).symm
    obtain ⟨h7, hm7, ha7⟩ := at_ints (ns := [-1, (on.length : Int), 10 ^ (8 : Int).toNat, -(on.length : Int)]) r70 (show _ < (4 : Int) by omega)
    have hb7' : h7.natAbs ≤ 1000000000 := by
      have e8 : (10 : Int) ^ (8 : Int).toNat = 100000000 := by decide
      have : h7 = -1 ∨ h7 = (on.length : Int) ∨ h7 = 10 ^ (8 : Int).toNat ∨ h7 = -(on.length : Int) := by simpa using hm7
      rw [e8] at this
      omega
    refine ⟨l4, _, _, _, rfl, rfl, SqL.of ((o7 l4 n4b).trans upd_same), ha7, ?_⟩
    exact hN _ _ ⟨h7, x7, y7, rfl, (B6.new hl4).one o7, (SA6.same (same_put hl4 _)).but (up hl4 hb6) (only_but o7), hb7, (o7 D nDb).trans (up hl4 gD6), hb7'⟩
  clear h40 h41
  rintro σ H5 ⟨half, x5, y5, rfl, B5, SA5, hb5, gD5, hbh⟩
  refine ⟨_, rfl, (by show 3 ≤ sizeLine; decide), fun l3 hl3 => ?_⟩
  refine ⟨l3, _, rfl, .inl (SqL.of upd_same), rfl, rfl, _, rfl, ?_⟩
  have B6 := B5.new hl3 (o := .lst [V.str "cut", V.str "part", V.str "sew"])
  have SA6 := SA5.same (same_put hl3 (.lst [V.str "cut", V.str "part", V.str "sew"]))
  have hb6 := up hl3 hb5 (o := .lst [V.str "cut", V.str "part", V.str "sew"])
  have gD6 := up hl3 gD5 (o := .lst [V.str "cut", V.str "part", V.str "sew"])
  generalize upd H5 l3 (.lst [V.str "cut", V.str "part", V.str "sew"]) = H6 at B6 SA6 hb6 gD6 ⊢
  rw [show [V.str "cut", V.str "part", V.str "sew"] = (["cut", "part", "sew"] : List Str).map V.str from rfl, notin_strs, mem_two]
  have fin : ∀ (H7 : Hp) (x7 y7 : Int) (nums : List Int) (r : Addr), DeedOk word nums → But b H H7 → H7 b = some (.lst [.int x7, .int y7]) → H7 r = none → Q (.ref r) (upd H7 r (.tup (.str word :: nums.map V.int))) := fun H7 x7 y7 nums r d B7 hb7 hr0 => q r _ x7 y7 word nums hwd d (B7.new hr0) (up hr0 hb7) upd_same
  cases tw : two_ word with
  | false =>
    refine itP rfl ⟨_, rfl, _, rfl, (by show 2 ≤ sizeLine; decide), fun r hr0 => ?_⟩
    refine fin H6 _ _ [half] r ⟨fun n hn => ?_, ?_⟩ B6 hb6 hr0
    · rw [List.mem_singleton.mp hn]; exact hbh
    · rw [tw, if_neg (by decide)]; exact ⟨half, rfl⟩
  | true =>
  refine itN rfl ?_
  have dok : ∀ other : Int, other.natAbs ≤ 1000000000 → DeedOk word [half, other] := fun other ho => ⟨fun n hn => by
    have : n = half ∨ n = other := by simpa using hn
    rcases this with rfl | rfl
    · exact hbh
    · exact ho, by rw [tw, if_pos rfl]; exact ⟨half, other, rfl⟩⟩
  refine ⟨_, rfl, _, rfl, b, _, _, _, rfl, hb6, by omega, by omega, fun r7 H7 x7 y7 r70 r71 hb7 o7 => ?_⟩
  refine ⟨_, rfl, _, rfl, _, rfl, (by show 4 ≤ sizeLine; decide), fun ls hls => ?_⟩
  have nsb : ls ≠ b := (ne_of_none hb7 hls).symm
  have B8 := (B6.one o7).new hls (o := .lst ([r7, half, -1, (on.length : Int)].map V.int))
  have SA8 := (SA6.but hb6 (only_but o7)).same (same_put hls (.lst ([r7, half, -1, (on.length : Int)].map V.int)))
  have hb8 := up hls hb7 (o := .lst ([r7, half, -1, (on.length : Int)].map V.int))
  have gD8 := up hls ((o7 D nDb).trans gD6) (o := .lst ([r7, half, -1, (on.length : Int)].map V.int))
  have gs8 := upd_same (H := H7) (a := ls) (o := .lst ([r7, half, -1, (on.length : Int)].map V.int))
  replace gs8 : upd H7 ls (.lst [V.int r7, V.int half, V.int (-1), V.int (on.length : Int)]) ls = some (.lst ([r7, half, -1, (on.length : Int)].map V.int)) := gs8
  replace B8 : But b H (upd H7 ls (.lst [V.int r7, V.int half, V.int (-1), V.int (on.length : Int)])) := B8
  replace SA8 : SkAt (upd H7 ls (.lst [V.int r7, V.int half, V.int (-1), V.int (on.length : Int)])) p on ms := SA8
  replace hb8 : upd H7 ls (.lst [V.int r7, V.int half, V.int (-1), V.int (on.length : Int)]) b = _ := hb8
  replace gD8 : upd H7 ls (.lst [V.int r7, V.int half, V.int (-1), V.int (on.length : Int)]) D = _ := gD8
  generalize upd H7 ls (.lst [V.int r7, V.int half, V.int (-1), V.int (on.length : Int)]) = H8 at B8 SA8 hb8 gD8 gs8 ⊢
  refine ⟨_, rfl, (by show 8 ≤ sizeLine; decide), fun l8 hl8 => ?_⟩
  have n8b : l8 ≠ b := (ne_of_none hb8 hl8).symm
  refine ⟨_, rfl, b, _, _, 8, rfl, up hl8 hb8, by decide, by decide, fun r9 H9 x9 y9 r90 r91 hb9 o9 => ?_⟩
  obtain ⟨i9, hm9, ha9⟩ := at_ints (ns := [0, 0, 0, 0, 0, 1, 2, 3]) r90 (show _ < (8 : Int) by omega)
  have gi9 : 0 ≤ i9 ∧ i9 < 4 := by
    have : i9 = 0 ∨ i9 = 1 ∨ i9 = 2 ∨ i9 = 3 := by simpa using hm9
    omega
  refine ⟨l8, _, _, _, rfl, rfl, SqL.of ((o9 l8 n8b).trans upd_same), ha9, ?_⟩
  obtain ⟨ot, hmo, hao⟩ := at_ints (ns := [r7, half, -1, (on.length : Int)]) gi9.1 (show _ < (4 : Int) from gi9.2)
  have hot : ot.natAbs ≤ 1000000000 := by
    have : ot = r7 ∨ ot = half ∨ ot = -1 ∨ ot = (on.length : Int) := by simpa using hmo
    omega
  have gs9 := (o9 ls nsb).trans (up hl8 gs8)
  refine ⟨ls, _, _, _, rfl, rfl, SqL.of gs9, hao, ?_⟩
  have B9 := (B8.new hl8).one o9
  have SA9 := (SA8.same (same_put hl8 _)).but (up hl8 hb8) (only_but o9)
  have gD9 := (o9 D nDb).trans (up hl8 gD8)
  clear o9 hl8 hb8 B8 SA8 gD8 gs8 hls o7 ha9 hao
  dsimp only [gName]
  refine seq_join (fun σ H' => ∃ (other x y : Int) (v9 v10 : Option V), σ = [some (.ref b), some (.ref p), some (.ref pw), some (.int (on.length : Int)), some (.str word), some (.int half), some (.ref D), some (.ref ls), some (.int other), v10, v9] ∧ But b H H' ∧ H' b = some (.lst [.int x, .int y]) ∧ other.natAbs ≤ 1000000000) (fun {Nx} hN => ?_) ?_
  rotate_left
  · rintro σ H' ⟨other, x', y', v9, v10, rfl, B', hb', ho⟩
    exact ⟨_, rfl, _, rfl, _, rfl, (by show 3 ≤ sizeLine; decide), fun r hr0 => fin H' x' y' [half, other] r (dok other ho) B' hb' hr0⟩
  refine ⟨_, rfl, _, _, rfl, rfl, _, rfl, ite2 (fun c1 => ?_) (fun c1 => ⟨_, rfl, itN rfl (itN rfl (hN _ _ ⟨ot, _, _, _, _, rfl, B9, hb9, hot⟩))⟩)⟩
  refine ⟨_, rfl, _, _, rfl, rfl, _, rfl, ?_⟩
  refine ite2 (fun c2 => ?_) (fun c2 => hN _ _ ⟨ot, _, _, _, _, rfl, B9, hb9, hot⟩)
  have gh : InR on.length half := by
    have c1 : 0 ≤ half := of_decide_eq_true c1
    have c2 : half < on.length := of_decide_eq_true c2
    exact ⟨c1, c2⟩
  refine ⟨_, rfl, b, _, _, 5, rfl, hb9, by decide, by decide, fun r10 HA xA yA r100 r101 hbA oA => ⟨_, _, rfl, rfl, _, rfl, ?_⟩⟩
  have BA := B9.one oA
  have SAA := SA9.but hb9 (only_but oA)
  have gDA := (oA D nDb).trans gD9
  refine ite2 (fun c3 => ?_) (fun c3 => hN _ _ ⟨ot, _, _, _, _, rfl, BA, hbA, hot⟩)
  refine ⟨_, rfl, _, rfl, p, on, ms, half, rfl, SAA, gh, fun rp HB sB fB eB => ?_⟩
  refine ⟨_, rfl, _, rfl, p, on, ms, half, rfl, SAA.same sB, gh, fun rq HC sC fC eC => ?_⟩
  refine ⟨_, rfl, (by show 3 ≤ sizeLine; decide), fun ln hln => ?_⟩
  refine ⟨(by show 3 ≤ sizeLine; decide), fun li hli => ?_⟩
  refine ⟨.inl ⟨rfl, _, SqL.of upd_same⟩, _, rfl, ?_⟩
  unfold gPatch at eB
  unfold gKnot at eC
  have sD := ((sB.trans sC).trans (same_put hln (.lst [V.ref rp, V.ref rq, V.ref D]))).trans (same_put hli (.lst [V.str "cut", V.str "part", V.str "sew"]))
  have epD := up hli (up hln (sC _ _ eB) (o := .lst [V.ref rp, V.ref rq, V.ref D])) (o := .lst [V.str "cut", V.str "part", V.str "sew"])
  have eqD := up hli (up hln eC (o := .lst [V.ref rp, V.ref rq, V.ref D])) (o := .lst [V.str "cut", V.str "part", V.str "sew"])
  have eaD := sD _ _ gDA
  have elD := up hli (upd_same (H := HC) (a := ln) (o := .lst [V.ref rp, V.ref rq, V.ref D])) (o := .lst [V.str "cut", V.str "part", V.str "sew"])
  have eiD := upd_same (H := upd HC ln (.lst [V.ref rp, V.ref rq, V.ref D])) (a := li) (o := .lst [V.str "cut", V.str "part", V.str "sew"])
  have hbD := sD _ _ hbA
  have BD := BA.trans (sD.but (b := b))
  generalize upd (upd HC ln (.lst [V.ref rp, V.ref rq, V.ref D])) li (.lst [V.str "cut", V.str "part", V.str "sew"]) = HD at sD epD eqD eaD elD eiD hbD BD ⊢
  have hw3 : word = "cut" ∨ word = "part" ∨ word = "sew" := by
    unfold two_ at tw
    by_cases k1 : word = "cut"
    · exact .inl k1
    by_cases k2 : word = "part"
    · exact .inr (.inl k2)
    by_cases k3 : word = "sew"
    · exact .inr (.inr k3)
    simp [k1, k2, k3] at tw
  have npb : rp ≠ b := fun z => by rw [z, hbA] at fB; cases fB
  have nqb : rq ≠ b := fun z => by rw [z, sB _ _ hbA] at fC; cases fC
  have pl := (sk.pat gh).2.2
  have kl := (sk.knot gh).2.2
  rcases hw3 with rfl | rfl | rfl
  · refine ⟨li, _, _, 0, .str "cut", rfl, rfl, SqL.of eiD, rfl, rfl, rfl, by decide, fun m z hm => absurd hm (Nat.not_lt_zero _), ?_⟩
    refine ⟨ln, _, _, .ref rp, rfl, rfl, SqL.of elD, rfl, ?_⟩
    refine ⟨_, rfl, rp, _, rfl, .inr (SqT.of epD), _, _, rfl, rfl, _, rfl, ite2 (fun c4 => ?_) (fun c4 => hN _ _ ⟨ot, _, _, _, _, rfl, BD, hbD, hot⟩)⟩
    have c4 : (0 : Int) < (((patL on half).map V.int).length : Int) := of_decide_eq_true c4
    rw [List.length_map] at c4
    refine ⟨_, rfl, _, rfl, _, rfl, rp, _, rfl, .inr (SqT.of epD), b, _, _, _, rfl, hbD, by rw [List.length_map]; exact c4, by rw [List.length_map]; omega, fun rE HE xE yE rE0 rE1 hbE oE => ?_⟩
    rw [List.length_map] at rE1
    obtain ⟨vE, hmE, haE⟩ := at_ints rE0 rE1
    have gv := pl.1 vE hmE
    refine .inr (.inl ⟨rp, _, _, _, rfl, rfl, SqT.of ((oE rp npb).trans epD), haE, hN _ _ ⟨vE, xE, yE, _, _, rfl, BD.one oE, hbE, by unfold InR at gv; omega⟩⟩)
  · refine ⟨li, _, _, 1, .str "part", rfl, rfl, SqL.of eiD, rfl, rfl, rfl, by decide, fun m z hm hz => by (have : m = 0 := by omega); subst this; cases hz; decide, ?_⟩
    refine ⟨ln, _, _, .ref rq, rfl, rfl, SqL.of elD, rfl, ?_⟩
    refine ⟨_, rfl, rq, _, rfl, .inr (SqT.of eqD), _, _, rfl, rfl, _, rfl, ite2 (fun c4 => ?_) (fun c4 => hN _ _ ⟨ot, _, _, _, _, rfl, BD, hbD, hot⟩)⟩
    have c4 : (0 : Int) < (((knotL on ms half).map V.int).length : Int) := of_decide_eq_true c4
    rw [List.length_map] at c4
    refine ⟨_, rfl, _, rfl, _, rfl, rq, _, rfl, .inr (SqT.of eqD), b, _, _, _, rfl, hbD, by rw [List.length_map]; exact c4, by rw [List.length_map]; omega, fun rE HE xE yE rE0 rE1 hbE oE => ?_⟩
    rw [List.length_map] at rE1
    obtain ⟨vE, hmE, haE⟩ := at_ints rE0 rE1
    have gv := kl.1 vE hmE
    refine .inr (.inl ⟨rq, _, _, _, rfl, rfl, SqT.of ((oE rq nqb).trans eqD), haE, hN _ _ ⟨vE, xE, yE, _, _, rfl, BD.one oE, hbE, by unfold InR at gv; omega⟩⟩)
  · refine ⟨li, _, _, 2, .str "sew", rfl, rfl, SqL.of eiD, rfl, rfl, rfl, by decide, fun m z hm hz => by (rcases (show m = 0 ∨ m = 1 by omega) with rfl | rfl) <;> (cases hz; decide), ?_⟩
    refine ⟨ln, _, _, .ref D, rfl, rfl, SqL.of elD, rfl, ?_⟩
    refine ⟨_, rfl, D, _, rfl, .inl (SqL.of eaD), _, _, rfl, rfl, _, rfl, ite2 (fun c4 => ?_) (fun c4 => hN _ _ ⟨ot, _, _, _, _, rfl, BD, hbD, hot⟩)⟩
    have c4 : (0 : Int) < (((aloneL on ms).map V.int).length : Int) := of_decide_eq_true c4
    rw [List.length_map] at c4
    refine ⟨_, rfl, _, rfl, _, rfl, D, _, rfl, .inl (SqL.of eaD), b, _, _, _, rfl, hbD, by rw [List.length_map]; exact c4, by rw [List.length_map]; omega, fun rE HE xE yE rE0 rE1 hbE oE => ?_⟩
    rw [List.length_map] at rE1
    obtain ⟨vE, hmE, haE⟩ := at_ints rE0 rE1
    have gv := alone_rng vE hmE
    refine .inl ( ⟨D, _, _, _, rfl, rfl, SqL.of ((oE D nDb).trans eaD), haE, hN _ _ ⟨vE, xE, yE, _, _, rfl, BD.one oE, hbE, by unfold InR at gv; omega⟩⟩)
end
end Hs
set_option Elab.async false
set_option linter.all false
set_option maxRecDepth 100000
set_option maxHeartbeats 4000000
namespace Hs
open PySem L2
section
variable {P : Program} {w : World} {K : PySem.W.Frag} {mg : Str → Option Value} {base : Heap} {f : Addr} {fd : FuncData} {C : CsA} {S fH cS : Addr} {D : Nat → Addr} {tM : Tok}
def DueV (H : Hp) (D : Deed) (v : V) : Prop := match D with
  | .skin on ms => ∃ r, v = .ref r ∧ SkAt H r on ms
  | d => v = .str d.text
theorem DueV.same {H H' : Hp} {D : Deed} {v : V} (h : DueV H D v) (s : Same H H') : DueV H' D v := by
  cases D with
  | skin on ms => obtain ⟨r, e, S⟩ := h; exact ⟨r, e, S.same s⟩
  | _ => exact h
def harmW : List Str := ["knot", "two", "last", "rim", "one", "three", "loop", "rims", "inner"]
theorem rec_f {oe : Obj} {c : Value} {od : Option Addr} (rc : Rec oe c od) : ∃ vs, oe.data = .fields vs := by
  obtain ⟨vs, sl, rfl, _⟩ := rc; exact ⟨vs, rfl⟩
def kHarm : Nat → Bool := fun i => decide (i = 0)
def kNoHalf : Nat → Bool := fun i => decide (i = 1)
def kMany : Nat → Bool := fun i => decide (i = 9)
def kUnlike : Nat → Bool := fun i => decide (i = 11)
theorem kText_kHarm : kText kHarm = "Harm+" := by decide +kernel
theorem kText_kNoHalf : kText kNoHalf = "NoHalf+" := by decide +kernel
theorem kText_kMany : kText kMany = "TooMany+" := by decide +kernel
theorem kText_kUnlike : kText kUnlike = "Unlike+" := by decide +kernel
theorem at2 {α : Type} (a b c : α) (r : List α) : atI (a :: b :: c :: r) 2 = some c := atI_nat (j := 2) rfl
theorem harm_len : ∀ w ∈ harmW, w.length ≤ 5 := by decide
def mD : Option Int → PyData
  | none => .none
  | some i => .int i
def skD (on : List Int) (ms : List (Option Int)) : PyData := .tuple [.tuple (on.map PyData.int), .tuple (ms.map mD)]
theorem dp_mD {K : PySem.W.Frag} {H : Hp} : ∀ os : List (Option Int), DpAll K H (os.map mV) (os.map mD)
  | [] => .nil
  | none :: r => .cons .non (dp_mD r)
  | some i :: r => .cons (.int i) (dp_mD r)
theorem dp_sk {K : PySem.W.Frag} {H : Hp} {p : Addr} {on : List Int} {ms : List (Option Int)} (S : SkAt H p on ms) : Dp K H (.ref p) (skD on ms) := by
  obtain ⟨_, po, pm, h1, h2, h3⟩ := S
  exact .tup (SqT.of h1) (.cons (.tup (SqT.of h2) (dpA_ints on)) (.cons (.tup (SqT.of h3) (dp_mD ms)) .nil))
theorem gd_sk {on : List Int} {ms : List (Option Int)} (S : SkinOk on ms) : Gd 2 (skD on ms) := by
  have h1 := S.le
  have h2 := S.len
  refine Gd.tup (k := 1) (fun d hd => ?_) (by show 2 ≤ _; omega)
  rcases List.mem_cons.mp hd with rfl | hd
  · exact gd_ints 0 (by omega)
  · obtain rfl : d = .tuple (ms.map mD) := by simpa using hd
    refine Gd.tup (k := 0) (fun d hd => ?_) (by rw [List.length_map]; omega)
    obtain ⟨o, _, rfl⟩ := List.mem_map.mp hd
    cases o with
    | none => exact gd_n 0
    | some i => exact gd_i 0 i
theorem gd_harm : ∀ w ∈ harmW, Gd 0 (.str (("Harm+" : Str) ++ w)) := by
  have h : ∀ w ∈ harmW, PyData.strOk (("Harm+" : Str) ++ w) = true := by decide +kernel
  exact fun w hw => gd_s 0 (h w hw)
theorem gd_text (d : Deed) (h : ∀ w, d = .harm w → w ∈ harmW) : Gd 0 (.str d.text) := by
  cases d with
  | skin on ms => show Gd 0 (.str ""); exact gd_s 0 (by decide +kernel)
  | no => exact gd_s 0 (by decide +kernel)
  | many => exact gd_s 0 (by decide +kernel)
  | rim => exact gd_s 0 (by decide +kernel)
  | unlike => exact gd_s 0 (by decide +kernel)
  | harm w => exact gd_harm w (h w rfl)
theorem due_data {K : PySem.W.Frag} {H : Hp} {D : Deed} {v u : V} (hw : ∀ w, D = .harm w → w ∈ harmW) (h1 : DueV H D v) (h2 : DueV H D u) : ∃ d k, Dp K H v d ∧ Dp K H u d ∧ Gd k d ∧ k ≤ 64 := by
  have st : ∀ d : Deed, (∀ w, d = .harm w → w ∈ harmW) → v = .str d.text → u = .str d.text → ∃ d k, Dp K H v d ∧ Dp K H u d ∧ Gd k d ∧ k ≤ 64 := fun d hd e1 e2 => by
    subst e1 e2
    exact ⟨_, 0, .str _, .str _, gd_text d hd, by decide⟩
  cases D with
  | skin on ms =>
    obtain ⟨r, rfl, S⟩ := h1
    obtain ⟨r', rfl, S'⟩ := h2
    exact ⟨_, 2, dp_sk S, dp_sk S', gd_sk S.ok, by decide⟩
  | no => exact st .no hw h1 h2
  | many => exact st .many hw h1 h2
  | rim => exact st .rim hw h1 h2
  | unlike => exact st .unlike hw h1 h2
  | harm w => exact st (.harm w) hw h1 h2
theorem patch_no {word : Str} {on : List Int} {ms : List (Option Int)} {a b : Int} (hw : word ≠ "cut") (g : ¬ InR on.length a) : patchD word on ms a b = .no := by
  unfold patchD
  rw [if_neg hw]
  split
  · unfold joinF; rw [if_neg g]
  split
  · unfold turnG; rw [if_neg g]
  · unfold turnG; rw [if_neg g]
theorem patch_no2 {on : List Int} {ms : List (Option Int)} {a b : Int} (g : ¬ InR on.length a ∨ ¬ InR on.length b) : patchD "cut" on ms a b = .no := by
  unfold patchD
  rw [if_pos rfl]
  unfold cutF
  rw [if_neg (fun z => by rcases g with g | g; exact g z.1; exact g z.2)]
theorem turnG_cls {tn : Bool} {on : List Int} {ms : List (Option Int)} {h : Int} : (∀ w, turnG tn on ms h = .harm w → w ∈ harmW) ∧ turnG tn on ms h ≠ .rim ∧ turnG tn on ms h ≠ .unlike ∧ turnG tn on ms h ≠ .many := by
  unfold turnG
  split
  · split
    · exact ⟨fun w e => by cases e; decide, nofun, nofun, nofun⟩
    · split
      · exact ⟨fun w e => by cases e; decide, nofun, nofun, nofun⟩
      · split
        · exact ⟨nofun, nofun, nofun, nofun⟩
        · exact ⟨fun w e => by cases e; decide, nofun, nofun, nofun⟩
  · exact ⟨nofun, nofun, nofun, nofun⟩
theorem joinF_cls {on : List Int} {ms : List (Option Int)} {h : Int} : (∀ w, joinF on ms h = .harm w → w ∈ harmW) ∧ joinF on ms h ≠ .rim ∧ joinF on ms h ≠ .unlike ∧ joinF on ms h ≠ .many := by
  unfold joinF
  split
  · split
    · exact ⟨fun w e => by cases e; decide, nofun, nofun, nofun⟩
    · split
      · exact ⟨fun w e => by cases e; decide, nofun, nofun, nofun⟩
      · split
        · exact ⟨fun w e => by cases e; decide, nofun, nofun, nofun⟩
        · exact ⟨nofun, nofun, nofun, nofun⟩
  · exact ⟨nofun, nofun, nofun, nofun⟩
theorem cutF_cls {on : List Int} {ms : List (Option Int)} {h o : Int} : (∀ w, cutF on ms h o = .harm w → w ∈ harmW) ∧ cutF on ms h o ≠ .rim := by
  unfold cutF
  split
  · split
    · split <;> exact ⟨nofun, nofun⟩
    · exact ⟨nofun, nofun⟩
  · exact ⟨nofun, nofun⟩
theorem patch_w {word w : Str} {on : List Int} {ms : List (Option Int)} {a b : Int} (e : patchD word on ms a b = .harm w) : w ∈ harmW := by
  unfold patchD at e
  split at e
  · exact cutF_cls.1 w e
  split at e
  · exact joinF_cls.1 w e
  split at e
  · exact turnG_cls.1 w e
  · exact turnG_cls.1 w e
theorem patch_nr {word : Str} {on : List Int} {ms : List (Option Int)} {a b : Int} : patchD word on ms a b ≠ .rim := by
  unfold patchD
  split
  · exact cutF_cls.2
  split
  · exact joinF_cls.2.1
  split
  · exact turnG_cls.2.1
  · exact turnG_cls.2.1
noncomputable def deedD (word : Str) (on : List Int) (ms : List (Option Int)) (nums : List Int) : Deed := match nums with | [a] => patchD word on ms a a | [a, b] => patchD word on ms a b | _ => .no
def spDue : Sp := fun vs H Q _ => ∃ (p pdd : Addr) (on : List Int) (ms : List (Option Int)) (word : Str) (nums : List Int), vs = [.ref p, .ref pdd] ∧ SkAt H p on ms ∧ H pdd = some (.tup (.str word :: nums.map V.int)) ∧ DeedOk word nums ∧ word ∈ (["cut", "join", "turn", "unturn"] : List Str) ∧
  ∀ v H', Same H H' → DueV H' (deedD word on ms nums) v → Q v H'
theorem dis_patch {word : Str} (h : word ∈ (["cut", "join", "turn", "unturn"] : List Str)) : word = "cut" ∨ word = "join" ∨ word = "turn" ∨ word = "unturn" := by
  have h : word = "cut" ∨ word = "join" ∨ word = "turn" ∨ word = "unturn" := by simpa using h
  exact h
theorem deed_patch1 {word : Str} {on : List Int} {ms : List (Option Int)} {a : Int} (h : word ∈ (["cut", "join", "turn", "unturn"] : List Str)) : deedD word on ms [a] = patchD word on ms a a := rfl
theorem deed_patch2 {word : Str} {on : List Int} {ms : List (Option Int)} {a b : Int} (h : word ∈ (["cut", "join", "turn", "unturn"] : List Str)) : deedD word on ms [a, b] = patchD word on ms a b := rfl
theorem deed_no1 {word : Str} {on : List Int} {ms : List (Option Int)} {a : Int} (h : word ∈ (["cut", "join", "turn", "unturn"] : List Str)) (tw : two_ word = false) (ng : ¬ InR on.length a) : deedD word on ms [a] = .no := patch_no (fun z => by rw [z] at tw; cases tw) ng
theorem deed_no2 {word : Str} {on : List Int} {ms : List (Option Int)} {a b : Int} (h : word ∈ (["cut", "join", "turn", "unturn"] : List Str)) (tw : two_ word = true) (ng : ¬ InR on.length a ∨ ¬ InR on.length b) : deedD word on ms [a, b] = .no := by
  have : word = "cut" := (show ∀ y ∈ (["cut", "join", "turn", "unturn"] : List Str), two_ y = true → y = "cut" by decide) word h tw
  subst this
  exact patch_no2 ng
theorem scDue : FnScope ["skin", "deed", "half", "word", "due"] ["skin", "deed"] (defScope s__law_due) := ⟨rfl, rfl, rfl, by decide +kernel, rfl, by decide +kernel, by decide +kernel⟩
theorem ok_due (B : Bi mg) (F_patch : Fn P w K mg base "_law_patch_due" ["skin", "word", "half", "other"] 6 spPatchDue)
    (F : Fun K "_law_due" "_law_due" s__law_due f fd) : FnOk P w K mg base CX0 7 f fd ["skin", "deed"] spDue := by
  refine F.ok scDue (fun vs H Q E h => ?_) (fun cdv A outer s H vs Q E hr h => ?_)
  · obtain ⟨p, pdd, on, ms, word, nums, rfl, _⟩ := h; rfl
  obtain ⟨p, pdd, on, ms, word, nums, rfl, SA, hdd, dok, hwd, q⟩ := h
  obtain ⟨sk, po, pm, h1, h2, h3⟩ := id SA
  have hl : (on.map V.int).length = on.length := List.length_map _
  refine ⟨_, (pss_cons (ps_for PassesOwn.never rfl (pi_tup (pe_slice sl_tup (pv 1) (po_some pe_int) po_none)) (pg_name (i := 2) scDue.nd rfl (Or.inl rfl))
   (pss_one (ps_if (pt_not (pt_chain op_le op_lt pe_int (pv 2) (pe_callB call_len_seq rfl B.len_ bt_len (pa_cons (pe_ix ix_tup (pv 0) pe_int (fun _ _ => rfl)) pa_nil))))
   (pss_one (ps_ret pe_str))
   pss_nil)))
   (pss_cons (ps_set (i := 3) scDue.nd rfl (Or.inl rfl) (pe_ix ix_tup (pv 1) pe_int (fun _ _ => rfl)))
   (pss_cons (ps_if (pt_cmpR op_in_seq (pv 3) (pe_lst (pa_cons pe_str (pa_cons pe_str (pa_cons pe_str (pa_cons pe_str pa_nil))))) rfl)
   (pss_one ps_never)
   (pss_one (ps_if (pt_cmpR op_in_seq (pv 3) (pe_lst (pa_cons pe_str (pa_cons pe_str (pa_cons pe_str (pa_cons pe_str pa_nil))))) rfl)
   (pss_one (ps_set (i := 4) scDue.nd rfl (Or.inl rfl) (pe_callF F_patch hr (by decide) (pa_cons (pv 0) (pa_cons (pv 3) (pa_cons (pe_ix ix_tup (pv 1) pe_int (fun _ _ => rfl)) (pa_cons (pe_ix ix_tup (pv 1) (pe_un un_neg pe_int) (fun _ _ => rfl)) pa_nil)))))))
   (pss_one (ps_if (pt_cmpR op_in_seq (pv 3) (pe_lst (pa_cons pe_str (pa_cons pe_str (pa_cons pe_str pa_nil)))) rfl)
   (pss_one ps_never)
   (pss_one ps_never))))))
   (pss_cons (ps_if (PW.pt (pw_and (pt_val (pe_callB call_isi_tup rfl B.isinstance_ bt_isinstance (pa_cons (pv 4) (pa_cons (pe_ty rfl B.tuple_ bt_tuple) pa_nil)))) (pw_and1 (pt_cmpR op_gt (pe_callB call_len_seq rfl B.len_ bt_len (pa_cons (pe_ix ix_tup (pv 4) pe_int (fun _ _ => rfl)) pa_nil)) pe_int (nomark _)))))
   (pss_one (ps_ret pe_str))
   pss_nil)
   (pss_one (ps_ret (pv 4))))))), ?_⟩
  have dok2 := dok.2
  cases tw : two_ word with
  | false =>
    rw [tw, if_neg (by decide)] at dok2
    obtain ⟨half, rfl⟩ := dok2
    refine ⟨_, rfl, 1, rfl, pdd, _, rfl, SqT.of hdd, by show ¬ ((1 : Nat) = 0 ∧ _); omega, fun ps hps => ?_⟩
    have s1 := same_put hps (.tup [V.int half])
    have e1 := upd_same (H := H) (a := ps) (o := .tup [V.int half])
    replace e1 : upd H ps (.tup (cutV (.str word :: [half].map V.int) (some 1) none)) ps = some (.tup [V.int half]) := e1
    replace s1 : Same H (upd H ps (.tup (cutV (.str word :: [half].map V.int) (some 1) none))) := s1
    generalize upd H ps (.tup (cutV (.str word :: [half].map V.int) (some 1) none)) = H1 at s1 e1 ⊢
    have no : (¬ InR on.length half) → Q (.str "NoHalf+") H1 := fun ng => q _ _ s1 (by rw [deed_no1 hwd tw ng]; rfl)
    refine ⟨ps, rfl, ⟨_, SqT.of e1⟩, for_tup (K := K) (a := ps) (xs := [V.int half]) (fun i σ H' => ∃ v3 : Option V, σ = [some (.ref p), some (.ref pdd), v3, none, none] ∧ H' = H1 ∧ (i = 0 ∨ InR on.length half))
      ⟨_, rfl, rfl, .inl rfl⟩ (fun i σ H' _ ⟨_, _, z, _⟩ => by rw [z]; exact SqT.of e1) ?_ ?_⟩
    · rintro i x σ H' hx ⟨v3, rfl, rfl, hI⟩
      obtain rfl : x = .int half := by
        have : i = 0 := by have := (List.getElem?_eq_some_iff.mp hx).1; simpa using this
        subst this
        exact (Option.some.inj hx).symm
      refine ⟨_, rfl, _, _, rfl, rfl, _, rfl, ite2 (fun c1 => ?_) (fun c1 => ?_)⟩
      · refine ⟨_, rfl, p, _, _, .ref po, rfl, rfl, SqT.of (s1 _ _ h1), at0 _ _, po, _, rfl, .inr (SqT.of (s1 _ _ h2)), _, _, rfl, rfl, _, rfl, ite2 (fun c2 => ?_) (fun c2 => ?_)⟩
        · exact no ((by simp at c1 c2; omega))
        · exact ⟨_, rfl, rfl, .inr (by simp at c1 c2; omega)⟩
      · refine ⟨_, rfl, ite2 (fun c2 => ?_) (fun c2 => absurd c2 (by decide))⟩
        exact no ((by simp at c1; omega))
    rintro σ H' ⟨v3, rfl, rfl, hI⟩
    have g : InR on.length half := by
      rcases hI with z | z
      · cases z
      · exact z
    refine ⟨_, rfl, pdd, _, _, _, rfl, rfl, SqT.of (s1 _ _ hdd), at0 _ _, ?_⟩
    refine ⟨_, rfl, (by show 4 ≤ sizeLine; decide), fun l0 hl0 => ?_⟩
    refine ⟨l0, _, rfl, .inl (SqL.of upd_same), rfl, rfl, _, rfl, ?_⟩
    rw [show [V.str "split", V.str "merge", V.str "fold", V.str "puff"] = (["split", "merge", "fold", "puff"] : List Str).map V.str from rfl, in_strs]
    refine itN (decide_eq_false (fun z => absurd (show word ∈ (["split", "merge", "fold", "puff"] : List Str) from z) (fun z => by (have : ∀ y ∈ (["cut", "join", "turn", "unturn"] : List Str), two_ y = false → y ∉ (["split", "merge", "fold", "puff"] : List Str) := by decide); exact this word hwd tw z))) ?_
    have s0_ := s1.trans (same_put hl0 (.lst (List.map V.str (["split", "merge", "fold", "puff"] : List Str))))
    generalize upd H' l0 (.lst (List.map V.str (["split", "merge", "fold", "puff"] : List Str))) = HH0 at s0_ ⊢
    refine ⟨_, rfl, (by show 4 ≤ sizeLine; decide), fun l1 hl1 => ?_⟩
    refine ⟨l1, _, rfl, .inl (SqL.of upd_same), rfl, rfl, _, rfl, ?_⟩
    rw [show [V.str "cut", V.str "join", V.str "turn", V.str "unturn"] = (["cut", "join", "turn", "unturn"] : List Str).map V.str from rfl, in_strs]
    have hG : word ∈ (["cut", "join", "turn", "unturn"] : List Str) := by
      have : ∀ y ∈ (["cut", "join", "turn", "unturn"] : List Str), two_ y = false → y ∈ (["cut", "join", "turn", "unturn"] : List Str) := by decide
      exact this word hwd tw
    refine itP (decide_eq_true hG) ?_
    have s1_ := s0_.trans (same_put hl1 (.lst (List.map V.str (["cut", "join", "turn", "unturn"] : List Str))))
    generalize upd HH0 l1 (.lst (List.map V.str (["cut", "join", "turn", "unturn"] : List Str))) = HH1 at s1_ ⊢
    refine ⟨_, rfl, _, rfl, _, rfl, pdd, _, _, _, rfl, rfl, SqT.of (s1_ _ _ hdd), at1 _ _ _, _, rfl, _, rfl, pdd, _, _, .int half, rfl, rfl, SqT.of (s1_ _ _ hdd), rfl, p, on, ms, word, half, half, rfl, SA.same s1_, g, g, ?_, fun v H3 s3 d3 => ?_⟩
    · exact dis_patch hG
    rw [← (show deedD word on ms [half] = patchD word on ms half half from deed_patch1 hG)] at d3
    have s13 := s1_.trans s3
    cases hD : deedD word on ms [half] with
    | skin on' ms' =>
      rw [hD] at d3 q
      obtain ⟨r, rfl, S'⟩ := d3
      obtain ⟨ok', po', pm', k1, k2, k3⟩ := id S'
      refine ⟨_, rfl, _, .tup, rfl, .inl ⟨rfl, _, SqT.of k1⟩, _, rfl, itP rfl ?_⟩
      refine ⟨_, rfl, r, _, _, .ref po', rfl, rfl, SqT.of k1, at0 _ _, po', _, rfl, .inr (SqT.of k2), _, _, rfl, rfl, _, rfl, itN ?_ ?_⟩
      · have := ok'.le
        refine decide_eq_false ?_
        rw [List.length_map]; omega
      · exact ⟨_, rfl, q _ _ s13 ⟨r, rfl, S'⟩⟩
    | many =>
      rw [hD] at d3 q
      obtain ⟨r, ro, rm, xs, rfl, k1, k2, k3⟩ := d3
      refine ⟨_, rfl, _, .tup, rfl, .inl ⟨rfl, _, SqT.of k1⟩, _, rfl, itP rfl ?_⟩
      refine ⟨_, rfl, r, _, _, .ref ro, rfl, rfl, SqT.of k1, at0 _ _, ro, _, rfl, .inr (SqT.of k2), _, _, rfl, rfl, _, rfl, itP ?_ ?_⟩
      · exact decide_eq_true (by omega)
      · exact q _ _ s13 rfl
    | no => rw [hD] at d3; exact d3.elim
    | rim =>
      rw [hD] at d3 q
      have e : v = .str (Deed.text .rim) := d3
      subst e
      exact ⟨_, rfl, _, .str, rfl, rfl, _, rfl, itN rfl (itN rfl ⟨_, rfl, q _ _ s13 rfl⟩)⟩
    | unlike =>
      rw [hD] at d3 q
      have e : v = .str (Deed.text .unlike) := d3
      subst e
      exact ⟨_, rfl, _, .str, rfl, rfl, _, rfl, itN rfl (itN rfl ⟨_, rfl, q _ _ s13 rfl⟩)⟩
    | harm w' =>
      rw [hD] at d3 q
      have e : v = .str (Deed.text (.harm w')) := d3
      subst e
      exact ⟨_, rfl, _, .str, rfl, rfl, _, rfl, itN rfl (itN rfl ⟨_, rfl, q _ _ s13 rfl⟩)⟩
  | true =>
    rw [tw, if_pos rfl] at dok2
    obtain ⟨half, other, rfl⟩ := dok2
    refine ⟨_, rfl, 1, rfl, pdd, _, rfl, SqT.of hdd, by show ¬ ((1 : Nat) = 0 ∧ _); omega, fun ps hps => ?_⟩
    have s1 := same_put hps (.tup [V.int half, V.int other])
    have e1 := upd_same (H := H) (a := ps) (o := .tup [V.int half, V.int other])
    replace e1 : upd H ps (.tup (cutV (.str word :: [half, other].map V.int) (some 1) none)) ps = some (.tup [V.int half, V.int other]) := e1
    replace s1 : Same H (upd H ps (.tup (cutV (.str word :: [half, other].map V.int) (some 1) none))) := s1
    generalize upd H ps (.tup (cutV (.str word :: [half, other].map V.int) (some 1) none)) = H1 at s1 e1 ⊢
    have no : (¬ InR on.length half ∨ ¬ InR on.length other) → Q (.str "NoHalf+") H1 := fun ng => q _ _ s1 (by rw [deed_no2 hwd tw ng]; rfl)
    refine ⟨ps, rfl, ⟨_, SqT.of e1⟩, for_tup (K := K) (a := ps) (xs := [V.int half, V.int other]) (fun i σ H' => ∃ v3 : Option V, σ = [some (.ref p), some (.ref pdd), v3, none, none] ∧ H' = H1 ∧ ((i = 0 ∨ InR on.length half) ∧ (i ≤ 1 ∨ InR on.length other)))
      ⟨_, rfl, rfl, ⟨.inl rfl, .inl (by decide)⟩⟩ (fun i σ H' _ ⟨_, _, z, _⟩ => by rw [z]; exact SqT.of e1) ?_ ?_⟩
    · rintro i x σ H' hx ⟨v3, rfl, rfl, hI⟩
      have hi : (i = 0 ∧ x = .int half) ∨ (i = 1 ∧ x = .int other) := by
        match i, hx with
        | 0, hx => exact .inl ⟨rfl, (Option.some.inj hx).symm⟩
        | 1, hx => exact .inr ⟨rfl, (Option.some.inj hx).symm⟩
      rcases hi with ⟨rfl, rfl⟩ | ⟨rfl, rfl⟩
      · refine ⟨_, rfl, _, _, rfl, rfl, _, rfl, ite2 (fun c1 => ?_) (fun c1 => ?_)⟩
        · refine ⟨_, rfl, p, _, _, .ref po, rfl, rfl, SqT.of (s1 _ _ h1), at0 _ _, po, _, rfl, .inr (SqT.of (s1 _ _ h2)), _, _, rfl, rfl, _, rfl, ite2 (fun c2 => ?_) (fun c2 => ?_)⟩
          · exact no (.inl (by simp at c1 c2; omega))
          · exact ⟨_, rfl, rfl, ⟨.inr (by simp at c1 c2; omega), .inl (Nat.le_refl _)⟩⟩
        · refine ⟨_, rfl, ite2 (fun c2 => ?_) (fun c2 => absurd c2 (by decide))⟩
          exact no (.inl (by simp at c1; omega))
      · refine ⟨_, rfl, _, _, rfl, rfl, _, rfl, ite2 (fun c1 => ?_) (fun c1 => ?_)⟩
        · refine ⟨_, rfl, p, _, _, .ref po, rfl, rfl, SqT.of (s1 _ _ h1), at0 _ _, po, _, rfl, .inr (SqT.of (s1 _ _ h2)), _, _, rfl, rfl, _, rfl, ite2 (fun c2 => ?_) (fun c2 => ?_)⟩
          · exact no (.inr (by simp at c1 c2; omega))
          · exact ⟨_, rfl, rfl, ⟨hI.1.elim (fun z => by cases z) .inr, .inr (by simp at c1 c2; omega)⟩⟩
        · refine ⟨_, rfl, ite2 (fun c2 => ?_) (fun c2 => absurd c2 (by decide))⟩
          exact no (.inr (by simp at c1; omega))
    rintro σ H' ⟨v3, rfl, rfl, hI⟩
    have g : InR on.length half := by
      rcases hI.1 with z | z
      · cases z
      · exact z
    have go : InR on.length other := by
      rcases hI.2 with z | z
      · exact absurd z (by show ¬ ((2 : Nat) ≤ 1); decide)
      · exact z
    refine ⟨_, rfl, pdd, _, _, _, rfl, rfl, SqT.of (s1 _ _ hdd), at0 _ _, ?_⟩
    refine ⟨_, rfl, (by show 4 ≤ sizeLine; decide), fun l0 hl0 => ?_⟩
    refine ⟨l0, _, rfl, .inl (SqL.of upd_same), rfl, rfl, _, rfl, ?_⟩
    rw [show [V.str "split", V.str "merge", V.str "fold", V.str "puff"] = (["split", "merge", "fold", "puff"] : List Str).map V.str from rfl, in_strs]
    refine itN (decide_eq_false (fun z => absurd (show word ∈ (["split", "merge", "fold", "puff"] : List Str) from z) (fun z => by (have : ∀ y ∈ (["cut", "join", "turn", "unturn"] : List Str), two_ y = true → y ∉ (["split", "merge", "fold", "puff"] : List Str) := by decide); exact this word hwd tw z))) ?_
    have s0_ := s1.trans (same_put hl0 (.lst (List.map V.str (["split", "merge", "fold", "puff"] : List Str))))
    generalize upd H' l0 (.lst (List.map V.str (["split", "merge", "fold", "puff"] : List Str))) = HH0 at s0_ ⊢
    refine ⟨_, rfl, (by show 4 ≤ sizeLine; decide), fun l1 hl1 => ?_⟩
    refine ⟨l1, _, rfl, .inl (SqL.of upd_same), rfl, rfl, _, rfl, ?_⟩
    rw [show [V.str "cut", V.str "join", V.str "turn", V.str "unturn"] = (["cut", "join", "turn", "unturn"] : List Str).map V.str from rfl, in_strs]
    have hG : word ∈ (["cut", "join", "turn", "unturn"] : List Str) := by
      have : ∀ y ∈ (["cut", "join", "turn", "unturn"] : List Str), two_ y = true → y ∈ (["cut", "join", "turn", "unturn"] : List Str) := by decide
      exact this word hwd tw
    refine itP (decide_eq_true hG) ?_
    have s1_ := s0_.trans (same_put hl1 (.lst (List.map V.str (["cut", "join", "turn", "unturn"] : List Str))))
    generalize upd HH0 l1 (.lst (List.map V.str (["cut", "join", "turn", "unturn"] : List Str))) = HH1 at s1_ ⊢
    refine ⟨_, rfl, _, rfl, _, rfl, pdd, _, _, _, rfl, rfl, SqT.of (s1_ _ _ hdd), at1 _ _ _, _, rfl, _, rfl, pdd, _, _, .int other, rfl, rfl, SqT.of (s1_ _ _ hdd), rfl, p, on, ms, word, half, other, rfl, SA.same s1_, g, go, ?_, fun v H3 s3 d3 => ?_⟩
    · exact dis_patch hG
    rw [← (show deedD word on ms [half, other] = patchD word on ms half other from deed_patch2 hG)] at d3
    have s13 := s1_.trans s3
    cases hD : deedD word on ms [half, other] with
    | skin on' ms' =>
      rw [hD] at d3 q
      obtain ⟨r, rfl, S'⟩ := d3
      obtain ⟨ok', po', pm', k1, k2, k3⟩ := id S'
      refine ⟨_, rfl, _, .tup, rfl, .inl ⟨rfl, _, SqT.of k1⟩, _, rfl, itP rfl ?_⟩
      refine ⟨_, rfl, r, _, _, .ref po', rfl, rfl, SqT.of k1, at0 _ _, po', _, rfl, .inr (SqT.of k2), _, _, rfl, rfl, _, rfl, itN ?_ ?_⟩
      · have := ok'.le
        refine decide_eq_false ?_
        rw [List.length_map]; omega
      · exact ⟨_, rfl, q _ _ s13 ⟨r, rfl, S'⟩⟩
    | many =>
      rw [hD] at d3 q
      obtain ⟨r, ro, rm, xs, rfl, k1, k2, k3⟩ := d3
      refine ⟨_, rfl, _, .tup, rfl, .inl ⟨rfl, _, SqT.of k1⟩, _, rfl, itP rfl ?_⟩
      refine ⟨_, rfl, r, _, _, .ref ro, rfl, rfl, SqT.of k1, at0 _ _, ro, _, rfl, .inr (SqT.of k2), _, _, rfl, rfl, _, rfl, itP ?_ ?_⟩
      · exact decide_eq_true (by omega)
      · exact q _ _ s13 rfl
    | no => rw [hD] at d3; exact d3.elim
    | rim =>
      rw [hD] at d3 q
      have e : v = .str (Deed.text .rim) := d3
      subst e
      exact ⟨_, rfl, _, .str, rfl, rfl, _, rfl, itN rfl (itN rfl ⟨_, rfl, q _ _ s13 rfl⟩)⟩
    | unlike =>
      rw [hD] at d3 q
      have e : v = .str (Deed.text .unlike) := d3
      subst e
      exact ⟨_, rfl, _, .str, rfl, rfl, _, rfl, itN rfl (itN rfl ⟨_, rfl, q _ _ s13 rfl⟩)⟩
    | harm w' =>
      rw [hD] at d3 q
      have e : v = .str (Deed.text (.harm w')) := d3
      subst e
      exact ⟨_, rfl, _, .str, rfl, rfl, _, rfl, itN rfl (itN rfl ⟨_, rfl, q _ _ s13 rfl⟩)⟩
end
end Hs
set_option Elab.async false
set_option linter.all false
set_option maxRecDepth 100000
set_option maxHeartbeats 4000000
namespace Hs
open PySem L2
section
variable {P : Program} {w : World} {K : PySem.W.Frag} {mg : Str → Option Value} {base : Heap} {f : Addr} {fd : FuncData} {C : CsA} {S fH cS : Addr} {D : Nat → Addr} {tM : Tok}
theorem deed_w {word w : Str} {on : List Int} {ms : List (Option Int)} {nums : List Int} (e : deedD word on ms nums = .harm w) : w ∈ harmW := by
  unfold deedD at e
  split at e
  · exact patch_w e
  · exact patch_w e
  · cases e
theorem deed_nr {word : Str} {on : List Int} {ms : List (Option Int)} {nums : List Int} (e : deedD word on ms nums = .rim) : ¬ deedD word on ms nums = .rim := by
  unfold deedD at e
  split at e
  · exact absurd e patch_nr
  · exact absurd e patch_nr
  · cases e
theorem scAsked : FnScope ["skin", "deed", "found", "kind", "e"] ["skin", "deed"] (defScope s__law_asked) := ⟨rfl, rfl, rfl, by decide +kernel, rfl, by decide +kernel, by decide +kernel⟩
theorem ok_asked (B : Bi mg) (IH : InitE P K C.cH S fH "word" "word" (initPts i_Harm) (initTp i_Harm)) (hH : mg "Harm" = some (.ref C.cH)) (hS : mg "SkinError" = some (.ref cS)) (hdH : PySem.W.hasDictIn K C.cH = true) (ZH : KindOf K D C.cH kHarm) (xHH : PySem.W.exmOne K (.ref C.cH) (.ref C.cH) = some true) (Z_cN : KindOf K D C.cN kNoHalf) (x_cNH : PySem.W.exmOne K (.ref C.cN) (.ref C.cH) = some false) (x_cNS : PySem.W.exmOne K (.ref C.cN) (.ref cS) = some true) (Z_cT : KindOf K D C.cT kMany) (x_cTH : PySem.W.exmOne K (.ref C.cT) (.ref C.cH) = some false) (x_cTS : PySem.W.exmOne K (.ref C.cT) (.ref cS) = some true) (Z_cU : KindOf K D C.cU kUnlike) (x_cUH : PySem.W.exmOne K (.ref C.cU) (.ref C.cH) = some false) (x_cUS : PySem.W.exmOne K (.ref C.cU) (.ref cS) = some true) (FK : FnH P w K mg base "_law_kinds" 1 (spKinds K D))
    (G_cut : FnX P w K mg base "cut" ["skin", "half", "other"] 3 (spDeed2 C cutF)) (G_join : FnX P w K mg base "joined" ["skin", "half"] 4 (spDeed C joinF)) (G_turn : FnX P w K mg base "turned" ["skin", "half"] 5 (spDeed C (turnG true))) (G_unturn : FnX P w K mg base "unturned" ["skin", "half"] 5 (spDeed C (turnG false)))
    (F : Fun K "_law_asked" "_law_asked" s__law_asked f fd) : FnOk P w K mg base CX0 6 f fd ["skin", "deed"] spDue := by
  refine F.ok scAsked (fun vs H Q E h => ?_) (fun cdv A outer s H vs Q E hr h => ?_)
  · obtain ⟨p, pdd, on, ms, word, nums, rfl, _⟩ := h; rfl
  obtain ⟨p, pdd, on, ms, word, nums, rfl, SA, hdd, dok, hwd, q⟩ := h
  let EA : L2.St → XK := fun σ cls od H' => σ = [some (.ref p), some (.ref pdd), some .non, some (.str ""), none] ∧ EF C (deedD word on ms nums) H cls od H'
  refine ⟨_, (pss_cons (ps_set (i := 2) scAsked.nd rfl (Or.inl rfl) pe_non)
   (pss_cons (ps_set (i := 3) scAsked.nd rfl (Or.inl rfl) pe_str)
   (pss_cons (ps_try2 (E := EA) (i := 4) rfl rfl rfl scAsked.nd rfl rfl hH hS (fun pn xe G => (pss_one (ps_if (pt_cmpR op_eq (pe_ix (ix_tupK (K := K) rfl) (pv 1) pe_int (fun _ _ => rfl)) pe_str (nomark _))
   (pss_one (ps_set (i := 2) scAsked.nd rfl (Or.inl rfl) (pe_callX G_cut hr (by decide) G (pa_cons (pv 0) (pa_cons (pe_ix (ix_tupK (K := K) rfl) (pv 1) pe_int (fun _ _ => rfl)) (pa_cons (pe_ix (ix_tupK (K := K) rfl) (pv 1) pe_int (fun _ _ => rfl)) pa_nil))))))
   (pss_one (ps_if (pt_cmpR op_eq (pe_ix (ix_tupK (K := K) rfl) (pv 1) pe_int (fun _ _ => rfl)) pe_str (nomark _))
   (pss_one (ps_set (i := 2) scAsked.nd rfl (Or.inl rfl) (pe_callX G_join hr (by decide) G (pa_cons (pv 0) (pa_cons (pe_ix (ix_tupK (K := K) rfl) (pv 1) pe_int (fun _ _ => rfl)) pa_nil)))))
   (pss_one (ps_if (pt_cmpR op_eq (pe_ix (ix_tupK (K := K) rfl) (pv 1) pe_int (fun _ _ => rfl)) pe_str (nomark _))
   (pss_one (ps_set (i := 2) scAsked.nd rfl (Or.inl rfl) (pe_callX G_turn hr (by decide) G (pa_cons (pv 0) (pa_cons (pe_ix (ix_tupK (K := K) rfl) (pv 1) pe_int (fun _ _ => rfl)) pa_nil)))))
   (pss_one (ps_set (i := 2) scAsked.nd rfl (Or.inl rfl) (pe_callX G_unturn hr (by decide) G (pa_cons (pv 0) (pa_cons (pe_ix (ix_tupK (K := K) rfl) (pv 1) pe_int (fun _ _ => rfl)) pa_nil)))))))))))) (fun e oe => pss_pre fun (rc : Rec oe (.ref C.cH) (some (oe.dict.getD 0))) => (pss_one (ps_set (i := 3) scAsked.nd rfl (Or.inl rfl) (pe_op op_add_str (pe_callH FK (room_calm hr) (by decide) (.inr rfl) (List.mem_append_right _ (List.mem_singleton.mpr rfl)) (rec_f rc) (pa_cons (pv 4) pa_nil)) (pe_hfld (List.mem_append_right _ (List.mem_singleton.mpr rfl)) rc ZH.get hdH IH.nof (pv 4) rfl))))) (fun e oe => pss_pre fun (rc : ∃ vs, oe.data = .fields vs) => (pss_one (ps_set (i := 3) scAsked.nd rfl (Or.inl rfl) (pe_callH FK (room_calm hr) (by decide) (.inr rfl) (List.mem_append_right _ (List.mem_singleton.mpr rfl)) rc (pa_cons (pv 4) pa_nil))))))
   (pss_one (ps_ret (pe_ifExp (pt_cmpR op_eq (pv 3) pe_str (nomark _)) (pv 2) (pv 3))))))), ?_⟩
  refine ⟨?_, ?_⟩
  · have hw : word = "cut" ∨ word = "join" ∨ word = "turn" ∨ word = "unturn" := by simpa using hwd
    rcases hw with rfl | rfl | rfl | rfl
    ·
      obtain ⟨half, other, rfl⟩ : ∃ a b, nums = [a, b] := by
        have z := dok.2
        rw [show two_ "cut" = true by decide, if_pos rfl] at z
        exact z
      have eD : deedD "cut" on ms [half, other] = cutF on ms half other := by show patchD "cut" on ms half other = _; unfold patchD; rw [if_pos rfl]
      refine ⟨_, rfl, pdd, _, _, _, rfl, rfl, SqT.of hdd, at0 _ _, rfl, _, rfl, itP (by decide) ?_⟩
      refine ⟨_, rfl, _, rfl, pdd, _, _, _, rfl, rfl, SqT.of hdd, at1 _ _ _, _, rfl, pdd, _, _, _, rfl, rfl, SqT.of hdd, at2 _ _ _ _, p, on, ms, half, other, rfl, SA, small_log (dok.1 half (by simp)), small_log (dok.1 other (by simp)), fun on' ms' e r H' s' S' => ?_, fun c od H' e => ⟨rfl, by rw [eD]; exact e⟩⟩
      exact ⟨_, rfl, rfl, _, rfl, itP rfl ⟨_, rfl, q _ _ s' (by rw [eD, e]; exact ⟨r, rfl, S'⟩)⟩⟩
    ·
      obtain ⟨half, rfl⟩ : ∃ a, nums = [a] := by
        have z := dok.2
        rw [show two_ "join" = false by decide, if_neg (by decide)] at z
        exact z
      have eD : deedD "join" on ms [half] = joinF on ms half := by show patchD "join" on ms half half = _; unfold patchD; rw [if_neg (by decide), if_pos rfl]
      refine ⟨_, rfl, pdd, _, _, _, rfl, rfl, SqT.of hdd, at0 _ _, rfl, _, rfl, itN (by decide) ?_⟩
      refine ⟨_, rfl, pdd, _, _, _, rfl, rfl, SqT.of hdd, at0 _ _, rfl, _, rfl, itP (by decide) ?_⟩
      refine ⟨_, rfl, _, rfl, pdd, _, _, _, rfl, rfl, SqT.of hdd, at1 _ _ _, p, on, ms, half, rfl, SA, small_log (dok.1 half (by simp)), fun on' ms' e r H' s' S' => ?_, fun c od H' e => ⟨rfl, by rw [eD]; exact e⟩⟩
      exact ⟨_, rfl, rfl, _, rfl, itP rfl ⟨_, rfl, q _ _ s' (by rw [eD, e]; exact ⟨r, rfl, S'⟩)⟩⟩
    ·
      obtain ⟨half, rfl⟩ : ∃ a, nums = [a] := by
        have z := dok.2
        rw [show two_ "turn" = false by decide, if_neg (by decide)] at z
        exact z
      have eD : deedD "turn" on ms [half] = (turnG true) on ms half := by show patchD "turn" on ms half half = _; unfold patchD; rw [if_neg (by decide), if_neg (by decide), if_pos rfl]
      refine ⟨_, rfl, pdd, _, _, _, rfl, rfl, SqT.of hdd, at0 _ _, rfl, _, rfl, itN (by decide) ?_⟩
      refine ⟨_, rfl, pdd, _, _, _, rfl, rfl, SqT.of hdd, at0 _ _, rfl, _, rfl, itN (by decide) ?_⟩
      refine ⟨_, rfl, pdd, _, _, _, rfl, rfl, SqT.of hdd, at0 _ _, rfl, _, rfl, itP (by decide) ?_⟩
      refine ⟨_, rfl, _, rfl, pdd, _, _, _, rfl, rfl, SqT.of hdd, at1 _ _ _, p, on, ms, half, rfl, SA, small_log (dok.1 half (by simp)), fun on' ms' e r H' s' S' => ?_, fun c od H' e => ⟨rfl, by rw [eD]; exact e⟩⟩
      exact ⟨_, rfl, rfl, _, rfl, itP rfl ⟨_, rfl, q _ _ s' (by rw [eD, e]; exact ⟨r, rfl, S'⟩)⟩⟩
    ·
      obtain ⟨half, rfl⟩ : ∃ a, nums = [a] := by
        have z := dok.2
        rw [show two_ "unturn" = false by decide, if_neg (by decide)] at z
        exact z
      have eD : deedD "unturn" on ms [half] = (turnG false) on ms half := by show patchD "unturn" on ms half half = _; unfold patchD; rw [if_neg (by decide), if_neg (by decide), if_neg (by decide)]
      refine ⟨_, rfl, pdd, _, _, _, rfl, rfl, SqT.of hdd, at0 _ _, rfl, _, rfl, itN (by decide) ?_⟩
      refine ⟨_, rfl, pdd, _, _, _, rfl, rfl, SqT.of hdd, at0 _ _, rfl, _, rfl, itN (by decide) ?_⟩
      refine ⟨_, rfl, pdd, _, _, _, rfl, rfl, SqT.of hdd, at0 _ _, rfl, _, rfl, itN (by decide) ?_⟩
      refine ⟨_, rfl, _, rfl, pdd, _, _, _, rfl, rfl, SqT.of hdd, at1 _ _ _, p, on, ms, half, rfl, SA, small_log (dok.1 half (by simp)), fun on' ms' e r H' s' S' => ?_, fun c od H' e => ⟨rfl, by rw [eD]; exact e⟩⟩
      exact ⟨_, rfl, rfl, _, rfl, itP rfl ⟨_, rfl, q _ _ s' (by rw [eD, e]; exact ⟨r, rfl, S'⟩)⟩⟩
  · rintro σ' cls od H' ⟨rfl, s1, hE⟩
    cases hD : deedD word on ms nums with
    | skin on' ms' => rw [hD] at hE; exact hE.elim
    | no =>
      rw [hD] at hE
      obtain ⟨rfl, rfl⟩ := hE
      refine .inr ⟨x_cNH, x_cNS, fun e1 oe he rc => ⟨rec_f rc, ?_⟩⟩
      refine ⟨_, rfl, rfl, C.cN, kNoHalf, none, rc, .inl rfl, Z_cN, fun H2 s2 => ?_⟩
      rw [kText_kNoHalf]
      exact ⟨_, rfl, rfl, _, rfl, itN (by decide) ⟨_, rfl, q _ _ (s1.trans s2) (by rw [hD]; rfl)⟩⟩
    | many =>
      rw [hD] at hE
      obtain ⟨rfl, rfl⟩ := hE
      refine .inr ⟨x_cTH, x_cTS, fun e1 oe he rc => ⟨rec_f rc, ?_⟩⟩
      refine ⟨_, rfl, rfl, C.cT, kMany, none, rc, .inl rfl, Z_cT, fun H2 s2 => ?_⟩
      rw [kText_kMany]
      exact ⟨_, rfl, rfl, _, rfl, itN (by decide) ⟨_, rfl, q _ _ (s1.trans s2) (by rw [hD]; rfl)⟩⟩
    | rim => exact absurd hD (deed_nr hD)
    | unlike =>
      rw [hD] at hE
      obtain ⟨rfl, rfl⟩ := hE
      refine .inr ⟨x_cUH, x_cUS, fun e1 oe he rc => ⟨rec_f rc, ?_⟩⟩
      refine ⟨_, rfl, rfl, C.cU, kUnlike, none, rc, .inl rfl, Z_cU, fun H2 s2 => ?_⟩
      rw [kText_kUnlike]
      exact ⟨_, rfl, rfl, _, rfl, itN (by decide) ⟨_, rfl, q _ _ (s1.trans s2) (by rw [hD]; rfl)⟩⟩
    | harm wd =>
      rw [hD] at hE
      obtain ⟨rfl, dx, rfl, hd⟩ := hE
      have hwm := deed_w hD
      refine .inl ⟨xHH, fun e1 oe he rc => ⟨?_, ?_⟩⟩
      · obtain ⟨vs, sl, rfl, h⟩ := rc
        exact ⟨vs, sl, rfl, h⟩
      have edx : oe.dict.getD 0 = dx := by obtain ⟨vs, sl, rfl, h⟩ := rc; rfl
      rw [edx]
      refine ⟨_, rfl, rfl, C.cH, kHarm, some dx, rc, .inr ⟨dx, _, rfl, hd⟩, ZH, fun H2 s2 => ?_⟩
      rw [kText_kHarm]
      have hw := harm_len wd hwm
      refine ⟨_, rfl, _, _, rfl, s2 _ _ hd, rfl, _, _, rfl, rfl, ?_, ?_⟩
      · have : (Str.ofString "Harm+").length = 5 := rfl
        rw [sizeLine_eq]; omega
      refine ⟨_, rfl, rfl, _, rfl, itN ?_ ⟨_, rfl, q _ _ (s1.trans s2) (by rw [hD]; rfl)⟩⟩
      refine decide_eq_false fun z => ?_
      have z := congrArg Str.length (V.str.inj z)
      rw [strLen_append] at z
      have h1 : (Str.ofString "Harm+").length = 5 := rfl
      have h2 : (Str.ofString "").length = 0 := rfl
      omega
end
end Hs
set_option Elab.async false
set_option linter.all false
set_option maxRecDepth 100000
set_option maxHeartbeats 4000000
namespace Hs
open PySem L2
section
variable {P : Program} {w : World} {K : PySem.W.Frag} {mg : Str → Option Value} {base : Heap} {f : Addr} {fd : FuncData} {C : CsA} {S fH : Addr} {tM : Tok}
def spLaw (K : PySem.W.Frag) : Sp := fun vs H Q _ => ∃ (a : Addr) (ns : List Int), vs = [.ref a] ∧ SqL K H a (ns.map V.int) ∧ ns.length ≤ 63 ∧ ∀ H', Q (.bl true) H'
structure BiX (mg : Str → Option Value) : Prop extends Bi mg where
  sorted_ : mg "sorted" = none
  dict_ : mg "dict" = none
theorem BiX.toD {mg : Str → Option Value} (B : BiX mg) : BiD mg := ⟨⟨B.toBi, B.sorted_⟩, B.dict_⟩
theorem scLaw : FnScope ["script", "k", "bag", "skin", "turn", "deed", "due"] ["script"] (defScope sLaw) := ⟨rfl, rfl, rfl, by decide +kernel, rfl, by decide +kernel, by decide +kernel⟩
theorem ok_law (B : Bi mg) (FT : Fn P w K mg base "_law_take" ["bag", "many"] 1 spTake) (FG : Fn P w K mg base "_law_bag" ["script", "k"] 1 (spBag K)) (FS : Fn P w K mg base "_law_skin" ["bag", "most"] 2 spSkin)
    (FDe : Fn P w K mg base "_law_deed" ["bag", "skin", "words"] 3 spLDeed) (FDu : Fn P w K mg base "_law_due" ["skin", "deed"] 7 spDue) (FAs : Fn P w K mg base "_law_asked" ["skin", "deed"] 6 spDue)
    (F : Fun K "law" "law" sLaw f fd) : FnOk P w K mg base CX0 8 f fd ["script"] (spLaw K) := by
  refine F.ok scLaw (fun vs H Q E h => ?_) (fun cdv A outer s H vs Q E hr h => ?_)
  · obtain ⟨a, ns, rfl, _⟩ := h; rfl
  obtain ⟨a, ns, rfl, hS, h63, q⟩ := h
  refine ⟨_, (pss_cons (ps_for PassesOwn.never rfl (pi_range1 rfl B.range_ (pa_cons (pe_op op_add pe_int (pe_callB (call_min2 rfl) rfl B.min_ bt_min (pa_cons (pe_callB call_len_seq rfl B.len_ bt_len (pa_cons (pv 0) pa_nil)) (pa_cons pe_int pa_nil)))) pa_nil)) (pg_name (i := 1) scLaw.nd rfl (Or.inl rfl))
   (pss_cons (ps_set (i := 2) scLaw.nd rfl (Or.inl rfl) (pe_callF FG hr (by decide) (pa_cons (pv 0) (pa_cons (pv 1) pa_nil))))
   (pss_cons (ps_set (i := 3) scLaw.nd rfl (Or.inl rfl) (pe_callF FS hr (by decide) (pa_cons (pv 2) (pa_cons (pe_ix ix_list (pe_lst (pa_cons pe_int (pa_cons pe_int pa_nil))) (pe_callTy call_int1 rfl B.int_ bt_int (pa_cons (pe_cmpR op_eq (pe_callF FT hr (by decide) (pa_cons (pv 2) (pa_cons pe_int pa_nil))) pe_int (nomark _)) pa_nil)) (fun _ _ => rfl)) pa_nil))))
   (pss_one (ps_for PassesOwn.never rfl (pi_range1 rfl B.range_ (pa_cons pe_int pa_nil)) (pg_name (i := 4) scLaw.nd rfl (Or.inl rfl))
   (pss_cons (ps_set (i := 5) scLaw.nd rfl (Or.inl rfl) (pe_callF FDe hr (by decide) (pa_cons (pv 2) (pa_cons (pv 3) (pa_cons (pe_lst (pa_cons pe_str (pa_cons pe_str (pa_cons pe_str (pa_cons pe_str (pa_cons pe_str pa_nil)))))) pa_nil)))))
   (pss_cons (ps_set (i := 6) scLaw.nd rfl (Or.inl rfl) (pe_callF FDu hr (by decide) (pa_cons (pv 3) (pa_cons (pv 5) pa_nil))))
   (pss_cons (ps_if (pt_cmpR (op_neD hr.units) (pe_callF FAs hr (by decide) (pa_cons (pv 3) (pa_cons (pv 5) pa_nil))) (pv 6) (nomark _))
   (pss_one (ps_ret pe_bl))
   pss_nil)
   (pss_one (ps_if (PW.pt (pw_and (pt_val (pe_callB call_isi_tup rfl B.isinstance_ bt_isinstance (pa_cons (pv 6) (pa_cons (pe_ty rfl B.tuple_ bt_tuple) pa_nil)))) (pw_and1 (pt_cmpR op_gt (pe_callF FT hr (by decide) (pa_cons (pv 2) (pa_cons pe_int pa_nil))) pe_int (nomark _)))))
   (pss_one (ps_set (i := 3) scLaw.nd rfl (Or.inl rfl) (pv 6)))
   pss_nil))))))))))
   (pss_one (ps_ret pe_bl))), ?_⟩
  have hln : (ns.map V.int).length = ns.length := List.length_map _
  refine ⟨_, rfl, a, _, rfl, .inl hS, _, _, rfl, _, _, rfl, rfl, ?_⟩
  refine ⟨_, rfl, by rw [hln]; split <;> omega, by rw [hln]; split <;> omega, for_range (lo := 0)
    (fun i σ H1 => ∃ v1 v2 v3 v4 v5 v6 : Option V, σ = [some (.ref a), v1, v2, v3, v4, v5, v6] ∧ Same H H1)
    ⟨none, none, none, none, none, none, rfl, Same.refl _⟩ ?_ (fun _ _ _ => q _)⟩
  rintro i σ H1 _ ⟨v1, v2, v3, v4, v5, v6, rfl, s1⟩
  rw [Int.zero_add]
  refine ⟨_, rfl, _, rfl, a, ns, (i : Int), rfl, s1.seq hS, h63, by omega, fun b x y hb0 => ?_⟩
  have fb : H b = none := s1.free hb0
  have s2 := s1.trans (same_new hb0 (.lst [.int x, .int y]))
  have nb : ∀ c u, H c = some u → c ≠ b := fun c u hu => ne_of_none hu fb
  refine ⟨_, rfl, (by show 2 ≤ sizeLine; decide), fun p hp => ⟨_, rfl, b, x, y, 6, rfl, up hp upd_same, by decide, by decide, fun r H3 x3 y3 h30 h31 hb3 o3 => ⟨rfl, .inr ⟨_, rfl, ?_⟩⟩⟩⟩
  obtain ⟨most, hmost, hma⟩ := at_ints (ns := [24, 60]) (i := if decide (V.int r = V.int 0) = true then 1 else 0) (by split <;> decide) (by split <;> decide)
  have hm1 : 1 ≤ most ∧ most ≤ 400 := by
    have : most = 24 ∨ most = 60 := by simpa using hmost
    omega
  have npb : p ≠ b := (ne_of_none upd_same hp).symm
  refine ⟨p, [24, 60].map V.int, _, .int most, rfl, rfl, SqL.of ((o3 p npb).trans upd_same), hma, ?_⟩
  have s3 : Same H H3 := fun c u hu => (o3 c (nb c u hu)).trans (up hp (s2 c u hu))
  refine ⟨b, x3, y3, most, rfl, hb3, hm1.1, hm1.2, fun H4 sk po pm on ms x4 y4 Sk B4 hb4 fs fo fm hs4 ho4 hm4 => ?_⟩
  have s4 : Same H H4 := fun c u hu => B4 c u (nb c u hu) (s3 c u hu)
  have SA : SkAt H4 sk on ms := ⟨Sk, po, pm, hs4, ho4, hm4⟩
  have nsb : sk ≠ b := fun z => by rw [z, hb3] at fs; cases fs
  have nob : po ≠ b := fun z => by rw [z, hb3] at fo; cases fo
  have nmb : pm ≠ b := fun z => by rw [z, hb3] at fm; cases fm
  have SB : ∀ H', But b H4 H' → SkAt H' sk on ms := fun H' bt => ⟨Sk, po, pm, bt _ _ nsb hs4, bt _ _ nob ho4, bt _ _ nmb hm4⟩
  have hle := Sk.le
  refine ⟨8, rfl, by decide, by decide, for_range (lo := 0)
    (fun j σ H5 => ∃ (sk2 : Addr) (on2 : List Int) (ms2 : List (Option Int)) (x5 y5 : Int) (v4 v5 v6 : Option V), σ = [some (.ref a), some (.int (i : Int)), some (.ref b), some (.ref sk2), v4, v5, v6] ∧ Same H H5 ∧ H5 b = some (.lst [.int x5, .int y5]) ∧ SkAt H5 sk2 on2 ms2)
    ⟨sk, on, ms, x4, y4, _, _, _, rfl, s4, hb4, SA⟩ ?_ ?_⟩
  rotate_left
  · rintro σ H5 ⟨sk2, on2, ms2, x5, y5, v4, v5, v6, rfl, s5, _, _⟩
    exact ⟨_, _, _, _, _, _, rfl, s5⟩
  · rintro j σ H5 _ ⟨sk2, on2, ms2, x5, y5, v4, v5, v6, rfl, s5, hb5, SA5⟩
    refine ⟨_, rfl, _, rfl, (by show 5 ≤ sizeLine; decide), fun lw hlw0 => ?_⟩
    have hb5w := up hlw0 hb5 (o := .lst ((["cut", "cut", "join", "turn", "unturn"] : List Str).map V.str))
    have SA5w := SA5.same (same_put hlw0 (.lst ((["cut", "cut", "join", "turn", "unturn"] : List Str).map V.str)))
    have s5' := s5.trans (same_put hlw0 (.lst ((["cut", "cut", "join", "turn", "unturn"] : List Str).map V.str)))
    have hlw := upd_same (H := H5) (a := lw) (o := .lst ((["cut", "cut", "join", "turn", "unturn"] : List Str).map V.str))
    refine ⟨b, sk2, lw, on2, ms2, (["cut", "cut", "join", "turn", "unturn"] : List Str), x5, y5, rfl, SA5w, hb5w, hlw, by decide, by decide, fun rd H6 x6 y6 word nums hw dok B6 hb6 hd6 => ?_⟩
    have s6 : Same H H6 := fun c u hu => B6 c u (nb c u hu) (s5' c u hu)
    have SA6 := SA5w.but hb5w B6
    have hwd : word ∈ (["cut", "join", "turn", "unturn"] : List Str) := (show ∀ x ∈ (["cut", "cut", "join", "turn", "unturn"] : List Str), x ∈ (["cut", "join", "turn", "unturn"] : List Str) by decide) word hw
    refine ⟨_, rfl, _, rfl, sk2, rd, on2, ms2, word, nums, rfl, SA6, hd6, dok, hwd, fun v H7 s7 d7 => ?_⟩
    refine ⟨_, rfl, _, rfl, sk2, rd, on2, ms2, word, nums, rfl, SA6.same s7, s7 _ _ hd6, dok, hwd, fun u H8 s8 d8 => ?_⟩
    obtain ⟨dd, kk, dp1, dp2, gd, hk⟩ := due_data (K := K) (fun w e => deed_w e) d8 (d7.same ((Same.refl H7).trans s8))
    refine ⟨_, rfl, _, _, dp1, dp2, gd.shaped hk, gd.shaped hk, _, rfl, itN (by rw [gd.eqv]; rfl) ?_⟩
    have s18 := (s6.trans s7).trans s8
    have hb8 := s8 _ _ (s7 _ _ hb6)
    have SA8 := (SA6.same s7).same s8
    have hv : (∃ r on' ms', v = .ref r ∧ SkAt H8 r on' ms') ∨ ∃ t, v = .str t := by
      have d9 := d7.same s8
      cases hD : deedD word on2 ms2 nums with
      | skin on' ms' => rw [hD] at d9; obtain ⟨r, e, S'⟩ := d9; exact .inl ⟨r, on', ms', e, S'⟩
      | no => rw [hD] at d9; exact .inr ⟨_, d9⟩
      | many => rw [hD] at d9; exact .inr ⟨_, d9⟩
      | rim => rw [hD] at d9; exact .inr ⟨_, d9⟩
      | unlike => rw [hD] at d9; exact .inr ⟨_, d9⟩
      | harm w' => rw [hD] at d9; exact .inr ⟨_, d9⟩
    rcases hv with ⟨r, on', ms', rfl, S'⟩ | ⟨t, rfl⟩
    · obtain ⟨_, po', pm', k1, k2, k3⟩ := id S'
      refine ⟨_, rfl, _, .tup, rfl, .inl ⟨rfl, _, SqT.of k1⟩, _, rfl, itP rfl ?_⟩
      refine ⟨_, rfl, b, _, _, 3, rfl, hb8, by decide, by decide, fun r9 H9 x9 y9 r90 r91 hb9 o9 => ⟨_, _, rfl, rfl, _, rfl, ?_⟩⟩
      have s9 : Same H H9 := fun c u hu => (o9 c (nb c u hu)).trans (s18 c u hu)
      refine ite2 (fun c => ?_) (fun c => ?_)
      · exact ⟨_, rfl, r, on', ms', x9, y9, _, _, _, rfl, s9, hb9, S'.but hb8 (only_but o9)⟩
      · exact ⟨sk2, on2, ms2, x9, y9, _, _, _, rfl, s9, hb9, SA8.but hb8 (only_but o9)⟩
    · exact ⟨_, rfl, _, .str, rfl, rfl, _, rfl, itN rfl (itN rfl ⟨sk2, on2, ms2, _, _, _, _, _, rfl, s18, hb8, SA8⟩)⟩
end
end Hs
set_option Elab.async false
set_option linter.all false
set_option maxRecDepth 100000
set_option maxHeartbeats 600000
namespace Hs
open PySem L2
theorem fn_of {P : Program} {w : World} {K : PySem.W.Frag} {mg : Str → Option Value} {base : Heap} {x : Str} {st : Stmt} {f : Addr} {fd : FuncData} {ps : List Str} {k : Nat} {sp : Sp} (F : Fun K x x st f fd) (G : FnOk P w K mg base CX0 k f fd ps sp) (b : Binds K fd ps []) (m : mg x = some (.ref f)) :
    Fn P w K mg base x ps k sp := ⟨f, fd, G, b, F.kp, m⟩
theorem fnx_of {P : Program} {w : World} {K : PySem.W.Frag} {mg : Str → Option Value} {base : Heap} {x : Str} {st : Stmt} {f : Addr} {fd : FuncData} {ps : List Str} {k : Nat} {sp : Sp} (F : Fun K x x st f fd) (G : FnOk P w K mg base (CXf P w) k f fd ps sp) (b : Binds K fd ps []) (m : mg x = some (.ref f)) :
    FnX P w K mg base x ps k sp := ⟨f, fd, G, b, F.kp, m⟩
theorem kitOne_of {K : PySem.W.Frag} {t : Value} {C : Addr} {b : Bool} {cd : ClassData} (hs : PySem.W.subIn K t t = some true) (h1 : PySem.W.clsIn K C = some cd) (h2 : PySem.W.typeIn K (.ref C) = some (.type "type")) (h3 : PySem.W.subIn K t (.ref C) = some b) : PySem.W.kitOne K t (.ref C) = some b := by
  unfold PySem.W.kitOne
  split
  next e =>
    have e : t = .ref C := beq_iff_eq.mp e
    rw [← e, hs] at h3; exact h3
  next => unfold PySem.W.kitCls; simp [h1, h2, h3]
theorem meta_V : PySem.W.kitMeta "ValueError" = true := by decide +kernel
theorem kitOne_V {K : PySem.W.Frag} {C : Addr} (h : PySem.W.subIn K (.ref C) (.type "ValueError") = some true) : PySem.W.kitOne K (.ref C) (.type "ValueError") = some true := by
  unfold PySem.W.kitOne
  rw [if_neg (by intro z; cases z)]
  unfold PySem.W.kitCls
  simp only
  rw [if_pos meta_V, h]
theorem exm_of {K : PySem.W.Frag} {t : Value} {C : Addr} {cd : ClassData} (h0 : PySem.W.subIn K (.ref C) (.type "BaseException") = some true) (h1 : PySem.W.clsIn K C = some cd) (h2 : PySem.W.typeIn K (.ref C) = some (.type "type")) (h3 : PySem.W.subIn K t (.ref C) = some true) : PySem.W.exmOne K t (.ref C) = some true := by
  unfold PySem.W.exmOne
  rw [if_pos (by rw [h0]; rfl)]
  unfold PySem.W.kitCls
  simp [h1, h2, h3]
theorem exm_ofB {K : PySem.W.Frag} {t : Value} {C : Addr} {cd : ClassData} {b : Bool} (h0 : PySem.W.subIn K (.ref C) (.type "BaseException") = some true) (h1 : PySem.W.clsIn K C = some cd) (h2 : PySem.W.typeIn K (.ref C) = some (.type "type")) (h3 : PySem.W.subIn K t (.ref C) = some b) : PySem.W.exmOne K t (.ref C) = some b := by
  unfold PySem.W.exmOne
  rw [if_pos (by rw [h0]; rfl)]
  unfold PySem.W.kitCls
  simp [h1, h2, h3]
theorem all_mk {l : PySem.W.OpenLaw} {w : World} {K : PySem.W.Frag} {h : Heap} {mg : Str → Option Value} {fa f1 f2 f3 f4 f5 f6 f7 f8 f9 f10 f11 f12 f13 f14 f15 f16 f17 f18 f19 f20 f21 f22 f23 f24 f25 f26 f27 f28 f29 f30 f31 f32 f33 : Addr} (X : K.In h) (G : h.Ns mainGlobals mg) (hfa : mg "law" = some (.ref fa))
    {od1 an1 od2 an2 od3 an3 od4 an4 od5 an5 od6 an6 od7 an7 od8 an8 od9 an9 od10 an10 od11 an11 od12 an12 od13 an13 od14 an14 od15 an15 od16 an16 od17 an17 od18 an18 od19 an19 od20 an20 od21 an21 od22 an22 od23 an23 od24 an24 od25 an25 od26 an26 od27 an27 od28 an28 od29 an29 od30 an30 od31 an31 od32 an32 od33 an33 : Option Addr} {sl1 sl2 sl3 sl4 sl5 sl6 sl7 sl8 sl9 sl10 sl11 sl12 sl13 sl14 sl15 sl16 sl17 sl18 sl19 sl20 sl21 sl22 sl23 sl24 sl25 sl26 sl27 sl28 sl29 sl30 sl31 sl32 sl33 : Array (Option Value)} {oc1 kV1 dc1 pm1 cd1 ct1 oc2 kV2 dc2 pm2 cd2 ct2 oc3 kV3 dc3 pm3 cd3 ct3 oc4 kV4 dc4 pm4 cd4 ct4 oc5 kV5 dc5 pm5 cd5 ct5 oc6 kV6 dc6 pm6 cd6 ct6 oc7 kV7 dc7 pm7 cd7 ct7 oc8 kV8 dc8 pm8 cd8 ct8 oc9 kV9 dc9 pm9 cd9 ct9 oc10 kV10 dc10 pm10 cd10 ct10 oc11 kV11 dc11 pm11 cd11 ct11 oc12 kV12 dc12 pm12 cd12 ct12 oc13 kV13 dc13 pm13 cd13 ct13 oc14 kV14 dc14 pm14 cd14 ct14 oc15 kV15 dc15 pm15 cd15 ct15 oc16 kV16 dc16 pm16 cd16 ct16 oc17 kV17 dc17 pm17 cd17 ct17 oc18 kV18 dc18 pm18 cd18 ct18 oc19 kV19 dc19 pm19 cd19 ct19 oc20 kV20 dc20 pm20 cd20 ct20 oc21 kV21 dc21 pm21 cd21 ct21 oc22 kV22 dc22 pm22 cd22 ct22 oc23 kV23 dc23 pm23 cd23 ct23 oc24 kV24 dc24 pm24 cd24 ct24 oc25 kV25 dc25 pm25 cd25 ct25 oc26 kV26 dc26 pm26 cd26 ct26 oc27 kV27 dc27 pm27 cd27 ct27 oc28 kV28 dc28 pm28 cd28 ct28 oc29 kV29 dc29 pm29 cd29 ct29 oc30 kV30 dc30 pm30 cd30 ct30 oc31 kV31 dc31 pm31 cd31 ct31 oc32 kV32 dc32 pm32 cd32 ct32 oc33 kV33 dc33 pm33 cd33 ct33 : Value} {t_MOST_HALVES : Tok}
    (a1 : PySem.W.nsIn K mainGlobals "check_half" = some (some (.ref f1)))
    (l1 : K.lookup f1 = some ⟨oc1, od1, .func (PySem.W.fnOf "check_half" "check_half" (defArgs s_check_half) (defBody s_check_half) (defScope s_check_half) .none kV1 dc1 pm1 an1 cd1 ct1), sl1⟩)
    (c1 : PySem.W.codeIn K cd1 "check_half" = true)
    (k1 : PySem.W.keepIn K (.ref f1) = true)
    (a2 : PySem.W.nsIn K mainGlobals "check_room" = some (some (.ref f2)))
    (l2 : K.lookup f2 = some ⟨oc2, od2, .func (PySem.W.fnOf "check_room" "check_room" (defArgs s_check_room) (defBody s_check_room) (defScope s_check_room) .none kV2 dc2 pm2 an2 cd2 ct2), sl2⟩)
    (c2 : PySem.W.codeIn K cd2 "check_room" = true)
    (k2 : PySem.W.keepIn K (.ref f2) = true)
    (a3 : PySem.W.nsIn K mainGlobals "without" = some (some (.ref f3)))
    (l3 : K.lookup f3 = some ⟨oc3, od3, .func (PySem.W.fnOf "without" "without" (defArgs s_without) (defBody s_without) (defScope s_without) .none kV3 dc3 pm3 an3 cd3 ct3), sl3⟩)
    (c3 : PySem.W.codeIn K cd3 "without" = true)
    (k3 : PySem.W.keepIn K (.ref f3) = true)
    (a4 : PySem.W.nsIn K mainGlobals "ahead_of" = some (some (.ref f4)))
    (l4 : K.lookup f4 = some ⟨oc4, od4, .func (PySem.W.fnOf "ahead_of" "ahead_of" (defArgs s_ahead_of) (defBody s_ahead_of) (defScope s_ahead_of) .none kV4 dc4 pm4 an4 cd4 ct4), sl4⟩)
    (c4 : PySem.W.codeIn K cd4 "ahead_of" = true)
    (k4 : PySem.W.keepIn K (.ref f4) = true)
    (a5 : PySem.W.nsIn K mainGlobals "patch_of" = some (some (.ref f5)))
    (l5 : K.lookup f5 = some ⟨oc5, od5, .func (PySem.W.fnOf "patch_of" "patch_of" (defArgs s_patch_of) (defBody s_patch_of) (defScope s_patch_of) .none kV5 dc5 pm5 an5 cd5 ct5), sl5⟩)
    (c5 : PySem.W.codeIn K cd5 "patch_of" = true)
    (k5 : PySem.W.keepIn K (.ref f5) = true)
    (a6 : PySem.W.nsIn K mainGlobals "cut" = some (some (.ref f6)))
    (l6 : K.lookup f6 = some ⟨oc6, od6, .func (PySem.W.fnOf "cut" "cut" (defArgs s_cut) (defBody s_cut) (defScope s_cut) .none kV6 dc6 pm6 an6 cd6 ct6), sl6⟩)
    (c6 : PySem.W.codeIn K cd6 "cut" = true)
    (k6 : PySem.W.keepIn K (.ref f6) = true)
    (a7 : PySem.W.nsIn K mainGlobals "joined" = some (some (.ref f7)))
    (l7 : K.lookup f7 = some ⟨oc7, od7, .func (PySem.W.fnOf "joined" "joined" (defArgs s_joined) (defBody s_joined) (defScope s_joined) .none kV7 dc7 pm7 an7 cd7 ct7), sl7⟩)
    (c7 : PySem.W.codeIn K cd7 "joined" = true)
    (k7 : PySem.W.keepIn K (.ref f7) = true)
    (a8 : PySem.W.nsIn K mainGlobals "check_two_patches" = some (some (.ref f8)))
    (l8 : K.lookup f8 = some ⟨oc8, od8, .func (PySem.W.fnOf "check_two_patches" "check_two_patches" (defArgs s_check_two_patches) (defBody s_check_two_patches) (defScope s_check_two_patches) .none kV8 dc8 pm8 an8 cd8 ct8), sl8⟩)
    (c8 : PySem.W.codeIn K cd8 "check_two_patches" = true)
    (k8 : PySem.W.keepIn K (.ref f8) = true)
    (a9 : PySem.W.nsIn K mainGlobals "turned" = some (some (.ref f9)))
    (l9 : K.lookup f9 = some ⟨oc9, od9, .func (PySem.W.fnOf "turned" "turned" (defArgs s_turned) (defBody s_turned) (defScope s_turned) .none kV9 dc9 pm9 an9 cd9 ct9), sl9⟩)
    (c9 : PySem.W.codeIn K cd9 "turned" = true)
    (k9 : PySem.W.keepIn K (.ref f9) = true)
    (a10 : PySem.W.nsIn K mainGlobals "unturned" = some (some (.ref f10)))
    (l10 : K.lookup f10 = some ⟨oc10, od10, .func (PySem.W.fnOf "unturned" "unturned" (defArgs s_unturned) (defBody s_unturned) (defScope s_unturned) .none kV10 dc10 pm10 an10 cd10 ct10), sl10⟩)
    (c10 : PySem.W.codeIn K cd10 "unturned" = true)
    (k10 : PySem.W.keepIn K (.ref f10) = true)
    (a11 : PySem.W.nsIn K mainGlobals "two_threes" = some (some (.ref f11)))
    (l11 : K.lookup f11 = some ⟨oc11, od11, .func (PySem.W.fnOf "two_threes" "two_threes" (defArgs s_two_threes) (defBody s_two_threes) (defScope s_two_threes) .none kV11 dc11 pm11 an11 cd11 ct11), sl11⟩)
    (c11 : PySem.W.codeIn K cd11 "two_threes" = true)
    (k11 : PySem.W.keepIn K (.ref f11) = true)
    (a12 : PySem.W.nsIn K mainGlobals "with_threes" = some (some (.ref f12)))
    (l12 : K.lookup f12 = some ⟨oc12, od12, .func (PySem.W.fnOf "with_threes" "with_threes" (defArgs s_with_threes) (defBody s_with_threes) (defScope s_with_threes) .none kV12 dc12 pm12 an12 cd12 ct12), sl12⟩)
    (c12 : PySem.W.codeIn K cd12 "with_threes" = true)
    (k12 : PySem.W.keepIn K (.ref f12) = true)
    (a13 : PySem.W.nsIn K mainGlobals "_law_asked" = some (some (.ref f13)))
    (l13 : K.lookup f13 = some ⟨oc13, od13, .func (PySem.W.fnOf "_law_asked" "_law_asked" (defArgs s__law_asked) (defBody s__law_asked) (defScope s__law_asked) .none kV13 dc13 pm13 an13 cd13 ct13), sl13⟩)
    (c13 : PySem.W.codeIn K cd13 "_law_asked" = true)
    (k13 : PySem.W.keepIn K (.ref f13) = true)
    (a14 : PySem.W.nsIn K mainGlobals "_law_bag" = some (some (.ref f14)))
    (l14 : K.lookup f14 = some ⟨oc14, od14, .func (PySem.W.fnOf "_law_bag" "_law_bag" (defArgs sBag) (defBody sBag) (defScope sBag) .none kV14 dc14 pm14 an14 cd14 ct14), sl14⟩)
    (c14 : PySem.W.codeIn K cd14 "_law_bag" = true)
    (k14 : PySem.W.keepIn K (.ref f14) = true)
    (a15 : PySem.W.nsIn K mainGlobals "_law_take" = some (some (.ref f15)))
    (l15 : K.lookup f15 = some ⟨oc15, od15, .func (PySem.W.fnOf "_law_take" "_law_take" (defArgs sTake) (defBody sTake) (defScope sTake) .none kV15 dc15 pm15 an15 cd15 ct15), sl15⟩)
    (c15 : PySem.W.codeIn K cd15 "_law_take" = true)
    (k15 : PySem.W.keepIn K (.ref f15) = true)
    (a16 : PySem.W.nsIn K mainGlobals "_law_skin" = some (some (.ref f16)))
    (l16 : K.lookup f16 = some ⟨oc16, od16, .func (PySem.W.fnOf "_law_skin" "_law_skin" (defArgs sSkin) (defBody sSkin) (defScope sSkin) .none kV16 dc16 pm16 an16 cd16 ct16), sl16⟩)
    (c16 : PySem.W.codeIn K cd16 "_law_skin" = true)
    (k16 : PySem.W.keepIn K (.ref f16) = true)
    (a17 : PySem.W.nsIn K mainGlobals "_law_left" = some (some (.ref f17)))
    (l17 : K.lookup f17 = some ⟨oc17, od17, .func (PySem.W.fnOf "_law_left" "_law_left" (defArgs s__law_left) (defBody s__law_left) (defScope s__law_left) .none kV17 dc17 pm17 an17 cd17 ct17), sl17⟩)
    (c17 : PySem.W.codeIn K cd17 "_law_left" = true)
    (k17 : PySem.W.keepIn K (.ref f17) = true)
    (a18 : PySem.W.nsIn K mainGlobals "_law_right" = some (some (.ref f18)))
    (l18 : K.lookup f18 = some ⟨oc18, od18, .func (PySem.W.fnOf "_law_right" "_law_right" (defArgs s__law_right) (defBody s__law_right) (defScope s__law_right) .none kV18 dc18 pm18 an18 cd18 ct18), sl18⟩)
    (c18 : PySem.W.codeIn K cd18 "_law_right" = true)
    (k18 : PySem.W.keepIn K (.ref f18) = true)
    (a19 : PySem.W.nsIn K mainGlobals "_law_knot" = some (some (.ref f19)))
    (l19 : K.lookup f19 = some ⟨oc19, od19, .func (PySem.W.fnOf "_law_knot" "_law_knot" (defArgs s__law_knot) (defBody s__law_knot) (defScope s__law_knot) .none kV19 dc19 pm19 an19 cd19 ct19), sl19⟩)
    (c19 : PySem.W.codeIn K cd19 "_law_knot" = true)
    (k19 : PySem.W.keepIn K (.ref f19) = true)
    (a20 : PySem.W.nsIn K mainGlobals "_law_patch" = some (some (.ref f20)))
    (l20 : K.lookup f20 = some ⟨oc20, od20, .func (PySem.W.fnOf "_law_patch" "_law_patch" (defArgs s__law_patch) (defBody s__law_patch) (defScope s__law_patch) .none kV20 dc20 pm20 an20 cd20 ct20), sl20⟩)
    (c20 : PySem.W.codeIn K cd20 "_law_patch" = true)
    (k20 : PySem.W.keepIn K (.ref f20) = true)
    (a21 : PySem.W.nsIn K mainGlobals "_law_rim" = some (some (.ref f21)))
    (l21 : K.lookup f21 = some ⟨oc21, od21, .func (PySem.W.fnOf "_law_rim" "_law_rim" (defArgs s__law_rim) (defBody s__law_rim) (defScope s__law_rim) .none kV21 dc21 pm21 an21 cd21 ct21), sl21⟩)
    (c21 : PySem.W.codeIn K cd21 "_law_rim" = true)
    (k21 : PySem.W.keepIn K (.ref f21) = true)
    (a22 : PySem.W.nsIn K mainGlobals "_law_walks" = some (some (.ref f22)))
    (l22 : K.lookup f22 = some ⟨oc22, od22, .func (PySem.W.fnOf "_law_walks" "_law_walks" (defArgs s__law_walks) (defBody s__law_walks) (defScope s__law_walks) .none kV22 dc22 pm22 an22 cd22 ct22), sl22⟩)
    (c22 : PySem.W.codeIn K cd22 "_law_walks" = true)
    (k22 : PySem.W.keepIn K (.ref f22) = true)
    (a23 : PySem.W.nsIn K mainGlobals "_law_kinds" = some (some (.ref f23)))
    (l23 : K.lookup f23 = some ⟨oc23, od23, .func (PySem.W.fnOf "_law_kinds" "_law_kinds" (defArgs s__law_kinds) (defBody s__law_kinds) (defScope s__law_kinds) .none kV23 dc23 pm23 an23 cd23 ct23), sl23⟩)
    (c23 : PySem.W.codeIn K cd23 "_law_kinds" = true)
    (k23 : PySem.W.keepIn K (.ref f23) = true)
    (a24 : PySem.W.nsIn K mainGlobals "_law_closed" = some (some (.ref f24)))
    (l24 : K.lookup f24 = some ⟨oc24, od24, .func (PySem.W.fnOf "_law_closed" "_law_closed" (defArgs s__law_closed) (defBody s__law_closed) (defScope s__law_closed) .none kV24 dc24 pm24 an24 cd24 ct24), sl24⟩)
    (c24 : PySem.W.codeIn K cd24 "_law_closed" = true)
    (k24 : PySem.W.keepIn K (.ref f24) = true)
    (a25 : PySem.W.nsIn K mainGlobals "_law_rows_of" = some (some (.ref f25)))
    (l25 : K.lookup f25 = some ⟨oc25, od25, .func (PySem.W.fnOf "_law_rows_of" "_law_rows_of" (defArgs s__law_rows_of) (defBody s__law_rows_of) (defScope s__law_rows_of) .none kV25 dc25 pm25 an25 cd25 ct25), sl25⟩)
    (c25 : PySem.W.codeIn K cd25 "_law_rows_of" = true)
    (k25 : PySem.W.keepIn K (.ref f25) = true)
    (a26 : PySem.W.nsIn K mainGlobals "_law_pairs_of" = some (some (.ref f26)))
    (l26 : K.lookup f26 = some ⟨oc26, od26, .func (PySem.W.fnOf "_law_pairs_of" "_law_pairs_of" (defArgs s__law_pairs_of) (defBody s__law_pairs_of) (defScope s__law_pairs_of) .none kV26 dc26 pm26 an26 cd26 ct26), sl26⟩)
    (c26 : PySem.W.codeIn K cd26 "_law_pairs_of" = true)
    (k26 : PySem.W.keepIn K (.ref f26) = true)
    (a27 : PySem.W.nsIn K mainGlobals "_law_put" = some (some (.ref f27)))
    (l27 : K.lookup f27 = some ⟨oc27, od27, .func (PySem.W.fnOf "_law_put" "_law_put" (defArgs s__law_put) (defBody s__law_put) (defScope s__law_put) .none kV27 dc27 pm27 an27 cd27 ct27), sl27⟩)
    (c27 : PySem.W.codeIn K cd27 "_law_put" = true)
    (k27 : PySem.W.keepIn K (.ref f27) = true)
    (a28 : PySem.W.nsIn K mainGlobals "_law_left_out" = some (some (.ref f28)))
    (l28 : K.lookup f28 = some ⟨oc28, od28, .func (PySem.W.fnOf "_law_left_out" "_law_left_out" (defArgs s__law_left_out) (defBody s__law_left_out) (defScope s__law_left_out) .none kV28 dc28 pm28 an28 cd28 ct28), sl28⟩)
    (c28 : PySem.W.codeIn K cd28 "_law_left_out" = true)
    (k28 : PySem.W.keepIn K (.ref f28) = true)
    (a29 : PySem.W.nsIn K mainGlobals "_law_is_rimmed" = some (some (.ref f29)))
    (l29 : K.lookup f29 = some ⟨oc29, od29, .func (PySem.W.fnOf "_law_is_rimmed" "_law_is_rimmed" (defArgs s__law_is_rimmed) (defBody s__law_is_rimmed) (defScope s__law_is_rimmed) .none kV29 dc29 pm29 an29 cd29 ct29), sl29⟩)
    (c29 : PySem.W.codeIn K cd29 "_law_is_rimmed" = true)
    (k29 : PySem.W.keepIn K (.ref f29) = true)
    (a30 : PySem.W.nsIn K mainGlobals "_law_patch_due" = some (some (.ref f30)))
    (l30 : K.lookup f30 = some ⟨oc30, od30, .func (PySem.W.fnOf "_law_patch_due" "_law_patch_due" (defArgs s__law_patch_due) (defBody s__law_patch_due) (defScope s__law_patch_due) .none kV30 dc30 pm30 an30 cd30 ct30), sl30⟩)
    (c30 : PySem.W.codeIn K cd30 "_law_patch_due" = true)
    (k30 : PySem.W.keepIn K (.ref f30) = true)
    (a31 : PySem.W.nsIn K mainGlobals "_law_due" = some (some (.ref f31)))
    (l31 : K.lookup f31 = some ⟨oc31, od31, .func (PySem.W.fnOf "_law_due" "_law_due" (defArgs s__law_due) (defBody s__law_due) (defScope s__law_due) .none kV31 dc31 pm31 an31 cd31 ct31), sl31⟩)
    (c31 : PySem.W.codeIn K cd31 "_law_due" = true)
    (k31 : PySem.W.keepIn K (.ref f31) = true)
    (a32 : PySem.W.nsIn K mainGlobals "_law_deed" = some (some (.ref f32)))
    (l32 : K.lookup f32 = some ⟨oc32, od32, .func (PySem.W.fnOf "_law_deed" "_law_deed" (defArgs s__law_deed) (defBody s__law_deed) (defScope s__law_deed) .none kV32 dc32 pm32 an32 cd32 ct32), sl32⟩)
    (c32 : PySem.W.codeIn K cd32 "_law_deed" = true)
    (k32 : PySem.W.keepIn K (.ref f32) = true)
    (a33 : PySem.W.nsIn K mainGlobals "law" = some (some (.ref f33)))
    (l33 : K.lookup f33 = some ⟨oc33, od33, .func (PySem.W.fnOf "law" "law" (defArgs sLaw) (defBody sLaw) (defScope sLaw) .none kV33 dc33 pm33 an33 cd33 ct33), sl33⟩)
    (c33 : PySem.W.codeIn K cd33 "law" = true)
    (k33 : PySem.W.keepIn K (.ref f33) = true)
    (a_MOST_HALVES : PySem.W.nsIn K mainGlobals "MOST_HALVES" = some (some (.int 400 t_MOST_HALVES)))
    (z_len : PySem.W.nsIn K mainGlobals "len" = some none)
    (z_range : PySem.W.nsIn K mainGlobals "range" = some none)
    (z_list : PySem.W.nsIn K mainGlobals "list" = some none)
    (z_tuple : PySem.W.nsIn K mainGlobals "tuple" = some none)
    (z_min : PySem.W.nsIn K mainGlobals "min" = some none)
    (z_int : PySem.W.nsIn K mainGlobals "int" = some none)
    (z_bool : PySem.W.nsIn K mainGlobals "bool" = some none)
    (z_isinstance : PySem.W.nsIn K mainGlobals "isinstance" = some none)
    (z_set : PySem.W.nsIn K mainGlobals "set" = some none)
    (z_all : PySem.W.nsIn K mainGlobals "all" = some none)
    (z_enumerate : PySem.W.nsIn K mainGlobals "enumerate" = some none)
    (z_sorted : PySem.W.nsIn K mainGlobals "sorted" = some none)
    (z_dict : PySem.W.nsIn K mainGlobals "dict" = some none)
    (z_ValueError : PySem.W.nsIn K mainGlobals "ValueError" = some none)
    {c_Harm : Addr} {e_Harm : ClassData}
    (ac_Harm : PySem.W.nsIn K mainGlobals "Harm" = some (some (.ref c_Harm)))
    (hc_Harm : PySem.W.clsIn K c_Harm = some e_Harm)
    (ht_Harm : PySem.W.typeIn K (.ref c_Harm) = some (.type "type"))
    {c_NoHalf : Addr} {e_NoHalf : ClassData}
    (ac_NoHalf : PySem.W.nsIn K mainGlobals "NoHalf" = some (some (.ref c_NoHalf)))
    (hc_NoHalf : PySem.W.clsIn K c_NoHalf = some e_NoHalf)
    (ht_NoHalf : PySem.W.typeIn K (.ref c_NoHalf) = some (.type "type"))
    {c_NoMarks : Addr} {e_NoMarks : ClassData}
    (ac_NoMarks : PySem.W.nsIn K mainGlobals "NoMarks" = some (some (.ref c_NoMarks)))
    (hc_NoMarks : PySem.W.clsIn K c_NoMarks = some e_NoMarks)
    (ht_NoMarks : PySem.W.typeIn K (.ref c_NoMarks) = some (.type "type"))
    {c_NoPlain : Addr} {e_NoPlain : ClassData}
    (ac_NoPlain : PySem.W.nsIn K mainGlobals "NoPlain" = some (some (.ref c_NoPlain)))
    (hc_NoPlain : PySem.W.clsIn K c_NoPlain = some e_NoPlain)
    (ht_NoPlain : PySem.W.typeIn K (.ref c_NoPlain) = some (.type "type"))
    {c_NoRim : Addr} {e_NoRim : ClassData}
    (ac_NoRim : PySem.W.nsIn K mainGlobals "NoRim" = some (some (.ref c_NoRim)))
    (hc_NoRim : PySem.W.clsIn K c_NoRim = some e_NoRim)
    (ht_NoRim : PySem.W.typeIn K (.ref c_NoRim) = some (.type "type"))
    {c_NoRow : Addr} {e_NoRow : ClassData}
    (ac_NoRow : PySem.W.nsIn K mainGlobals "NoRow" = some (some (.ref c_NoRow)))
    (hc_NoRow : PySem.W.clsIn K c_NoRow = some e_NoRow)
    (ht_NoRow : PySem.W.typeIn K (.ref c_NoRow) = some (.type "type"))
    {c_NoSkin : Addr} {e_NoSkin : ClassData}
    (ac_NoSkin : PySem.W.nsIn K mainGlobals "NoSkin" = some (some (.ref c_NoSkin)))
    (hc_NoSkin : PySem.W.clsIn K c_NoSkin = some e_NoSkin)
    (ht_NoSkin : PySem.W.typeIn K (.ref c_NoSkin) = some (.type "type"))
    {c_NoText : Addr} {e_NoText : ClassData}
    (ac_NoText : PySem.W.nsIn K mainGlobals "NoText" = some (some (.ref c_NoText)))
    (hc_NoText : PySem.W.clsIn K c_NoText = some e_NoText)
    (ht_NoText : PySem.W.typeIn K (.ref c_NoText) = some (.type "type"))
    {c_NothingLeft : Addr} {e_NothingLeft : ClassData}
    (ac_NothingLeft : PySem.W.nsIn K mainGlobals "NothingLeft" = some (some (.ref c_NothingLeft)))
    (hc_NothingLeft : PySem.W.clsIn K c_NothingLeft = some e_NothingLeft)
    (ht_NothingLeft : PySem.W.typeIn K (.ref c_NothingLeft) = some (.type "type"))
    {c_TooMany : Addr} {e_TooMany : ClassData}
    (ac_TooMany : PySem.W.nsIn K mainGlobals "TooMany" = some (some (.ref c_TooMany)))
    (hc_TooMany : PySem.W.clsIn K c_TooMany = some e_TooMany)
    (ht_TooMany : PySem.W.typeIn K (.ref c_TooMany) = some (.type "type"))
    {c_Unfit : Addr} {e_Unfit : ClassData}
    (ac_Unfit : PySem.W.nsIn K mainGlobals "Unfit" = some (some (.ref c_Unfit)))
    (hc_Unfit : PySem.W.clsIn K c_Unfit = some e_Unfit)
    (ht_Unfit : PySem.W.typeIn K (.ref c_Unfit) = some (.type "type"))
    {c_Unlike : Addr} {e_Unlike : ClassData}
    (ac_Unlike : PySem.W.nsIn K mainGlobals "Unlike" = some (some (.ref c_Unlike)))
    (hc_Unlike : PySem.W.clsIn K c_Unlike = some e_Unlike)
    (ht_Unlike : PySem.W.typeIn K (.ref c_Unlike) = some (.type "type"))
    {c_SkinError : Addr} {e_SkinError : ClassData}
    (ac_SkinError : PySem.W.nsIn K mainGlobals "SkinError" = some (some (.ref c_SkinError)))
    (hc_SkinError : PySem.W.clsIn K c_SkinError = some e_SkinError)
    (ht_SkinError : PySem.W.typeIn K (.ref c_SkinError) = some (.type "type"))
    (bs_SkinError : PySem.W.subIn K (.ref c_SkinError) (.type "BaseException") = some true)
    (sb_Harm_Harm : PySem.W.subIn K (.ref c_Harm) (.ref c_Harm) = some true)
    (sb_Harm_NoHalf : PySem.W.subIn K (.ref c_Harm) (.ref c_NoHalf) = some false)
    (sb_Harm_NoMarks : PySem.W.subIn K (.ref c_Harm) (.ref c_NoMarks) = some false)
    (sb_Harm_NoPlain : PySem.W.subIn K (.ref c_Harm) (.ref c_NoPlain) = some false)
    (sb_Harm_NoRim : PySem.W.subIn K (.ref c_Harm) (.ref c_NoRim) = some false)
    (sb_Harm_NoRow : PySem.W.subIn K (.ref c_Harm) (.ref c_NoRow) = some false)
    (sb_Harm_NoSkin : PySem.W.subIn K (.ref c_Harm) (.ref c_NoSkin) = some false)
    (sb_Harm_NoText : PySem.W.subIn K (.ref c_Harm) (.ref c_NoText) = some false)
    (sb_Harm_NothingLeft : PySem.W.subIn K (.ref c_Harm) (.ref c_NothingLeft) = some false)
    (sb_Harm_TooMany : PySem.W.subIn K (.ref c_Harm) (.ref c_TooMany) = some false)
    (sb_Harm_Unfit : PySem.W.subIn K (.ref c_Harm) (.ref c_Unfit) = some false)
    (sb_Harm_Unlike : PySem.W.subIn K (.ref c_Harm) (.ref c_Unlike) = some false)
    (sb_Harm_SkinError : PySem.W.subIn K (.ref c_Harm) (.ref c_SkinError) = some true)
    (sv_Harm : PySem.W.subIn K (.ref c_Harm) (.type "ValueError") = some true)
    (be_Harm : PySem.W.subIn K (.ref c_Harm) (.type "BaseException") = some true)
    (ga_Harm : PySem.W.findIn K (.ref c_Harm) "__getattribute__" = some (some (.builtin "BaseException.__getattribute__")))
    (gn_Harm : PySem.W.findIn K (.ref c_Harm) "__getattr__" = some none)
    (cl_Harm : PySem.W.findIn K (.ref c_Harm) "__class__" = some (some (.builtin "object.__class__")))
    (sp_Harm : PySem.W.specialIn K (.builtin "object.__class__") "__get__" = some (some (.builtin "getset_descriptor.__get__")))
    (tk_Harm : PySem.W.takesIn K (.builtin "object.__class__") = some true)
    (mr_Harm : PySem.W.mroIn K c_Harm (.type "object") = some true)
    (sb_NoHalf_Harm : PySem.W.subIn K (.ref c_NoHalf) (.ref c_Harm) = some false)
    (sb_NoHalf_NoHalf : PySem.W.subIn K (.ref c_NoHalf) (.ref c_NoHalf) = some true)
    (sb_NoHalf_NoMarks : PySem.W.subIn K (.ref c_NoHalf) (.ref c_NoMarks) = some false)
    (sb_NoHalf_NoPlain : PySem.W.subIn K (.ref c_NoHalf) (.ref c_NoPlain) = some false)
    (sb_NoHalf_NoRim : PySem.W.subIn K (.ref c_NoHalf) (.ref c_NoRim) = some false)
    (sb_NoHalf_NoRow : PySem.W.subIn K (.ref c_NoHalf) (.ref c_NoRow) = some false)
    (sb_NoHalf_NoSkin : PySem.W.subIn K (.ref c_NoHalf) (.ref c_NoSkin) = some false)
    (sb_NoHalf_NoText : PySem.W.subIn K (.ref c_NoHalf) (.ref c_NoText) = some false)
    (sb_NoHalf_NothingLeft : PySem.W.subIn K (.ref c_NoHalf) (.ref c_NothingLeft) = some false)
    (sb_NoHalf_TooMany : PySem.W.subIn K (.ref c_NoHalf) (.ref c_TooMany) = some false)
    (sb_NoHalf_Unfit : PySem.W.subIn K (.ref c_NoHalf) (.ref c_Unfit) = some false)
    (sb_NoHalf_Unlike : PySem.W.subIn K (.ref c_NoHalf) (.ref c_Unlike) = some false)
    (sb_NoHalf_SkinError : PySem.W.subIn K (.ref c_NoHalf) (.ref c_SkinError) = some true)
    (sv_NoHalf : PySem.W.subIn K (.ref c_NoHalf) (.type "ValueError") = some true)
    (be_NoHalf : PySem.W.subIn K (.ref c_NoHalf) (.type "BaseException") = some true)
    (ga_NoHalf : PySem.W.findIn K (.ref c_NoHalf) "__getattribute__" = some (some (.builtin "BaseException.__getattribute__")))
    (gn_NoHalf : PySem.W.findIn K (.ref c_NoHalf) "__getattr__" = some none)
    (cl_NoHalf : PySem.W.findIn K (.ref c_NoHalf) "__class__" = some (some (.builtin "object.__class__")))
    (sp_NoHalf : PySem.W.specialIn K (.builtin "object.__class__") "__get__" = some (some (.builtin "getset_descriptor.__get__")))
    (tk_NoHalf : PySem.W.takesIn K (.builtin "object.__class__") = some true)
    (mr_NoHalf : PySem.W.mroIn K c_NoHalf (.type "object") = some true)
    (ow_NoHalf : PySem.W.excIn K c_NoHalf [.type "ValueError", .type "Exception", .type "BaseException", .type "object"] "ValueError.__new__" = true)
    (sb_TooMany_Harm : PySem.W.subIn K (.ref c_TooMany) (.ref c_Harm) = some false)
    (sb_TooMany_NoHalf : PySem.W.subIn K (.ref c_TooMany) (.ref c_NoHalf) = some false)
    (sb_TooMany_NoMarks : PySem.W.subIn K (.ref c_TooMany) (.ref c_NoMarks) = some false)
    (sb_TooMany_NoPlain : PySem.W.subIn K (.ref c_TooMany) (.ref c_NoPlain) = some false)
    (sb_TooMany_NoRim : PySem.W.subIn K (.ref c_TooMany) (.ref c_NoRim) = some false)
    (sb_TooMany_NoRow : PySem.W.subIn K (.ref c_TooMany) (.ref c_NoRow) = some false)
    (sb_TooMany_NoSkin : PySem.W.subIn K (.ref c_TooMany) (.ref c_NoSkin) = some false)
    (sb_TooMany_NoText : PySem.W.subIn K (.ref c_TooMany) (.ref c_NoText) = some false)
    (sb_TooMany_NothingLeft : PySem.W.subIn K (.ref c_TooMany) (.ref c_NothingLeft) = some false)
    (sb_TooMany_TooMany : PySem.W.subIn K (.ref c_TooMany) (.ref c_TooMany) = some true)
    (sb_TooMany_Unfit : PySem.W.subIn K (.ref c_TooMany) (.ref c_Unfit) = some false)
    (sb_TooMany_Unlike : PySem.W.subIn K (.ref c_TooMany) (.ref c_Unlike) = some false)
    (sb_TooMany_SkinError : PySem.W.subIn K (.ref c_TooMany) (.ref c_SkinError) = some true)
    (sv_TooMany : PySem.W.subIn K (.ref c_TooMany) (.type "ValueError") = some true)
    (be_TooMany : PySem.W.subIn K (.ref c_TooMany) (.type "BaseException") = some true)
    (ga_TooMany : PySem.W.findIn K (.ref c_TooMany) "__getattribute__" = some (some (.builtin "BaseException.__getattribute__")))
    (gn_TooMany : PySem.W.findIn K (.ref c_TooMany) "__getattr__" = some none)
    (cl_TooMany : PySem.W.findIn K (.ref c_TooMany) "__class__" = some (some (.builtin "object.__class__")))
    (sp_TooMany : PySem.W.specialIn K (.builtin "object.__class__") "__get__" = some (some (.builtin "getset_descriptor.__get__")))
    (tk_TooMany : PySem.W.takesIn K (.builtin "object.__class__") = some true)
    (mr_TooMany : PySem.W.mroIn K c_TooMany (.type "object") = some true)
    (ow_TooMany : PySem.W.excIn K c_TooMany [.type "ValueError", .type "Exception", .type "BaseException", .type "object"] "ValueError.__new__" = true)
    (sb_Unlike_Harm : PySem.W.subIn K (.ref c_Unlike) (.ref c_Harm) = some false)
    (sb_Unlike_NoHalf : PySem.W.subIn K (.ref c_Unlike) (.ref c_NoHalf) = some false)
    (sb_Unlike_NoMarks : PySem.W.subIn K (.ref c_Unlike) (.ref c_NoMarks) = some false)
    (sb_Unlike_NoPlain : PySem.W.subIn K (.ref c_Unlike) (.ref c_NoPlain) = some false)
    (sb_Unlike_NoRim : PySem.W.subIn K (.ref c_Unlike) (.ref c_NoRim) = some false)
    (sb_Unlike_NoRow : PySem.W.subIn K (.ref c_Unlike) (.ref c_NoRow) = some false)
    (sb_Unlike_NoSkin : PySem.W.subIn K (.ref c_Unlike) (.ref c_NoSkin) = some false)
    (sb_Unlike_NoText : PySem.W.subIn K (.ref c_Unlike) (.ref c_NoText) = some false)
    (sb_Unlike_NothingLeft : PySem.W.subIn K (.ref c_Unlike) (.ref c_NothingLeft) = some false)
    (sb_Unlike_TooMany : PySem.W.subIn K (.ref c_Unlike) (.ref c_TooMany) = some false)
    (sb_Unlike_Unfit : PySem.W.subIn K (.ref c_Unlike) (.ref c_Unfit) = some false)
    (sb_Unlike_Unlike : PySem.W.subIn K (.ref c_Unlike) (.ref c_Unlike) = some true)
    (sb_Unlike_SkinError : PySem.W.subIn K (.ref c_Unlike) (.ref c_SkinError) = some true)
    (sv_Unlike : PySem.W.subIn K (.ref c_Unlike) (.type "ValueError") = some true)
    (be_Unlike : PySem.W.subIn K (.ref c_Unlike) (.type "BaseException") = some true)
    (ga_Unlike : PySem.W.findIn K (.ref c_Unlike) "__getattribute__" = some (some (.builtin "BaseException.__getattribute__")))
    (gn_Unlike : PySem.W.findIn K (.ref c_Unlike) "__getattr__" = some none)
    (cl_Unlike : PySem.W.findIn K (.ref c_Unlike) "__class__" = some (some (.builtin "object.__class__")))
    (sp_Unlike : PySem.W.specialIn K (.builtin "object.__class__") "__get__" = some (some (.builtin "getset_descriptor.__get__")))
    (tk_Unlike : PySem.W.takesIn K (.builtin "object.__class__") = some true)
    (mr_Unlike : PySem.W.mroIn K c_Unlike (.type "object") = some true)
    (ow_Unlike : PySem.W.excIn K c_Unlike [.type "ValueError", .type "Exception", .type "BaseException", .type "object"] "ValueError.__new__" = true)
    (kp_Harm : PySem.W.keepIn K (.ref c_Harm) = true)
    (kp_NoHalf : PySem.W.keepIn K (.ref c_NoHalf) = true)
    (kp_TooMany : PySem.W.keepIn K (.ref c_TooMany) = true)
    (kp_Unlike : PySem.W.keepIn K (.ref c_Unlike) = true)
    (opq : PySem.W.nsIn K cStatics "thirdparty.any" = some none)
    (sup : PySem.W.nsIn K mainGlobals "super" = some none)
    (tsu : (l.prog.main.scope.names.lookup ("super" : Str)).isSome = false)
    {fI_Harm cda_Harm cc_Harm : Addr} {odI_Harm anI_Harm cdd_Harm cld_Harm : Option Addr} {slI_Harm ccs_Harm csl_Harm : Array (Option Value)} {kVI_Harm dcI_Harm pmI_Harm ctI_Harm ccl_Harm cl_Harm_ : Value} {vsI_Harm : Array Value} {flI_Harm : Str} {tfI_Harm : Tok}
    (fa_Harm : PySem.W.findIn K (.ref c_Harm) "__init__" = some (some (.ref fI_Harm)))
    (xi_Harm : excInI K c_Harm c_SkinError fI_Harm = true)
    (li_Harm : K.lookup fI_Harm = some ⟨.type "function", odI_Harm, .func (PySem.W.ksFn "__init__" "Harm.__init__" (defArgs i_Harm) (defBody i_Harm) (defScope i_Harm) .none kVI_Harm dcI_Harm pmI_Harm anI_Harm (.ref cda_Harm) ctI_Harm cc_Harm), slI_Harm⟩)
    (ci_Harm : PySem.W.codeIn K (.ref cda_Harm) "Harm.__init__" = true)
    (ld_Harm : K.lookup cda_Harm = some ⟨ccl_Harm, cdd_Harm, .fields vsI_Harm, ccs_Harm⟩)
    (vi_Harm : vsI_Harm[2]? = some (.str flI_Harm tfI_Harm))
    (fl_Harm : ((l.prog.main.file : Str) == flI_Harm) = true)
    (lc_Harm : K.lookup cc_Harm = some ⟨cl_Harm_, cld_Harm, .cell (some (.ref c_Harm)), csl_Harm⟩)
    (sa_Harm : PySem.W.findIn K (.ref c_Harm) "__setattr__" = some (some (.builtin "object.__setattr__")))
    (nf_Harm : PySem.W.findIn K (.ref c_Harm) "word" = some none)
    (al_Harm : PySem.W.alongIn K "__init__" (.ref c_SkinError :: vbm4) = some (some (.builtin "ValueError.__init__")))
    (hd_Harm : PySem.W.hasDictIn K c_Harm = true)
    : ∃ fd : FuncData, (∀ (s : Shared) (v : Value), BindsTo s fd ⟨[v], []⟩ [("script", v)]) ∧ ∀ base : Heap, K.In base → base.Ns mainGlobals mg → FnOk l.prog w K mg base CX0 8 fa fd ["script"] (spLaw K) := by
  have e := hfa.symm.trans (PySem.W.mg_of X G a33)
  cases e
  have F1 := fun_mk (st := s_check_half) l1 c1 k1
  have b1 := F1.binds (ps := ["skin", "half"]) fun _ _ _ _ _ _ us hl => match us, hl with | [_, _], _ => rfl
  have m1 := PySem.W.mg_of X G a1
  have F2 := fun_mk (st := s_check_room) l2 c2 k2
  have b2 := F2.binds (ps := ["skin", "many"]) fun _ _ _ _ _ _ us hl => match us, hl with | [_, _], _ => rfl
  have m2 := PySem.W.mg_of X G a2
  have F3 := fun_mk (st := s_without) l3 c3 k3
  have b3 := F3.binds (ps := ["onward", "mates", "taken"]) fun _ _ _ _ _ _ us hl => match us, hl with | [_, _, _], _ => rfl
  have m3 := PySem.W.mg_of X G a3
  have F4 := fun_mk (st := s_ahead_of) l4 c4 k4
  have b4 := F4.binds (ps := ["skin", "half"]) fun _ _ _ _ _ _ us hl => match us, hl with | [_, _], _ => rfl
  have m4 := PySem.W.mg_of X G a4
  have F5 := fun_mk (st := s_patch_of) l5 c5 k5
  have b5 := F5.binds (ps := ["skin", "half"]) fun _ _ _ _ _ _ us hl => match us, hl with | [_, _], _ => rfl
  have m5 := PySem.W.mg_of X G a5
  have F6 := fun_mk (st := s_cut) l6 c6 k6
  have b6 := F6.binds (ps := ["skin", "half", "other"]) fun _ _ _ _ _ _ us hl => match us, hl with | [_, _, _], _ => rfl
  have m6 := PySem.W.mg_of X G a6
  have F7 := fun_mk (st := s_joined) l7 c7 k7
  have b7 := F7.binds (ps := ["skin", "half"]) fun _ _ _ _ _ _ us hl => match us, hl with | [_, _], _ => rfl
  have m7 := PySem.W.mg_of X G a7
  have F8 := fun_mk (st := s_check_two_patches) l8 c8 k8
  have b8 := F8.binds (ps := ["skin", "half"]) fun _ _ _ _ _ _ us hl => match us, hl with | [_, _], _ => rfl
  have m8 := PySem.W.mg_of X G a8
  have F9 := fun_mk (st := s_turned) l9 c9 k9
  have b9 := F9.binds (ps := ["skin", "half"]) fun _ _ _ _ _ _ us hl => match us, hl with | [_, _], _ => rfl
  have m9 := PySem.W.mg_of X G a9
  have F10 := fun_mk (st := s_unturned) l10 c10 k10
  have b10 := F10.binds (ps := ["skin", "half"]) fun _ _ _ _ _ _ us hl => match us, hl with | [_, _], _ => rfl
  have m10 := PySem.W.mg_of X G a10
  have F11 := fun_mk (st := s_two_threes) l11 c11 k11
  have b11 := F11.binds (ps := ["skin", "half"]) fun _ _ _ _ _ _ us hl => match us, hl with | [_, _], _ => rfl
  have m11 := PySem.W.mg_of X G a11
  have F12 := fun_mk (st := s_with_threes) l12 c12 k12
  have b12 := F12.binds (ps := ["skin", "one", "other"]) fun _ _ _ _ _ _ us hl => match us, hl with | [_, _, _], _ => rfl
  have m12 := PySem.W.mg_of X G a12
  have F13 := fun_mk (st := s__law_asked) l13 c13 k13
  have b13 := F13.binds (ps := ["skin", "deed"]) fun _ _ _ _ _ _ us hl => match us, hl with | [_, _], _ => rfl
  have m13 := PySem.W.mg_of X G a13
  have F14 := fun_mk (st := sBag) l14 c14 k14
  have b14 := F14.binds (ps := ["script", "k"]) fun _ _ _ _ _ _ us hl => match us, hl with | [_, _], _ => rfl
  have m14 := PySem.W.mg_of X G a14
  have F15 := fun_mk (st := sTake) l15 c15 k15
  have b15 := F15.binds (ps := ["bag", "many"]) fun _ _ _ _ _ _ us hl => match us, hl with | [_, _], _ => rfl
  have m15 := PySem.W.mg_of X G a15
  have F16 := fun_mk (st := sSkin) l16 c16 k16
  have b16 := F16.binds (ps := ["bag", "most"]) fun _ _ _ _ _ _ us hl => match us, hl with | [_, _], _ => rfl
  have m16 := PySem.W.mg_of X G a16
  have F17 := fun_mk (st := s__law_left) l17 c17 k17
  have b17 := F17.binds (ps := ["skin", "half"]) fun _ _ _ _ _ _ us hl => match us, hl with | [_, _], _ => rfl
  have m17 := PySem.W.mg_of X G a17
  have F18 := fun_mk (st := s__law_right) l18 c18 k18
  have b18 := F18.binds (ps := ["skin", "half"]) fun _ _ _ _ _ _ us hl => match us, hl with | [_, _], _ => rfl
  have m18 := PySem.W.mg_of X G a18
  have F19 := fun_mk (st := s__law_knot) l19 c19 k19
  have b19 := F19.binds (ps := ["skin", "half"]) fun _ _ _ _ _ _ us hl => match us, hl with | [_, _], _ => rfl
  have m19 := PySem.W.mg_of X G a19
  have F20 := fun_mk (st := s__law_patch) l20 c20 k20
  have b20 := F20.binds (ps := ["skin", "half"]) fun _ _ _ _ _ _ us hl => match us, hl with | [_, _], _ => rfl
  have m20 := PySem.W.mg_of X G a20
  have F21 := fun_mk (st := s__law_rim) l21 c21 k21
  have b21 := F21.binds (ps := ["skin", "half"]) fun _ _ _ _ _ _ us hl => match us, hl with | [_, _], _ => rfl
  have m21 := PySem.W.mg_of X G a21
  have F22 := fun_mk (st := s__law_walks) l22 c22 k22
  have b22 := F22.binds (ps := ["skin", "word"]) fun _ _ _ _ _ _ us hl => match us, hl with | [_, _], _ => rfl
  have m22 := PySem.W.mg_of X G a22
  have F23 := fun_mk (st := s__law_kinds) l23 c23 k23
  have b23 := F23.binds (ps := ["e"]) fun _ _ _ _ _ _ us hl => match us, hl with | [_], _ => rfl
  have m23 := PySem.W.mg_of X G a23
  have F24 := fun_mk (st := s__law_closed) l24 c24 k24
  have b24 := F24.binds (ps := ["rows", "mates"]) fun _ _ _ _ _ _ us hl => match us, hl with | [_, _], _ => rfl
  have m24 := PySem.W.mg_of X G a24
  have F25 := fun_mk (st := s__law_rows_of) l25 c25 k25
  have b25 := F25.binds (ps := ["skin"]) fun _ _ _ _ _ _ us hl => match us, hl with | [_], _ => rfl
  have m25 := PySem.W.mg_of X G a25
  have F26 := fun_mk (st := s__law_pairs_of) l26 c26 k26
  have b26 := F26.binds (ps := ["skin"]) fun _ _ _ _ _ _ us hl => match us, hl with | [_], _ => rfl
  have m26 := PySem.W.mg_of X G a26
  have F27 := fun_mk (st := s__law_put) l27 c27 k27
  have b27 := F27.binds (ps := ["rows", "name", "new", "more"]) fun _ _ _ _ _ _ us hl => match us, hl with | [_, _, _, _], _ => rfl
  have m27 := PySem.W.mg_of X G a27
  have F28 := fun_mk (st := s__law_left_out) l28 c28 k28
  have b28 := F28.binds (ps := ["rows", "gone"]) fun _ _ _ _ _ _ us hl => match us, hl with | [_, _], _ => rfl
  have m28 := PySem.W.mg_of X G a28
  have F29 := fun_mk (st := s__law_is_rimmed) l29 c29 k29
  have b29 := F29.binds (ps := ["skin", "half"]) fun _ _ _ _ _ _ us hl => match us, hl with | [_, _], _ => rfl
  have m29 := PySem.W.mg_of X G a29
  have F30 := fun_mk (st := s__law_patch_due) l30 c30 k30
  have b30 := F30.binds (ps := ["skin", "word", "half", "other"]) fun _ _ _ _ _ _ us hl => match us, hl with | [_, _, _, _], _ => rfl
  have m30 := PySem.W.mg_of X G a30
  have F31 := fun_mk (st := s__law_due) l31 c31 k31
  have b31 := F31.binds (ps := ["skin", "deed"]) fun _ _ _ _ _ _ us hl => match us, hl with | [_, _], _ => rfl
  have m31 := PySem.W.mg_of X G a31
  have F32 := fun_mk (st := s__law_deed) l32 c32 k32
  have b32 := F32.binds (ps := ["bag", "skin", "words"]) fun _ _ _ _ _ _ us hl => match us, hl with | [_, _, _], _ => rfl
  have m32 := PySem.W.mg_of X G a32
  have F33 := fun_mk (st := sLaw) l33 c33 k33
  have B : BiX mg := ⟨⟨PySem.W.mg_none_of X G z_len, PySem.W.mg_none_of X G z_range, PySem.W.mg_none_of X G z_list, PySem.W.mg_none_of X G z_tuple, PySem.W.mg_none_of X G z_min, PySem.W.mg_none_of X G z_int, PySem.W.mg_none_of X G z_bool, PySem.W.mg_none_of X G z_isinstance, PySem.W.mg_none_of X G z_set, PySem.W.mg_none_of X G z_all, PySem.W.mg_none_of X G z_enumerate⟩, PySem.W.mg_none_of X G z_sorted, PySem.W.mg_none_of X G z_dict⟩
  have h_MOST_HALVES := PySem.W.mg_of X G a_MOST_HALVES
  let D : Nat → Addr := fun i => [c_Harm, c_NoHalf, c_NoMarks, c_NoPlain, c_NoRim, c_NoRow, c_NoSkin, c_NoText, c_NothingLeft, c_TooMany, c_Unfit, c_Unlike].getD i 0
  have M : Cls12 mg D := ⟨PySem.W.mg_of X G ac_Harm, PySem.W.mg_of X G ac_NoHalf, PySem.W.mg_of X G ac_NoMarks, PySem.W.mg_of X G ac_NoPlain, PySem.W.mg_of X G ac_NoRim, PySem.W.mg_of X G ac_NoRow, PySem.W.mg_of X G ac_NoSkin, PySem.W.mg_of X G ac_NoText, PySem.W.mg_of X G ac_NothingLeft, PySem.W.mg_of X G ac_TooMany, PySem.W.mg_of X G ac_Unfit, PySem.W.mg_of X G ac_Unlike, PySem.W.mg_none_of X G z_ValueError⟩
  have hS := PySem.W.mg_of X G ac_SkinError
  have Z_Harm : KindOf K D c_Harm (fun i => decide (i = 0)) := ⟨⟨ga_Harm, gn_Harm, cl_Harm, sp_Harm, tk_Harm, mr_Harm, by rw [hc_Harm]; rfl, be_Harm⟩, kitOne_of sb_Harm_Harm hc_Harm ht_Harm sb_Harm_Harm, kitOne_of sb_Harm_Harm hc_NoHalf ht_NoHalf sb_Harm_NoHalf, kitOne_of sb_Harm_Harm hc_NoMarks ht_NoMarks sb_Harm_NoMarks, kitOne_of sb_Harm_Harm hc_NoPlain ht_NoPlain sb_Harm_NoPlain, kitOne_of sb_Harm_Harm hc_NoRim ht_NoRim sb_Harm_NoRim, kitOne_of sb_Harm_Harm hc_NoRow ht_NoRow sb_Harm_NoRow, kitOne_of sb_Harm_Harm hc_NoSkin ht_NoSkin sb_Harm_NoSkin, kitOne_of sb_Harm_Harm hc_NoText ht_NoText sb_Harm_NoText, kitOne_of sb_Harm_Harm hc_NothingLeft ht_NothingLeft sb_Harm_NothingLeft, kitOne_of sb_Harm_Harm hc_TooMany ht_TooMany sb_Harm_TooMany, kitOne_of sb_Harm_Harm hc_Unfit ht_Unfit sb_Harm_Unfit, kitOne_of sb_Harm_Harm hc_Unlike ht_Unlike sb_Harm_Unlike, kitOne_V sv_Harm⟩
  have x_Harm := exm_of bs_SkinError hc_SkinError ht_SkinError sb_Harm_SkinError
  have g_Harm := PySem.W.mg_of X G ac_Harm
  have Z_NoHalf : KindOf K D c_NoHalf (fun i => decide (i = 1)) := ⟨⟨ga_NoHalf, gn_NoHalf, cl_NoHalf, sp_NoHalf, tk_NoHalf, mr_NoHalf, by rw [hc_NoHalf]; rfl, be_NoHalf⟩, kitOne_of sb_NoHalf_NoHalf hc_Harm ht_Harm sb_NoHalf_Harm, kitOne_of sb_NoHalf_NoHalf hc_NoHalf ht_NoHalf sb_NoHalf_NoHalf, kitOne_of sb_NoHalf_NoHalf hc_NoMarks ht_NoMarks sb_NoHalf_NoMarks, kitOne_of sb_NoHalf_NoHalf hc_NoPlain ht_NoPlain sb_NoHalf_NoPlain, kitOne_of sb_NoHalf_NoHalf hc_NoRim ht_NoRim sb_NoHalf_NoRim, kitOne_of sb_NoHalf_NoHalf hc_NoRow ht_NoRow sb_NoHalf_NoRow, kitOne_of sb_NoHalf_NoHalf hc_NoSkin ht_NoSkin sb_NoHalf_NoSkin, kitOne_of sb_NoHalf_NoHalf hc_NoText ht_NoText sb_NoHalf_NoText, kitOne_of sb_NoHalf_NoHalf hc_NothingLeft ht_NothingLeft sb_NoHalf_NothingLeft, kitOne_of sb_NoHalf_NoHalf hc_TooMany ht_TooMany sb_NoHalf_TooMany, kitOne_of sb_NoHalf_NoHalf hc_Unfit ht_Unfit sb_NoHalf_Unfit, kitOne_of sb_NoHalf_NoHalf hc_Unlike ht_Unlike sb_NoHalf_Unlike, kitOne_V sv_NoHalf⟩
  have x_NoHalf := exm_of bs_SkinError hc_SkinError ht_SkinError sb_NoHalf_SkinError
  have g_NoHalf := PySem.W.mg_of X G ac_NoHalf
  have Z_TooMany : KindOf K D c_TooMany (fun i => decide (i = 9)) := ⟨⟨ga_TooMany, gn_TooMany, cl_TooMany, sp_TooMany, tk_TooMany, mr_TooMany, by rw [hc_TooMany]; rfl, be_TooMany⟩, kitOne_of sb_TooMany_TooMany hc_Harm ht_Harm sb_TooMany_Harm, kitOne_of sb_TooMany_TooMany hc_NoHalf ht_NoHalf sb_TooMany_NoHalf, kitOne_of sb_TooMany_TooMany hc_NoMarks ht_NoMarks sb_TooMany_NoMarks, kitOne_of sb_TooMany_TooMany hc_NoPlain ht_NoPlain sb_TooMany_NoPlain, kitOne_of sb_TooMany_TooMany hc_NoRim ht_NoRim sb_TooMany_NoRim, kitOne_of sb_TooMany_TooMany hc_NoRow ht_NoRow sb_TooMany_NoRow, kitOne_of sb_TooMany_TooMany hc_NoSkin ht_NoSkin sb_TooMany_NoSkin, kitOne_of sb_TooMany_TooMany hc_NoText ht_NoText sb_TooMany_NoText, kitOne_of sb_TooMany_TooMany hc_NothingLeft ht_NothingLeft sb_TooMany_NothingLeft, kitOne_of sb_TooMany_TooMany hc_TooMany ht_TooMany sb_TooMany_TooMany, kitOne_of sb_TooMany_TooMany hc_Unfit ht_Unfit sb_TooMany_Unfit, kitOne_of sb_TooMany_TooMany hc_Unlike ht_Unlike sb_TooMany_Unlike, kitOne_V sv_TooMany⟩
  have x_TooMany := exm_of bs_SkinError hc_SkinError ht_SkinError sb_TooMany_SkinError
  have g_TooMany := PySem.W.mg_of X G ac_TooMany
  have Z_Unlike : KindOf K D c_Unlike (fun i => decide (i = 11)) := ⟨⟨ga_Unlike, gn_Unlike, cl_Unlike, sp_Unlike, tk_Unlike, mr_Unlike, by rw [hc_Unlike]; rfl, be_Unlike⟩, kitOne_of sb_Unlike_Unlike hc_Harm ht_Harm sb_Unlike_Harm, kitOne_of sb_Unlike_Unlike hc_NoHalf ht_NoHalf sb_Unlike_NoHalf, kitOne_of sb_Unlike_Unlike hc_NoMarks ht_NoMarks sb_Unlike_NoMarks, kitOne_of sb_Unlike_Unlike hc_NoPlain ht_NoPlain sb_Unlike_NoPlain, kitOne_of sb_Unlike_Unlike hc_NoRim ht_NoRim sb_Unlike_NoRim, kitOne_of sb_Unlike_Unlike hc_NoRow ht_NoRow sb_Unlike_NoRow, kitOne_of sb_Unlike_Unlike hc_NoSkin ht_NoSkin sb_Unlike_NoSkin, kitOne_of sb_Unlike_Unlike hc_NoText ht_NoText sb_Unlike_NoText, kitOne_of sb_Unlike_Unlike hc_NothingLeft ht_NothingLeft sb_Unlike_NothingLeft, kitOne_of sb_Unlike_Unlike hc_TooMany ht_TooMany sb_Unlike_TooMany, kitOne_of sb_Unlike_Unlike hc_Unfit ht_Unfit sb_Unlike_Unfit, kitOne_of sb_Unlike_Unlike hc_Unlike ht_Unlike sb_Unlike_Unlike, kitOne_V sv_Unlike⟩
  have x_Unlike := exm_of bs_SkinError hc_SkinError ht_SkinError sb_Unlike_SkinError
  have g_Unlike := PySem.W.mg_of X G ac_Unlike
  have i_Harm : InitE l.prog K c_Harm c_SkinError fI_Harm "word" "word" (initPts i_Harm) (initTp i_Harm) := ⟨xi_Harm, sa_Harm, nf_Harm, al_Harm, opq, sup, tsu, "Harm.__init__", defArgs i_Harm, defBody i_Harm, defScope i_Harm, .none, kVI_Harm, dcI_Harm, pmI_Harm, ctI_Harm, anI_Harm, odI_Harm, slI_Harm, cda_Harm, cc_Harm, vsI_Harm, flI_Harm, tfI_Harm, ccl_Harm, cl_Harm_, cdd_Harm, cld_Harm, ccs_Harm, csl_Harm, _, li_Harm, ci_Harm, ⟨_, _, _, _, _, _, _, _, _, rfl, rfl⟩, rfl, rfl, ld_Harm, vi_Harm, fl_Harm, lc_Harm, rfl, rfl, rfl, rfl, rfl, rfl, rfl, by decide +kernel, fun _ _ => rfl⟩
  refine ⟨PySem.W.fnOf "law" "law" (defArgs sLaw) (defBody sLaw) (defScope sLaw) .none kV33 dc33 pm33 an33 cd33 ct33, fun s v => .of_eq rfl, fun base _ _ => ?_⟩
  let C : CsA := ⟨c_NoHalf, c_TooMany, c_NoRim, c_Unlike, c_Harm⟩
  have xHH := exm_ofB be_Harm hc_Harm ht_Harm sb_Harm_Harm
  have xNH := exm_ofB be_Harm hc_Harm ht_Harm sb_NoHalf_Harm
  have xTH := exm_ofB be_Harm hc_Harm ht_Harm sb_TooMany_Harm
  have xUH := exm_ofB be_Harm hc_Harm ht_Harm sb_Unlike_Harm
  have FT : Fn l.prog w K mg base _ _ _ _ := fn_of F15 (ok_take F15) b15 m15
  have FG : Fn l.prog w K mg base _ _ _ _ := fn_of F14 (ok_bag B.toBi F14) b14 m14
  have FS : Fn l.prog w K mg base _ _ _ _ := fn_of F16 (ok_skin B.toBi FT F16) b16 m16
  have FK := ok_kinds B.toBi M (P := l.prog) (w := w) (base := base) F23 b23 m23
  have FC : FnX l.prog w K mg base _ _ _ _ := fnx_of F1 (ok_check B.toBi ow_NoHalf g_NoHalf F1) b1 m1
  have FRm : FnX l.prog w K mg base _ _ _ _ := fnx_of F2 (ok_room (C := C) B.toBi ow_TooMany g_TooMany h_MOST_HALVES F2) b2 m2
  have FWo : Fn l.prog w K mg base _ _ _ _ := fn_of F3 (ok_without B.toBi F3) b3 m3
  have FAh : FnX l.prog w K mg base _ _ _ _ := fnx_of F4 (ok_ahead_of B.toBi FC F4) b4 m4
  have FPa : FnX l.prog w K mg base _ _ _ _ := fnx_of F5 (ok_patch_of B.toBi FC F5) b5 m5
  have FTw : FnX l.prog w K mg base _ _ _ _ := fnx_of F8 (ok_two (C := C) B.toBi i_Harm g_Harm kp_Harm FC FPa F8) b8 m8
  have G_cut : FnX l.prog w K mg base _ _ _ _ := fnx_of F6 (ok_cut (C := C) B.toBi ow_Unlike g_Unlike FC FRm FPa FAh F6) b6 m6
  have G_join : FnX l.prog w K mg base _ _ _ _ := fnx_of F7 (ok_joined (C := C) B.toBi i_Harm g_Harm kp_Harm FTw FWo F7) b7 m7
  have F3t : FnX l.prog w K mg base _ _ _ _ := fnx_of F11 (ok_threes (C := C) true B.toBi i_Harm g_Harm kp_Harm FPa FTw F11) b11 m11
  have FW : Fn l.prog w K mg base _ _ _ _ := fn_of F12 (ok_with B.toBi F12) b12 m12
  have G_turn : FnX l.prog w K mg base _ _ _ _ := fnx_of F9 (ok_turned (C := C) B.toBi F3t FW F9) b9 m9
  have F3u : FnX l.prog w K mg base _ _ _ _ := fnx_of F11 (ok_threes (C := C) false B.toBi i_Harm g_Harm kp_Harm FPa FTw F11) b11 m11
  have G_unturn : FnX l.prog w K mg base _ _ _ _ := fnx_of F10 (ok_unturned (C := C) B.toBi F3u FW F10) b10 m10
  have FL : Fn l.prog w K mg base _ _ _ _ := fn_of F17 (ok_lleft B.toBi F17) b17 m17
  have FR : Fn l.prog w K mg base _ _ _ _ := fn_of F18 (ok_lright B.toBi F18) b18 m18
  have FLP : Fn l.prog w K mg base _ _ _ _ := fn_of F20 (ok_lpatch B.toBi F20) b20 m20
  have FLK : Fn l.prog w K mg base _ _ _ _ := fn_of F19 (ok_lknot B.toBi FL FR F19) b19 m19
  have FLR : Fn l.prog w K mg base _ _ _ _ := fn_of F21 (ok_lrim B.toBi FLK F21) b21 m21
  have FLW : Fn l.prog w K mg base _ _ _ _ := fn_of F22 (ok_lwalks B.toD.toBiW FLP FLK FLR F22) b22 m22
  have FRo : Fn l.prog w K mg base _ _ _ _ := fn_of F25 (ok_rowsOf B.toD FLW F25) b25 m25
  have FPo : Fn l.prog w K mg base _ _ _ _ := fn_of F26 (ok_pairsOf B.toD F26) b26 m26
  have FPu : Fn l.prog w K mg base _ _ _ _ := fn_of F27 (ok_put B.toBi F27) b27 m27
  have FIr : Fn l.prog w K mg base _ _ _ _ := fn_of F29 (ok_rimmed B.toBi FLK F29) b29 m29
  have FLo : Fn l.prog w K mg base _ _ _ _ := fn_of F28 (ok_leftO B.toBi F28) b28 m28
  have FCl : Fn l.prog w K mg base _ _ _ _ := fn_of F24 (ok_closed B.toD F24) b24 m24
  have F_patch : Fn l.prog w K mg base _ _ _ _ := fn_of F30 (ok_patchDue B.toD FRo FPo FLP FCl F30) b30 m30
  have FDe : Fn l.prog w K mg base _ _ _ _ := fn_of F32 (ok_ldeed B.toBi FT FLP FLK F32) b32 m32
  have FDu : Fn l.prog w K mg base _ _ _ _ := fn_of F31 (ok_due B.toBi F_patch F31) b31 m31
  have FAs : Fn l.prog w K mg base _ _ _ _ := fn_of F13 (ok_asked (C := C) B.toBi i_Harm g_Harm hS hd_Harm Z_Harm xHH Z_NoHalf xNH x_NoHalf Z_TooMany xTH x_TooMany Z_Unlike xUH x_Unlike FK G_cut G_join G_turn G_unturn F13) b13 m13
  exact ok_law B.toBi FT FG FS FDe FDu FAs F33
theorem walk {l : PySem.W.OpenLaw} {q : Program} {loose : List Str} {XP : (Str → Option Value) → Heap → Prop} {YP : World → Heap → Prop} {d : DefRec} {K : Params → PySem.W.Frag} (hn : l.most = some 63) (hdf : d.params.defaults = [])
    (hY : ∀ (w : World) (h : Heap), YP w h → (K w.params).In h)
    (F : ∀ (w : World) (mg : Str → Option Value) (fa : Addr) (h : Heap), (K w.params).In h → h.Ns mainGlobals mg → mg d.name = some (.ref fa) →
      ∃ fd : FuncData, (∀ (s : Shared) (u : Value), BindsTo s fd ⟨[u], []⟩ [("script", u)]) ∧ ∀ base : Heap, (K w.params).In base → base.Ns mainGlobals mg → FnOk l.prog w (K w.params) mg base CX0 8 fa fd ["script"] (spLaw (K w.params))) :
    PySem.W.WalkO q loose XP YP l.row.toRowW d [] (fun f vs => PySem.call f vs) :=
  L2.walk_of (n := 63) (k := 8) (x := "script") (CX := fun _ => CX0) (sp := fun w => spLaw (K w.params)) hn (by decide) hdf ⟨rfl, by decide, by decide⟩ hY F (fun _ _ a ns hl _ hS => ⟨a, ns, rfl, hS, hl, fun _ => rfl⟩) fun _ _ _ _ _ z => z
end Hs
open PySem PySem.W PyProof.Rows
set_option maxRecDepth 100000 in
set_option maxHeartbeats 0 in
theorem PySem.Challenge.cw_halfseams_k12_patches_cut_and_joined_holds : PySem.Challenge.rw_halfseams_k12_patches_cut_and_joined.Holds := by
  w_on; o_law; k_head; (case hw => w_witness2)
  k_fill
  refine Hs.walk (l := PySem.Challenge.rw_halfseams_k12_patches_cut_and_joined) rfl rfl (fun w h Y => PySem.W.kIn_of Y) ?F
  case F =>
    intro w mg fa h KX G hmg
    refine' Hs.all_mk KX G hmg ?a1 ?l1 ?c1 ?k1 ?a2 ?l2 ?c2 ?k2 ?a3 ?l3 ?c3 ?k3 ?a4 ?l4 ?c4 ?k4 ?a5 ?l5 ?c5 ?k5 ?a6 ?l6 ?c6 ?k6 ?a7 ?l7 ?c7 ?k7 ?a8 ?l8 ?c8 ?k8 ?a9 ?l9 ?c9 ?k9 ?a10 ?l10 ?c10 ?k10 ?a11 ?l11 ?c11 ?k11 ?a12 ?l12 ?c12 ?k12 ?a13 ?l13 ?c13 ?k13 ?a14 ?l14 ?c14 ?k14 ?a15 ?l15 ?c15 ?k15 ?a16 ?l16 ?c16 ?k16 ?a17 ?l17 ?c17 ?k17 ?a18 ?l18 ?c18 ?k18 ?a19 ?l19 ?c19 ?k19 ?a20 ?l20 ?c20 ?k20 ?a21 ?l21 ?c21 ?k21 ?a22 ?l22 ?c22 ?k22 ?a23 ?l23 ?c23 ?k23 ?a24 ?l24 ?c24 ?k24 ?a25 ?l25 ?c25 ?k25 ?a26 ?l26 ?c26 ?k26 ?a27 ?l27 ?c27 ?k27 ?a28 ?l28 ?c28 ?k28 ?a29 ?l29 ?c29 ?k29 ?a30 ?l30 ?c30 ?k30 ?a31 ?l31 ?c31 ?k31 ?a32 ?l32 ?c32 ?k32 ?a33 ?l33 ?c33 ?k33 ?a_MOST_HALVES ?z_len ?z_range ?z_list ?z_tuple ?z_min ?z_int ?z_bool ?z_isinstance ?z_set ?z_all ?z_enumerate ?z_sorted ?z_dict ?z_ValueError ?ac_Harm ?hc_Harm ?ht_Harm ?ac_NoHalf ?hc_NoHalf ?ht_NoHalf ?ac_NoMarks ?hc_NoMarks ?ht_NoMarks ?ac_NoPlain ?hc_NoPlain ?ht_NoPlain ?ac_NoRim ?hc_NoRim ?ht_NoRim ?ac_NoRow ?hc_NoRow ?ht_NoRow ?ac_NoSkin ?hc_NoSkin ?ht_NoSkin ?ac_NoText ?hc_NoText ?ht_NoText ?ac_NothingLeft ?hc_NothingLeft ?ht_NothingLeft ?ac_TooMany ?hc_TooMany ?ht_TooMany ?ac_Unfit ?hc_Unfit ?ht_Unfit ?ac_Unlike ?hc_Unlike ?ht_Unlike ?ac_SkinError ?hc_SkinError ?ht_SkinError ?bs_SkinError ?sb_Harm_Harm ?sb_Harm_NoHalf ?sb_Harm_NoMarks ?sb_Harm_NoPlain ?sb_Harm_NoRim ?sb_Harm_NoRow ?sb_Harm_NoSkin ?sb_Harm_NoText ?sb_Harm_NothingLeft ?sb_Harm_TooMany ?sb_Harm_Unfit ?sb_Harm_Unlike ?sb_Harm_SkinError ?sv_Harm ?be_Harm ?ga_Harm ?gn_Harm ?cl_Harm ?sp_Harm ?tk_Harm ?mr_Harm ?sb_NoHalf_Harm ?sb_NoHalf_NoHalf ?sb_NoHalf_NoMarks ?sb_NoHalf_NoPlain ?sb_NoHalf_NoRim ?sb_NoHalf_NoRow ?sb_NoHalf_NoSkin ?sb_NoHalf_NoText ?sb_NoHalf_NothingLeft ?sb_NoHalf_TooMany ?sb_NoHalf_Unfit ?sb_NoHalf_Unlike ?sb_NoHalf_SkinError ?sv_NoHalf ?be_NoHalf ?ga_NoHalf ?gn_NoHalf ?cl_NoHalf ?sp_NoHalf ?tk_NoHalf ?mr_NoHalf ?ow_NoHalf ?sb_TooMany_Harm ?sb_TooMany_NoHalf ?sb_TooMany_NoMarks ?sb_TooMany_NoPlain ?sb_TooMany_NoRim ?sb_TooMany_NoRow ?sb_TooMany_NoSkin ?sb_TooMany_NoText ?sb_TooMany_NothingLeft ?sb_TooMany_TooMany ?sb_TooMany_Unfit ?sb_TooMany_Unlike ?sb_TooMany_SkinError ?sv_TooMany ?be_TooMany ?ga_TooMany ?gn_TooMany ?cl_TooMany ?sp_TooMany ?tk_TooMany ?mr_TooMany ?ow_TooMany ?sb_Unlike_Harm ?sb_Unlike_NoHalf ?sb_Unlike_NoMarks ?sb_Unlike_NoPlain ?sb_Unlike_NoRim ?sb_Unlike_NoRow ?sb_Unlike_NoSkin ?sb_Unlike_NoText ?sb_Unlike_NothingLeft ?sb_Unlike_TooMany ?sb_Unlike_Unfit ?sb_Unlike_Unlike ?sb_Unlike_SkinError ?sv_Unlike ?be_Unlike ?ga_Unlike ?gn_Unlike ?cl_Unlike ?sp_Unlike ?tk_Unlike ?mr_Unlike ?ow_Unlike ?kp_Harm ?kp_NoHalf ?kp_TooMany ?kp_Unlike ?opq ?sup ?tsu ?fa_Harm ?xi_Harm ?li_Harm ?ci_Harm ?ld_Harm ?vi_Harm ?fl_Harm ?lc_Harm ?sa_Harm ?nf_Harm ?al_Harm ?hd_Harm
    (case a1 => k_is)
    (case l1 => k_is)
    (case c1 => k_is)
    (case k1 => k_is)
    (case a2 => k_is)
    (case l2 => k_is)
    (case c2 => k_is)
    (case k2 => k_is)
    (case a3 => k_is)
    (case l3 => k_is)
    (case c3 => k_is)
    (case k3 => k_is)
    (case a4 => k_is)
    (case l4 => k_is)
    (case c4 => k_is)
    (case k4 => k_is)
    (case a5 => k_is)
    (case l5 => k_is)
    (case c5 => k_is)
    (case k5 => k_is)
    (case a6 => k_is)
    (case l6 => k_is)
    (case c6 => k_is)
    (case k6 => k_is)
    (case a7 => k_is)
    (case l7 => k_is)
    (case c7 => k_is)
    (case k7 => k_is)
    (case a8 => k_is)
    (case l8 => k_is)
    (case c8 => k_is)
    (case k8 => k_is)
    (case a9 => k_is)
    (case l9 => k_is)
    (case c9 => k_is)
    (case k9 => k_is)
    (case a10 => k_is)
    (case l10 => k_is)
    (case c10 => k_is)
    (case k10 => k_is)
    (case a11 => k_is)
    (case l11 => k_is)
    (case c11 => k_is)
    (case k11 => k_is)
    (case a12 => k_is)
    (case l12 => k_is)
    (case c12 => k_is)
    (case k12 => k_is)
    (case a13 => k_is)
    (case l13 => k_is)
    (case c13 => k_is)
    (case k13 => k_is)
    (case a14 => k_is)
    (case l14 => k_is)
    (case c14 => k_is)
    (case k14 => k_is)
    (case a15 => k_is)
    (case l15 => k_is)
    (case c15 => k_is)
    (case k15 => k_is)
    (case a16 => k_is)
    (case l16 => k_is)
    (case c16 => k_is)
    (case k16 => k_is)
    (case a17 => k_is)
    (case l17 => k_is)
    (case c17 => k_is)
    (case k17 => k_is)
    (case a18 => k_is)
    (case l18 => k_is)
    (case c18 => k_is)
    (case k18 => k_is)
    (case a19 => k_is)
    (case l19 => k_is)
    (case c19 => k_is)
    (case k19 => k_is)
    (case a20 => k_is)
    (case l20 => k_is)
    (case c20 => k_is)
    (case k20 => k_is)
    (case a21 => k_is)
    (case l21 => k_is)
    (case c21 => k_is)
    (case k21 => k_is)
    (case a22 => k_is)
    (case l22 => k_is)
    (case c22 => k_is)
    (case k22 => k_is)
    (case a23 => k_is)
    (case l23 => k_is)
    (case c23 => k_is)
    (case k23 => k_is)
    (case a24 => k_is)
    (case l24 => k_is)
    (case c24 => k_is)
    (case k24 => k_is)
    (case a25 => k_is)
    (case l25 => k_is)
    (case c25 => k_is)
    (case k25 => k_is)
    (case a26 => k_is)
    (case l26 => k_is)
    (case c26 => k_is)
    (case k26 => k_is)
    (case a27 => k_is)
    (case l27 => k_is)
    (case c27 => k_is)
    (case k27 => k_is)
    (case a28 => k_is)
    (case l28 => k_is)
    (case c28 => k_is)
    (case k28 => k_is)
    (case a29 => k_is)
    (case l29 => k_is)
    (case c29 => k_is)
    (case k29 => k_is)
    (case a30 => k_is)
    (case l30 => k_is)
    (case c30 => k_is)
    (case k30 => k_is)
    (case a31 => k_is)
    (case l31 => k_is)
    (case c31 => k_is)
    (case k31 => k_is)
    (case a32 => k_is)
    (case l32 => k_is)
    (case c32 => k_is)
    (case k32 => k_is)
    (case a33 => k_is)
    (case l33 => k_is)
    (case c33 => k_is)
    (case k33 => k_is)
    (case a_MOST_HALVES => k_is)
    (case z_len => k_is)
    (case z_range => k_is)
    (case z_list => k_is)
    (case z_tuple => k_is)
    (case z_min => k_is)
    (case z_int => k_is)
    (case z_bool => k_is)
    (case z_isinstance => k_is)
    (case z_set => k_is)
    (case z_all => k_is)
    (case z_enumerate => k_is)
    (case z_sorted => k_is)
    (case z_dict => k_is)
    (case z_ValueError => k_is)
    (case ac_Harm => k_is)
    (case hc_Harm => k_is)
    (case ht_Harm => k_is)
    (case ac_NoHalf => k_is)
    (case hc_NoHalf => k_is)
    (case ht_NoHalf => k_is)
    (case ac_NoMarks => k_is)
    (case hc_NoMarks => k_is)
    (case ht_NoMarks => k_is)
    (case ac_NoPlain => k_is)
    (case hc_NoPlain => k_is)
    (case ht_NoPlain => k_is)
    (case ac_NoRim => k_is)
    (case hc_NoRim => k_is)
    (case ht_NoRim => k_is)
    (case ac_NoRow => k_is)
    (case hc_NoRow => k_is)
    (case ht_NoRow => k_is)
    (case ac_NoSkin => k_is)
    (case hc_NoSkin => k_is)
    (case ht_NoSkin => k_is)
    (case ac_NoText => k_is)
    (case hc_NoText => k_is)
    (case ht_NoText => k_is)
    (case ac_NothingLeft => k_is)
    (case hc_NothingLeft => k_is)
    (case ht_NothingLeft => k_is)
    (case ac_TooMany => k_is)
    (case hc_TooMany => k_is)
    (case ht_TooMany => k_is)
    (case ac_Unfit => k_is)
    (case hc_Unfit => k_is)
    (case ht_Unfit => k_is)
    (case ac_Unlike => k_is)
    (case hc_Unlike => k_is)
    (case ht_Unlike => k_is)
    (case ac_SkinError => k_is)
    (case hc_SkinError => k_is)
    (case ht_SkinError => k_is)
    (case bs_SkinError => k_is)
    (case sb_Harm_Harm => k_is)
    (case sb_Harm_NoHalf => k_is)
    (case sb_Harm_NoMarks => k_is)
    (case sb_Harm_NoPlain => k_is)
    (case sb_Harm_NoRim => k_is)
    (case sb_Harm_NoRow => k_is)
    (case sb_Harm_NoSkin => k_is)
    (case sb_Harm_NoText => k_is)
    (case sb_Harm_NothingLeft => k_is)
    (case sb_Harm_TooMany => k_is)
    (case sb_Harm_Unfit => k_is)
    (case sb_Harm_Unlike => k_is)
    (case sb_Harm_SkinError => k_is)
    (case sv_Harm => k_is)
    (case be_Harm => k_is)
    (case ga_Harm => k_is)
    (case gn_Harm => k_is)
    (case cl_Harm => k_is)
    (case sp_Harm => k_is)
    (case tk_Harm => k_is)
    (case mr_Harm => k_is)
    (case sb_NoHalf_Harm => k_is)
    (case sb_NoHalf_NoHalf => k_is)
    (case sb_NoHalf_NoMarks => k_is)
    (case sb_NoHalf_NoPlain => k_is)
    (case sb_NoHalf_NoRim => k_is)
    (case sb_NoHalf_NoRow => k_is)
    (case sb_NoHalf_NoSkin => k_is)
    (case sb_NoHalf_NoText => k_is)
    (case sb_NoHalf_NothingLeft => k_is)
    (case sb_NoHalf_TooMany => k_is)
    (case sb_NoHalf_Unfit => k_is)
    (case sb_NoHalf_Unlike => k_is)
    (case sb_NoHalf_SkinError => k_is)
    (case sv_NoHalf => k_is)
    (case be_NoHalf => k_is)
    (case ga_NoHalf => k_is)
    (case gn_NoHalf => k_is)
    (case cl_NoHalf => k_is)
    (case sp_NoHalf => k_is)
    (case tk_NoHalf => k_is)
    (case mr_NoHalf => k_is)
    (case ow_NoHalf => k_exc)
    (case sb_TooMany_Harm => k_is)
    (case sb_TooMany_NoHalf => k_is)
    (case sb_TooMany_NoMarks => k_is)
    (case sb_TooMany_NoPlain => k_is)
    (case sb_TooMany_NoRim => k_is)
    (case sb_TooMany_NoRow => k_is)
    (case sb_TooMany_NoSkin => k_is)
    (case sb_TooMany_NoText => k_is)
    (case sb_TooMany_NothingLeft => k_is)
    (case sb_TooMany_TooMany => k_is)
    (case sb_TooMany_Unfit => k_is)
    (case sb_TooMany_Unlike => k_is)
    (case sb_TooMany_SkinError => k_is)
    (case sv_TooMany => k_is)
    (case be_TooMany => k_is)
    (case ga_TooMany => k_is)
    (case gn_TooMany => k_is)
    (case cl_TooMany => k_is)
    (case sp_TooMany => k_is)
    (case tk_TooMany => k_is)
    (case mr_TooMany => k_is)
    (case ow_TooMany => k_exc)
    (case sb_Unlike_Harm => k_is)
    (case sb_Unlike_NoHalf => k_is)
    (case sb_Unlike_NoMarks => k_is)
    (case sb_Unlike_NoPlain => k_is)
    (case sb_Unlike_NoRim => k_is)
    (case sb_Unlike_NoRow => k_is)
    (case sb_Unlike_NoSkin => k_is)
    (case sb_Unlike_NoText => k_is)
    (case sb_Unlike_NothingLeft => k_is)
    (case sb_Unlike_TooMany => k_is)
    (case sb_Unlike_Unfit => k_is)
    (case sb_Unlike_Unlike => k_is)
    (case sb_Unlike_SkinError => k_is)
    (case sv_Unlike => k_is)
    (case be_Unlike => k_is)
    (case ga_Unlike => k_is)
    (case gn_Unlike => k_is)
    (case cl_Unlike => k_is)
    (case sp_Unlike => k_is)
    (case tk_Unlike => k_is)
    (case mr_Unlike => k_is)
    (case ow_Unlike => k_exc)
    (case kp_Harm => k_is)
    (case kp_NoHalf => k_is)
    (case kp_TooMany => k_is)
    (case kp_Unlike => k_is)
    (case opq => k_is)
    (case sup => k_is)
    (case tsu => first | rfl | decide +kernel)
    (case fa_Harm => k_is)
    (case xi_Harm => kernel_rfl)
    (case li_Harm => k_is)
    (case ci_Harm => k_is)
    (case ld_Harm => k_is)
    (case vi_Harm => rfl)
    (case fl_Harm => first | rfl | decide +kernel | kernel_rfl)
    (case lc_Harm => k_is)
    (case sa_Harm => k_is)
    (case nf_Harm => k_is)
    (case al_Harm => kernel_rfl)
    (case hd_Harm => k_is)
