import PyProof.Rows.All
import Wide.All
import OpenK.AllK
import Wide.FinOn
import PyProof.EqAt
import PyProof.EqKinds
import PyProof.TupleCall
import KE.BitLaws
import PyProof.IsiPairs
import PyProof.IsiNone
import PyProof.IsiSeqPairs
import PyProof.SetRoads
import PyProof.SetNew
import PyProof.Rows.SetObj
import PyProof.ListRange
import PyProof.Draws
import PyProof.EnumMake
import PyProof.WalksMore
import PyProof.ListMulRoad
import PyProof.Rows.SeqMore
import PyProof.FactsAll.tuple
import PyProof.IsiHeapPairs
import KE.KTryMore
import KE.KIsAll
import KE.KSuper
import PyProof.ExcInit
import PyProof.ExcClass2
import PyProof.InstStoreFacts
import KE.KFromBytes
import PyProof.Rows.StrMul
import PyProof.CollectIter
import KE.KLam
import PyProof.P3Eq
import PyProof.Rows.SortShellAny
import PyProof.SetScanFacts
import PyProof.Rows.SetFrom
import KE.KSetDisp
import KE.KStar
import PyProof.DictUpdate
import KE.IntTextLaws
import KE.KIntText
import PySem.Challenge.RW_halfseams_k44_deeds_as_texts
set_option Elab.async false
set_option linter.all false
set_option maxRecDepth 100000
namespace L2
open PySem PySem.Spec PyProof.Rows
abbrev Key := Sum Int (Option Str)
def keyIs : Key → Value → Bool
  | .inl k, v => Value.isInt k v
  | .inr (some x), v => Value.isStrOf x v
  | .inr none, .none => true
  | .inr none, _ => false
def keyH (w : World) : Key → Int
  | .inl k => hashInt k
  | .inr (some x) => hashStr w x
  | .inr none => 0xFCA86420
theorem keyIs_shape : ∀ {k : Key} {v : Value}, keyIs k v = true → (∃ i t, k = Sum.inl i ∧ v = Value.int i t) ∨ (∃ x t, k = Sum.inr (some x) ∧ v = Value.str x t) ∨ (k = Sum.inr none ∧ v = Value.none)
  | .inl i, v, h => by
    obtain ⟨t, e⟩ := Value.isInt_shape (k := i) (v := v) h
    exact .inl ⟨i, t, rfl, e⟩
  | .inr (some x), v, h => by
    obtain ⟨t, e⟩ := Value.isStrOf_shape (x := x) (v := v) h
    exact .inr (.inl ⟨x, t, rfl, e⟩)
  | .inr none, v, h => by
    cases v with
    | none => exact .inr (.inr ⟨rfl, rfl⟩)
    | _ => cases h
theorem keyIs_int (i : Int) (t : Tok) : keyIs (.inl i) (.int i t) = true := by simp [keyIs, Value.isInt]
theorem keyIs_str (x : Str) (t : Tok) : keyIs (.inr (some x)) (.str x t) = true := by simp [keyIs, Value.isStrOf]
theorem key_ll (a b : Int) : decide ((Sum.inl a : Key) = Sum.inl b) = (a == b) := by
  by_cases e : a = b
  · subst e; simp
  · have h : ¬ (Sum.inl a : Key) = Sum.inl b := fun q => e (Sum.inl.inj q)
    rw [decide_eq_false h]
    exact (beq_eq_false_iff_ne.mpr e).symm
theorem key_rr (a b : Str) : decide ((Sum.inr (some a) : Key) = Sum.inr (some b)) = decide (a = b) := by
  by_cases e : a = b
  · subst e; simp
  · have h : ¬ (Sum.inr (some a) : Key) = Sum.inr (some b) := fun q => e (Option.some.inj (Sum.inr.inj q))
    rw [decide_eq_false h, decide_eq_false e]
theorem key_lr (a : Int) (b : Option Str) : decide ((Sum.inl a : Key) = Sum.inr b) = false := decide_eq_false (fun q => nomatch q)
theorem key_rl (a : Option Str) (b : Int) : decide ((Sum.inr a : Key) = Sum.inl b) = false := decide_eq_false (fun q => nomatch q)
theorem key_ns (b : Str) : decide ((Sum.inr none : Key) = Sum.inr (some b)) = false := decide_eq_false (fun q => nomatch (Sum.inr.inj q))
theorem key_sn (b : Str) : decide ((Sum.inr (some b) : Key) = Sum.inr none) = false := decide_eq_false (fun q => nomatch (Sum.inr.inj q))
theorem key_nn : decide ((Sum.inr none : Key) = Sum.inr none) = true := decide_eq_true rfl
theorem wpAny_pyHash_none {prog : Program} {w : World} {A : Around} {E : Value → Shared → Prop} {s : Shared} {Q : Int → Shared → Prop} (h : Q 0xFCA86420 { s with toks := s.toks + 1 }) :
    wpAny (model prog w) A (pyHash .none) Q E s := by
  have hT : s.TypeIs .none "NoneType" := rfl
  unfold pyHash
  have hv : [Value.none].any Value.onHeap = false := rfl
  refine wpAny_bind ?_
  rw [cRoomFor, if_neg (by rw [hv]; exact Bool.false_ne_true)]; refine wpAny_pure ?_
  refine wpAny_bind (wpAny_specialOf hT F.slot_NoneType_hash.lookup ?_)
  show wpAny _ _ (if (some (Value.builtin "NoneType.__hash__") == some Value.none) = true then _ else _) Q E s
  rw [if_neg (by rw [beq_builtin_none]; exact Bool.false_ne_true)]
  refine wpAny_bind (wpAny_specialOf hT F.slot_NoneType_hash.lookup ?_)
  show wpAny _ _ (callSpecialIfBoundUnlessNone? .none "__hash__" _ >>= _) Q E s
  refine wpAny_bind (wpAny_callSpecialIfBoundUnlessNone?_slot hT F.slot_NoneType_hash
    (wpAny_call_entry F.slot_NoneType_hash hT F.entry_NoneType_hash
      (show wpAny _ _ (do ret (← mkInt 0xFCA86420)) _ _ s from wpAny_ret_mkInt ?_) (F.args_NoneType_hash_1 _)))
  show wpAny _ _ (if (decide (-(2 : Int) ^ 63 ≤ 0xFCA86420) && decide ((0xFCA86420 : Int) < 2 ^ 63)) = true then _ else _) Q E _
  rw [if_pos (by decide)]
  exact wpAny_pure h
def mixKind (prog : Program) (w : World) : PySem.KeyKind prog w Key where
  is := keyIs
  hash := keyH w
  inj := fun v a b ha hb => by
    rcases keyIs_shape ha with ⟨i, t, rfl, rfl⟩ | ⟨x, t, rfl, rfl⟩ | ⟨rfl, rfl⟩
    · rcases keyIs_shape hb with ⟨j, u, rfl, e⟩ | ⟨y, u, rfl, e⟩ | ⟨rfl, e⟩
      · injection e with e1 _; rw [e1]
      · exact nomatch e
      · exact nomatch e
    · rcases keyIs_shape hb with ⟨j, u, rfl, e⟩ | ⟨y, u, rfl, e⟩ | ⟨rfl, e⟩
      · exact nomatch e
      · injection e with e1 _; rw [e1]
      · exact nomatch e
    · rcases keyIs_shape hb with ⟨j, u, rfl, e⟩ | ⟨y, u, rfl, e⟩ | ⟨rfl, e⟩
      · exact nomatch e
      · exact nomatch e
      · rfl
  byValue := fun k v h => by
    rcases keyIs_shape h with ⟨i, t, rfl, rfl⟩ | ⟨x, t, rfl, rfl⟩ | ⟨rfl, rfl⟩ <;> rfl
  pyHash := fun hv h => by
    rcases keyIs_shape hv with ⟨i, t, rfl, rfl⟩ | ⟨x, t, rfl, rfl⟩ | ⟨rfl, rfl⟩
    · exact wpAny_pyHash_int h
    · exact wpAny_pyHash_str h
    · exact wpAny_pyHash_none h
  eqBool := fun hu hv h => by
    rcases keyIs_shape hu with ⟨i, t, rfl, rfl⟩ | ⟨x, t, rfl, rfl⟩ | ⟨rfl, rfl⟩
    · rcases keyIs_shape hv with ⟨j, u, rfl, rfl⟩ | ⟨y, u, rfl, rfl⟩ | ⟨rfl, rfl⟩
      · rw [key_ll] at h; exact wpAny_eqBool_int h
      · rw [key_lr] at h; exact SeqAt.EqAt.int_str i t y u _ _ _ _ h
      · rw [key_lr] at h; exact SeqAt.EqAt.int_none i t _ _ _ _ h
    · rcases keyIs_shape hv with ⟨j, u, rfl, rfl⟩ | ⟨y, u, rfl, rfl⟩ | ⟨rfl, rfl⟩
      · rw [key_rl] at h; exact SeqAt.EqAt.str_int x t j u _ _ _ _ h
      · rw [key_rr] at h; exact wpAny_eqBool_str h
      · rw [key_sn] at h; exact SeqAt.EqAt.str_none x t _ _ _ _ h
    · rcases keyIs_shape hv with ⟨j, u, rfl, rfl⟩ | ⟨y, u, rfl, rfl⟩ | ⟨rfl, rfl⟩
      · rw [key_rl] at h; exact SeqAt.EqAt.none_int j u _ _ _ _ h
      · rw [key_ns] at h; exact SeqAt.EqAt.none_str y u _ _ _ _ h
      · rw [key_nn] at h; exact SeqAt.EqAt.same .none _ _ _ _ h
  «strs» := fun k x t v h => by
    rcases keyIs_shape h with ⟨i, u, rfl, e⟩ | ⟨y, u, rfl, e⟩ | ⟨rfl, e⟩
    · exact nomatch e
    · injection e with e1 _
      subst e1
      cases v <;> rfl
    · exact nomatch e
theorem mixKind_int (prog : Program) (w : World) (i : Int) (t : Tok) : (mixKind prog w).is (.inl i) (.int i t) = true := keyIs_int i t
theorem mixKind_str (prog : Program) (w : World) (x : Str) (t : Tok) : (mixKind prog w).is (.inr (some x)) (.str x t) = true := keyIs_str x t
end L2
namespace L2
open PySem PySem.Spec PyProof.Rows
inductive V where
  | non | bl (b : Bool) | int (i : Int) | str (x : Str) | byt (b : Array UInt8) | flt (b : UInt64) | ref (a : Addr) | ty (n : String)
  deriving DecidableEq
def RelV : V → Value → Prop
  | .non, u => u = Value.none
  | .bl b, u => u = Value.bool b
  | .int i, u => ∃ t, u = Value.int i t
  | .str x, u => ∃ t, u = Value.str x t
  | .byt b, u => ∃ t, u = Value.bytes b t
  | .flt b, u => ∃ t, u = Value.float b t
  | .ref a, u => u = Value.ref a
  | .ty n, u => u = Value.type n
abbrev Vals : List V → List Value → Prop := Paired RelV
theorem Vals.length {xs : List V} {us : List Value} (r : Vals xs us) : xs.length = us.length := Paired.length r
theorem Vals.get : ∀ {xs : List V} {us : List Value} {i : Nat} {x : V}, Vals xs us → xs[i]? = some x → ∃ u, us[i]? = some u ∧ RelV x u
  | _, _, _, _, .nil, e => by simp at e
  | _, _, 0, _, .cons r _, e => by simp at e; subst e; exact ⟨_, rfl, r⟩
  | _, _, i + 1, x, .cons _ t, e => by
    obtain ⟨u, h1, h2⟩ := Vals.get (i := i) (x := x) t (by simpa using e)
    exact ⟨u, by simpa using h1, h2⟩
theorem Vals.set {x : V} {u : Value} (r : RelV x u) : ∀ {xs : List V} {us : List Value} (i : Nat), Vals xs us → Vals (xs.set i x) (us.set i u)
  | _, _, _, .nil => .nil
  | _, _, 0, .cons _ t => .cons r t
  | _, _, i + 1, .cons q t => .cons q (Vals.set r i t)
theorem Vals.append : ∀ {xs ys : List V} {us ws : List Value}, Vals xs us → Vals ys ws → Vals (xs ++ ys) (us ++ ws)
  | _, _, _, _, .nil, s => s
  | _, _, _, _, .cons r t, s => .cons r (Vals.append t s)
theorem Vals.take : ∀ {xs : List V} {us : List Value} (n : Nat), Vals xs us → Vals (xs.take n) (us.take n)
  | _, _, 0, _ => .nil
  | _, _, _ + 1, .nil => .nil
  | _, _, n + 1, .cons r t => .cons r (Vals.take n t)
theorem Vals.drop : ∀ {xs : List V} {us : List Value} (n : Nat), Vals xs us → Vals (xs.drop n) (us.drop n)
  | _, _, 0, r => r
  | _, _, _ + 1, .nil => .nil
  | _, _, n + 1, .cons _ t => Vals.drop n t
def RelO : Option V → Option Value → Prop
  | some v, some u => RelV v u
  | none, none => True
  | _, _ => False
def KV {κ : Type} : List (κ × V) → List (κ × Value) → Prop := Paired fun (p : κ × V) (q : κ × Value) => p.1 = q.1 ∧ RelV p.2 q.2
def kV : Key → V
  | .inl i => .int i
  | .inr (some x) => .str x
  | .inr none => .non
inductive HO where
  | lst (xs : List V)
  | tup (xs : List V)
  | dK (kvs : List (Key × V)) | dT (kvs : List (List Key × V))
  | set (S : Int → Bool) (n : Nat)
  | ins (C dx : Addr) (fs : List (Str × V))
  | own (x : Addr)
  | xd (fs : List (Str × V))
  | met (f x : Addr)
  | rng (lo hi : Int)
  | frz (o : Obj) (u : HO)
  | tbl (ps : Array Value)
  | ext (φ : Heap → Prop)
abbrev Hp := Addr → Option HO
def upd (H : Hp) (a : Addr) (o : HO) : Hp := fun b => if b = a then some o else H b
theorem upd_same {H : Hp} {a : Addr} {o : HO} : upd H a o a = some o := by unfold upd; rw [if_pos rfl]
theorem upd_ne {H : Hp} {a b : Addr} {o : HO} (h : b ≠ a) : upd H a o b = H b := by unfold upd; rw [if_neg h]
theorem ne_of_none {H : Hp} {a b : Addr} {o : HO} (h : H a = some o) (h' : H b = none) : a ≠ b := by
  intro e; subst e; rw [h] at h'; cases h'
def TupN (h : Heap) (a : Addr) (its : Array Value) : Prop := ∃ o, h.get? a = some o ∧ o.dict = none ∧ o.cls = .type "tuple" ∧ ∃ n, o.data = .seq its n
theorem TupN.is {h : Heap} {a : Addr} {its : Array Value} (p : TupN h a its) : IsTup h a its := by
  obtain ⟨o, e, _, c, n, d⟩ := p
  exact ⟨o, e, c, n, d⟩
theorem TupN.new (h : Heap) (its : Array Value) : TupN (h.push { cls := .type "tuple", data := .seq its }) h.objs.size its := ⟨_, Heap.get?_push_size _ rfl, rfl, rfl, _, rfl⟩
section
variable (P : Program) (w : World)
def ObjOk (H : Hp) (h : Heap) (a : Addr) : HO → Prop
  | .lst xs => xs.length ≤ sizeLine ∧ ∃ (its : List Value) (n : Nat), Vals xs its ∧ h.get? a = some { cls := .type "list", data := .seq its.toArray n }
  | .tup xs => xs.length ≤ sizeLine ∧ ∃ its : List Value, Vals xs its ∧ TupN h a its.toArray
  | .dK kvs => kvs.length ≤ sizeLine ∧ (a == sysModules) = false ∧ ∃ vs, KV kvs vs ∧ h.DictOf (mixKind P w) a vs
  | .dT kvs => kvs.length ≤ sizeLine ∧ (a == sysModules) = false ∧ ∃ xs : List (List Key × Addr × Value),
      Paired (fun (p : List Key × V) (q : List Key × Addr × Value) => p.1 = q.1 ∧ H q.2.1 = some (.tup (p.1.map kV)) ∧ RelV p.2 q.2.2) kvs xs ∧
      ∃ o es ep, h.get? a = some o ∧ o.ExactDict ∧ o.data = .dict es ep ∧ es.toList = xs.map (entryOfKey (tupleKind (mixKind P w))) ∧ (xs.map (·.1)).Nodup
  | .set S n => h.SetOf (intKind P w) a S n
  | .ins C dx fs => H dx = some (.own a) ∧ fs.length ≤ 1000 ∧ dx ≠ a ∧ h.get? a = some (PySem.W.instObj C dx) ∧
      ∃ mA, h.Ns1 dx mA ∧ (∀ f, RelO (fs.lookup f) (mA f)) ∧ PySem.Within mA (fs.map (·.1))
  | .own _ => ∃ o, h.get? a = some o
  | .xd fs => ∃ mA, h.Ns1 a mA ∧ ∀ f, RelO (fs.lookup f) (mA f)
  | .rng lo hi => ∃ t u v, h.get? a = some { cls := .type "range", data := .fields #[.int lo t, .int hi u, .int 1 v] }
  | .frz o u => h.get? a = some o ∧ ObjOk H h a u
  | .tbl ps => h.get? a = some { cls := .none, data := .fields ps }
  | .met f x => h.get? a = some (PySem.W.methodObj (.ref f) (.ref x))
  | .ext φ => φ h ∧ (∃ o, h.get? a = some o) ∧ ∀ h1 h2 : Heap, φ h1 → (∀ o, h1.get? a = some o → h2.get? a = some o) → φ h2
def HOk (H : Hp) (h : Heap) : Prop := ∀ a o, H a = some o → ObjOk P w H h a o
end
section
variable {P : Program} {w : World} {H H' : Hp} {h h' : Heap} {a : Addr} {o : HO}
theorem ObjOk.lt (x : ObjOk P w H h a o) : a < h.objs.size := by
  cases o with
  | lst xs => obtain ⟨_, _, _, _, e⟩ := x; exact Heap.lt_size e
  | tup xs => obtain ⟨_, _, _, p⟩ := x; exact p.is.lt
  | dK kvs => obtain ⟨_, _, _, _, o, _, _, e, _⟩ := x; exact Heap.lt_size e
  | dT kvs => obtain ⟨_, _, _, _, o, _, _, e, _⟩ := x; exact Heap.lt_size e
  | set S n => obtain ⟨o, _, _, _, e, _⟩ := x; exact Heap.lt_size e
  | ins C dx fs => obtain ⟨_, _, _, e, _⟩ := x; exact Heap.lt_size e
  | own y => obtain ⟨_, e⟩ := x; exact Heap.lt_size e
  | xd fs => obtain ⟨_, ⟨_, _, _, e, _⟩, _⟩ := x; exact Heap.lt_size e
  | rng lo hi => obtain ⟨_, _, _, e⟩ := x; exact Heap.lt_size e
  | frz ob u => obtain ⟨e, _⟩ := x; exact Heap.lt_size e
  | tbl ps => exact Heap.lt_size (show h.get? a = some _ from x)
  | met f y => exact Heap.lt_size (show h.get? a = some _ from x)
  | ext φ => obtain ⟨_, ⟨_, e⟩, _⟩ := x; exact Heap.lt_size e
theorem Paired.mapP {α β : Type} {F G : α → β → Prop} : ∀ {l₁ : List α} {l₂ : List β}, Paired F l₁ l₂ → (∀ a b, F a b → G a b) → Paired G l₁ l₂
  | _, _, .nil, _ => .nil
  | _, _, .cons r t, f => .cons (f _ _ r) (Paired.mapP t f)
theorem ObjOk.stay (x : ObjOk P w H h a o) (k : ∀ b u, (b = a ∨ H b = some (.own a)) → h.get? b = some u → h'.get? b = some u)
    (ho : ∀ b, H b = some (.own a) → H' b = some (.own a)) (ht : ∀ b xs, H b = some (.tup xs) → H' b = some (.tup xs)) : ObjOk P w H' h' a o := by
  induction o with
  | lst xs => obtain ⟨z, its, n, r, e⟩ := x; exact ⟨z, its, n, r, k _ _ (.inl rfl) e⟩
  | tup xs => obtain ⟨z, its, r, ob, e, c⟩ := x; exact ⟨z, its, r, ob, k _ _ (.inl rfl) e, c⟩
  | dK kvs => obtain ⟨z, y, vs, r, ob, es, ep, e, c⟩ := x; exact ⟨z, y, vs, r, ob, es, ep, k _ _ (.inl rfl) e, c⟩
  | dT kvs =>
    obtain ⟨z, y, xs, r, ob, es, ep, e, c⟩ := x
    exact ⟨z, y, xs, Paired.mapP r fun p q z => ⟨z.1, ht _ _ z.2.1, z.2.2⟩, ob, es, ep, k _ _ (.inl rfl) e, c⟩
  | set S n => obtain ⟨ob, es, ep, t, e, c⟩ := x; exact ⟨ob, es, ep, t, k _ _ (.inl rfl) e, c⟩
  | ins C dx fs =>
    obtain ⟨d, z, ne, e, mA, ⟨od, es, ep, e2, c⟩, r⟩ := x
    exact ⟨ho _ d, z, ne, k _ _ (.inl rfl) e, mA, ⟨od, es, ep, k _ _ (.inr d) e2, c⟩, r⟩
  | own y => obtain ⟨ob, e⟩ := x; exact ⟨ob, k _ _ (.inl rfl) e⟩
  | xd fs => obtain ⟨mA, ⟨od, es, ep, e, c⟩, r⟩ := x; exact ⟨mA, ⟨od, es, ep, k _ _ (.inl rfl) e, c⟩, r⟩
  | rng lo hi => obtain ⟨t, u, v, e⟩ := x; exact ⟨t, u, v, k _ _ (.inl rfl) e⟩
  | frz ob u ih => obtain ⟨e, q⟩ := x; exact ⟨k _ _ (.inl rfl) e, ih q⟩
  | tbl ps =>
    have e : h.get? a = some { cls := .none, data := .fields ps } := x
    show h'.get? a = some { cls := .none, data := .fields ps }
    exact k a _ (.inl rfl) e
  | met f y =>
    have e : h.get? a = some (PySem.W.methodObj (.ref f) (.ref y)) := x
    show h'.get? a = some (PySem.W.methodObj (.ref f) (.ref y))
    exact k a _ (.inl rfl) e
  | ext φ => obtain ⟨p, ⟨o, e⟩, st⟩ := x; exact ⟨st _ _ p fun o q => k _ _ (.inl rfl) q, ⟨o, k _ _ (.inl rfl) e⟩, st⟩
theorem HOk.lt (x : HOk P w H h) (e : H a = some o) : a < h.objs.size := (x a o e).lt
theorem HOk.fresh (x : HOk P w H h) (e : h.objs.size ≤ a) : H a = none := by
  cases q : H a with
  | none => rfl
  | some u => exact absurd (Nat.lt_of_lt_of_le (x.lt q) e) (Nat.lt_irrefl _)
theorem HOk.kept (x : HOk P w H h) (k : ∀ b u, h.get? b = some u → h'.get? b = some u) : HOk P w H h' := fun a o e =>
  (x a o e).stay (fun b u _ q => k b u q) (fun _ q => q) fun _ _ q => q
theorem HOk.laid (x : HOk P w H h) (k : ∀ b u, h.get? b = some u → h'.get? b = some u) (hp : h.objs.size ≤ a) (new : ObjOk P w (upd H a o) h' a o) : HOk P w (upd H a o) h' := fun b u e => by
  have hn := x.fresh hp
  by_cases hb : b = a
  · subst hb; rw [upd_same] at e; cases e; exact new
  · rw [upd_ne hb] at e
    exact (x b u e).stay (fun c v _ q => k c v q) (fun c q => by rw [upd_ne (ne_of_none q hn)]; exact q) fun c xs q => by rw [upd_ne (ne_of_none q hn)]; exact q
end
def Rd (H : Hp) (a : Addr) (u : HO) : Prop := H a = some u ∨ ∃ o, H a = some (.frz o u)
theorem Rd.of {H : Hp} {a : Addr} {u : HO} (h : H a = some u) : Rd H a u := .inl h
theorem Rd.ok {P : Program} {w : World} {H : Hp} {h : Heap} {a : Addr} {u : HO} (r : Rd H a u) (x : HOk P w H h) : ObjOk P w H h a u := by
  rcases r with r | ⟨o, r⟩
  · exact x a u r
  · obtain ⟨_, q⟩ := x a _ r
    exact q
def Mut : Option HO → Prop
  | some (.lst _) => True
  | some (.dK _) => True
  | some (.dT _) => True
  | some (.set _ _) => True
  | some (.ins _ _ _) => True
  | some (.ext _) => True
  | _ => False
section
variable {P : Program} {w : World} {H : Hp} {h h' : Heap} {x e : Addr} {o' : HO}
theorem HOk.write (ok : HOk P w H h) (mu : Mut (H x)) (he : e = x ∨ H e = some (.own x)) (k : ∀ b u, b ≠ e → h.get? b = some u → h'.get? b = some u) (heo : ∃ u, h'.get? e = some u)
    (new : ObjOk P w (upd H x o') h' x o') : HOk P w (upd H x o') h' := fun b u q => by
  have nown : ∀ c y, H c = some (.own y) → c ≠ x := fun c y r z => by subst z; rw [r] at mu; exact mu
  have ntup : ∀ c xs, H c = some (.tup xs) → c ≠ x := fun c xs r z => by subst z; rw [r] at mu; exact mu
  by_cases hb : b = x
  · subst hb; rw [upd_same] at q; cases q; exact new
  · rw [upd_ne hb] at q
    by_cases hbe : b = e
    · have q' : H b = some (.own x) := by
        rcases he with z | z
        · exact absurd (hbe.trans z) hb
        · rw [hbe]; exact z
      rw [q] at q'; cases q'
      obtain ⟨v, hv⟩ := heo
      exact ⟨v, by rw [hbe]; exact hv⟩
    · refine (ok b u q).stay (fun c v hc r => k c v ?_ r) (fun c r => by rw [upd_ne (nown c b r)]; exact r) fun c xs r => by rw [upd_ne (ntup c xs r)]; exact r
      rcases hc with rfl | hc
      · exact hbe
      · rintro rfl
        rcases he with z | z
        · exact nown c b hc z
        · rw [hc] at z; cases z; exact hb rfl
end
structure Un (fs ex : List Addr) (H H' : Hp) (h h' : Heap) : Prop where
  keep : ∀ b o, h.get? b = some o → H b = none → b ∉ fs → b ∉ ex → h'.get? b = some o
  slot : ∀ b o, h.get? b = some o → H b = none → b ∈ fs → b ∉ ex → ∃ sl, h'.get? b = some { o with slots := sl }
  free : ∀ b o, h.get? b = some o → H b = none → b ∉ ex → H' b = none
  there : ∀ b o, h.get? b = some o → b ∉ ex → ∃ o', h'.get? b = some o'
  tups : ∀ b xs, H b = some (.tup xs) → H' b = some (.tup xs)
  frzs : ∀ b o u, H b = some (.frz o u) → H' b = some (.frz o u)
  tbls : ∀ b ps, H b = some (.tbl ps) → ∃ more, H' b = some (.tbl (ps ++ more))
section
variable {fs fs' ex ex' : List Addr} {H H1 H2 : Hp} {h h1 h2 h' : Heap} {a x e : Addr} {o : HO}
theorem Un.any (u : Un fs ex H H1 h h1) {b : Addr} {ob : Obj} (q : h.get? b = some ob) (n : H b = none) (hx : b ∉ ex) : ∃ sl, h1.get? b = some { ob with slots := sl } := by
  by_cases hb : b ∈ fs
  · exact u.slot b ob q n hb hx
  · exact ⟨ob.slots, u.keep b ob q n hb hx⟩
theorem Un.trans (a : Un fs ex H H1 h h1) (b : Un fs ex H1 H2 h1 h2) : Un fs ex H H2 h h2 where
  keep := fun c ob q n hc hx => b.keep c ob (a.keep c ob q n hc hx) (a.free c ob q n hx) hc hx
  slot := fun c ob q n hc hx => by
    obtain ⟨sl, e1⟩ := a.slot c ob q n hc hx
    obtain ⟨sl', e2⟩ := b.slot c _ e1 (a.free c ob q n hx) hc hx
    exact ⟨sl', e2⟩
  free := fun c ob q n hx => by
    obtain ⟨o', e1⟩ := a.there c ob q hx
    exact b.free c o' e1 (a.free c ob q n hx) hx
  there := fun c ob q hx => by
    obtain ⟨o', e1⟩ := a.there c ob q hx
    exact b.there c o' e1 hx
  tups := fun c xs q => b.tups c xs (a.tups c xs q)
  frzs := fun c ob xs q => b.frzs c ob xs (a.frzs c ob xs q)
  tbls := fun c ps q => by
    obtain ⟨m1, e1⟩ := a.tbls c ps q
    obtain ⟨m2, e2⟩ := b.tbls c _ e1
    exact ⟨m1 ++ m2, by rw [e2, Array.append_assoc]⟩
theorem Un.kept (k : ∀ b u, h.get? b = some u → h'.get? b = some u) : Un fs ex H H h h' :=
  ⟨fun b ob q _ _ _ => k b ob q, fun b ob q _ _ _ => ⟨ob.slots, k b ob q⟩, fun _ _ _ n _ => n, fun b ob q _ => ⟨ob, k b ob q⟩, fun _ _ q => q, fun _ _ _ q => q, fun _ ps q => ⟨#[], by rw [q]; simp⟩⟩
theorem Un.refl : Un fs ex H H h h := Un.kept fun _ _ q => q
theorem Un.laid (k : ∀ b u, h.get? b = some u → h'.get? b = some u) (hp : h.objs.size ≤ a) (hn : H a = none) : Un fs ex H (upd H a o) h h' where
  keep := fun b u q _ _ _ => k b u q
  slot := fun b u q _ _ _ => ⟨u.slots, k b u q⟩
  free := fun b u q n _ => by rw [upd_ne (Nat.ne_of_lt (Nat.lt_of_lt_of_le (Heap.lt_size q) hp))]; exact n
  there := fun b u q _ => ⟨u, k b u q⟩
  tups := fun b xs q => by rw [upd_ne (ne_of_none q hn)]; exact q
  frzs := fun b u xs q => by rw [upd_ne (ne_of_none q hn)]; exact q
  tbls := fun b ps q => ⟨#[], by rw [upd_ne (ne_of_none q hn), q]; simp⟩
theorem Un.write (mu : Mut (H x)) (he : e = x ∨ H e = some (.own x)) (k : ∀ b u, b ≠ e → h.get? b = some u → h'.get? b = some u) (heo : ∃ u, h'.get? e = some u) : Un fs ex H (upd H x o) h h' := by
  have hx : ∀ b, H b = none → b ≠ x := fun b n z => by subst z; rw [n] at mu; exact mu
  have hb : ∀ b, H b = none → b ≠ e := fun b n z => by
    subst z
    rcases he with r | r
    · exact hx b n r
    · rw [n] at r; cases r
  have hm : ∀ b u, H b = some u → ¬ Mut (some u) → b ≠ x := fun b u q nm z => by subst z; rw [q] at mu; exact nm mu
  refine ⟨fun b u q n _ _ => k b u (hb b n) q, fun b u q n _ _ => ⟨u.slots, k b u (hb b n) q⟩, fun b u q n _ => by rw [upd_ne (hx b n)]; exact n, fun b u q _ => ?_,
    fun b xs q => by rw [upd_ne (hm b _ q fun z => z)]; exact q, fun b u xs q => by rw [upd_ne (hm b _ q fun z => z)]; exact q, fun b ps q => ⟨#[], by rw [upd_ne (hm b _ q fun z => z), q]; simp⟩⟩
  by_cases hbe : b = e
  · subst hbe; exact heo
  · exact ⟨u, k b u hbe q⟩
theorem Un.mono (u : Un fs ex H H1 h h1) (hs : ∀ b ∈ fs, b ∈ fs') (hx : ∀ b ∈ ex, b ∈ ex') : Un fs' ex' H H1 h h1 :=
  ⟨fun b ob q n hb he => u.keep b ob q n (fun z => hb (hs b z)) fun z => he (hx b z), fun _ _ q n _ he => u.any q n fun z => he (hx _ z), fun b ob q n he => u.free b ob q n fun z => he (hx b z), fun b ob q he => u.there b ob q fun z => he (hx b z), u.tups, u.frzs, u.tbls⟩
end
def trk (h : Heap) (H : Hp) : List Addr := (List.range h.objs.size).filter fun a => (H a).isSome
def hidT (h : Heap) (H : Hp) : Heap := PySem.W.hideAll h (trk h H)
theorem hidT_size (h : Heap) (H : Hp) : (hidT h H).objs.size = h.objs.size := PySem.W.hideAll_size _ _
theorem hidT_get {h : Heap} {H : Hp} {b : Addr} {o : Obj} (e : h.get? b = some o) (n : H b = none) : (hidT h H).get? b = some o :=
  PySem.W.hideAll_get _ e fun hm => by
    have q : (H b).isSome = true := (List.mem_filter.mp hm).2
    rw [n] at q; simp at q
theorem of_hidT {h : Heap} {H : Hp} {b : Addr} {o : Obj} (e : (hidT h H).get? b = some o) : h.get? b = some o ∧ H b = none := by
  have e' : h.get? b = some o := PySem.W.of_hideAll (trk h H) e
  refine ⟨e', ?_⟩
  cases q : H b with
  | none => rfl
  | some x =>
    have hm : b ∈ trk h H := List.mem_filter.mpr ⟨List.mem_range.mpr (Heap.lt_size e'), by simp [q]⟩
    have z : (hidT h H).get? b = none := PySem.W.hideAll_none (trk h H) hm
    rw [z] at e; cases e
def allNews (g h : Heap) (L : Addr) : List (Addr × Obj) := (List.range h.objs.size).filterMap fun a => if a = L ∨ (g.get? a).isSome = true then none else (h.get? a).map fun o => (a, o)
def rest (g h : Heap) (L d : Addr) : List (Addr × Obj) := (allNews g h L).filter fun p => decide (p.1 ≠ d)
end L2
namespace L2
open PySem PySem.Spec PyProof.Rows
structure Mod (K : PySem.W.Frag) (mg : Str → Option Value) (base : Heap) : Prop where
  kin : K.In base
  glob : base.Ns mainGlobals mg
  blt : ∃ mb, base.Ns builtinsNs mb ∧ ∀ x : Str, x ≠ "__name__" → mb x = bootBuiltins x
  nolimit : base.NoLimit
structure Cx where
  prog : Program
  w : World
  K : PySem.W.Frag
  mg : Str → Option Value
  base : Heap
  A : Around
  N : List Str
  s_0 : Shared
  H_0 : Hp
  env : Env
  outer : List Env
  stack : List Env
  ex : List Addr
  fn : Str → Bool
  calm : Bool
  pn : List (Addr × Obj)
  xe : Value → Shared → Prop
def frs (l : List Env) : List Addr := l.filterMap (·.frame)
abbrev Cx.fs (X : Cx) : List Addr := frs X.outer
def Vis (sc : Scope) (x : Str) : Prop := sc.names.lookup x = some .local ∨ sc.names.lookup x = some .cell ∨ sc.names.lookup x = some .free
def Loc (sc : Scope) (x : Str) : Prop := sc.names.lookup x = some .local ∨ sc.names.lookup x = some .cell
def Look (env : Env) (h : Heap) (m : Str → Option Value) (x : Str) (u : Value) : Prop :=
  (env.kindOf x = some .local ∧ m x = some u) ∨ ((env.kindOf x = some .cell ∨ env.kindOf x = some .free) ∧ ∃ c, env.cells.lookup x = some c ∧ h.IsCell c (some u))
structure Cx.Ok (X : Cx) : Prop where
  mod : Mod X.K X.mg X.base
  kind : X.env.scope.kind = .function
  glob : X.env.globals = mainGlobals
  blt : X.env.builtins = builtinsNs
  above : X.s_0.heap.objs.size ≤ X.env.locals
  inj : ∀ x y c, X.env.cells.lookup x = some c → X.env.cells.lookup y = some c → x = y
  has : ∀ x, (X.env.kindOf x = some .cell ∨ X.env.kindOf x = some .free) → ∃ c, X.env.cells.lookup x = some c
  cab : ∀ x c, X.fn x = true → X.env.cells.lookup x = some c → X.s_0.heap.objs.size ≤ c
  hd : X.calm = true → X.A.handled = none
  frames : X.A.frames = some X.stack
  stk : X.stack = X.outer ∨ (X.stack = X.env :: X.outer ∧ X.env.frame = some X.env.locals)
  exf : ∀ b ∈ X.ex, b ≠ X.env.locals ∧ ∀ x c, X.env.cells.lookup x = some c → c ≠ b
  bs : ∀ b o, X.base.get? b = some o → X.s_0.heap.get? b = some o ∧ X.H_0 b = none
  bsz : X.base.objs.size ≤ X.s_0.heap.objs.size
  noex : ∀ b o, X.base.get? b = some o → b ∉ X.ex
  exfs : ∀ b ∈ X.ex, b ∉ X.fs
  funs : X.s_0.heap.FunFrames X.base X.outer
  frf : ∀ b ∈ X.fs, X.H_0 b = none
structure Inv (X : Cx) (pins : List (Addr × Obj)) (σ : List (Option V)) (H : Hp) (s : Shared) : Prop where
  ok : X.Ok
  os : s.os = X.s_0.os
  bare : AllBare s.gens
  base : Un X.fs X.ex X.H_0 H X.s_0.heap s.heap
  loc : ∃ m, s.heap.Ns X.env.locals m ∧ ∀ (i : Nat) (x : Str) (v : V), X.N[i]? = some x → σ[i]? = some (some v) → Vis X.env.scope x → ∃ u, RelV v u ∧ Look X.env s.heap m x u
  cell : ∀ x c, X.env.cells.lookup x = some c → ∃ v, s.heap.IsCell c v
  free : H X.env.locals = none
  freeC : ∀ x c, X.env.cells.lookup x = some c → H c = none
  pin : ∀ p ∈ X.pn ++ pins, s.heap.get? p.1 = some p.2 ∧ H p.1 = none ∧ p.1 ≠ X.env.locals ∧ p.1 ∉ X.fs ∧ ∀ v, p.2.data ≠ .cell v
  hok : HOk X.prog X.w H s.heap
  len : σ.length = X.N.length
section
variable {X : Cx} {pins : List (Addr × Obj)} {σ : List (Option V)} {H H' : Hp} {s : Shared} {h' : Heap}
theorem Cx.Ok.nofr (ok : X.Ok) {b : Addr} {o : Obj} (e : X.base.get? b = some o) : b ∉ X.fs := fun hb => by
  have := (ok.funs.mem hb).1
  rw [e] at this; cases this
theorem Inv.bs (I : Inv X pins σ H s) : ∀ b o, X.base.get? b = some o → s.heap.get? b = some o ∧ H b = none := fun b o e =>
  ⟨I.base.keep b o (I.ok.bs b o e).1 (I.ok.bs b o e).2 (I.ok.nofr e) (I.ok.noex b o e), I.base.free b o (I.ok.bs b o e).1 (I.ok.bs b o e).2 (I.ok.noex b o e)⟩
theorem Inv.bk (I : Inv X pins σ H s) : ∀ b o, X.base.get? b = some o → s.heap.get? b = some o := fun b o e => (I.bs b o e).1
theorem Inv.mod (I : Inv X pins σ H s) : Mod X.K X.mg X.base := I.ok.mod
theorem Inv.kIn (I : Inv X pins σ H s) : X.K.In s.heap := I.ok.mod.kin.keeps I.bk
theorem Inv.nolimit (I : Inv X pins σ H s) : s.heap.NoLimit := I.ok.mod.nolimit.keeps I.bk
theorem Inv.fr (I : Inv X pins σ H s) : ∃ m, Fr X.base X.env.locals s.heap m :=
  let ⟨m, hn, _⟩ := I.loc
  ⟨m, hn, I.bk, Nat.le_trans I.ok.bsz I.ok.above⟩
theorem Inv.lt (I : Inv X pins σ H s) : X.env.locals < s.heap.objs.size := let ⟨_, hn, _⟩ := I.loc; hn.lt
theorem Inv.sz (I : Inv X pins σ H s) : X.s_0.heap.objs.size ≤ s.heap.objs.size := Nat.le_trans I.ok.above (Nat.le_of_lt I.lt)
theorem Inv.nofs (I : Inv X pins σ H s) {a : Addr} (h : s.heap.objs.size ≤ a) : a ∉ X.fs := fun hb => by
  obtain ⟨_, o, ho, _⟩ := I.ok.funs.mem hb
  exact absurd (Nat.lt_of_lt_of_le (Heap.lt_size ho) (Nat.le_trans I.sz h)) (Nat.lt_irrefl _)
theorem Inv.cne (I : Inv X pins σ H s) : ∀ x c, X.env.cells.lookup x = some c → c ≠ X.env.locals := fun x c e z => by
  obtain ⟨v, o, ho, hd⟩ := I.cell x c e
  obtain ⟨m, ⟨o', es, ep, ho', hd', _⟩, _⟩ := I.loc
  rw [z, ho'] at ho; cases ho; rw [hd'] at hd; cases hd
theorem Inv.funs (I : Inv X pins σ H s) : s.heap.FunFrames X.base X.outer := by
  have all : ∀ (l : List Env), (∀ b ∈ frs l, b ∈ X.fs) → X.s_0.heap.FunFrames X.base l → s.heap.FunFrames X.base l := by
    intro l
    induction l with
    | nil => intro _ _; trivial
    | cons env r ih =>
      intro hs hl
      obtain ⟨hk, ⟨L, o, hf, hn, ho, hd⟩, hr⟩ := hl
      have hL : L ∈ X.fs := hs L (by unfold frs; rw [List.filterMap_cons, hf]; exact List.mem_cons_self)
      obtain ⟨sl, e⟩ := I.base.slot L o ho (I.ok.frf L hL) hL fun z => I.ok.exfs L z hL
      exact ⟨hk, ⟨L, _, hf, hn, e, hd⟩, ih (fun b hb => hs b (by unfold frs; rw [List.filterMap_cons, hf]; exact List.mem_cons_of_mem _ hb)) hr⟩
  exact all X.outer (fun _ hb => hb) I.ok.funs
theorem Inv.stack (I : Inv X pins σ H s) : s.heap.FunFrames X.base X.stack := by
  rcases I.ok.stk with e | ⟨e, hf⟩
  · rw [e]; exact I.funs
  · rw [e]
    obtain ⟨m, hn, _⟩ := I.loc
    refine .cons (by rw [I.ok.kind]; decide) hf hn ?_ I.funs
    exact Heap.get?_none_of_le (Nat.le_trans I.ok.bsz I.ok.above)
theorem Inv.stkSub (I : Inv X pins σ H s) : ∀ b ∈ frs X.stack, b ∈ X.env.locals :: X.fs := fun b hb => by
  rcases I.ok.stk with e | ⟨e, hf⟩
  · rw [e] at hb; exact List.mem_cons_of_mem _ hb
  · rw [e] at hb
    unfold frs at hb
    rw [List.filterMap_cons, hf] at hb
    exact hb
theorem Inv.stkFree (I : Inv X pins σ H s) : ∀ b ∈ frs X.stack, H b = none := fun b hb => by
  rcases List.mem_cons.mp (I.stkSub b hb) with e | hb
  · rw [e]; exact I.free
  · obtain ⟨_, o, ho, _⟩ := I.ok.funs.mem hb
    exact I.base.free b o ho (I.ok.frf b hb) fun z => I.ok.exfs b z hb
theorem Inv.step {g' : Array GenState} {t' : Nat} {d' : Drawn} {ch : List Addr} (I : Inv X pins σ H s)
    (hch : ∀ b ∈ ch, (b ∈ X.ex ∨ X.s_0.heap.objs.size ≤ b) ∧ b ≠ X.env.locals ∧ (∀ x c, X.env.cells.lookup x = some c → c ≠ b) ∧ ∀ p ∈ X.pn ++ pins, p.1 ≠ b)
    (keep : ∀ b o, b ≠ X.env.locals → b ∉ X.fs → b ∉ ch → s.heap.get? b = some o → H b = none → h'.get? b = some o)
    (slot : ∀ b o, b ≠ X.env.locals → b ∈ X.fs → b ∉ ch → s.heap.get? b = some o → H b = none → ∃ sl, h'.get? b = some { o with slots := sl }) (free : ∀ b o, b ∉ ch → s.heap.get? b = some o → H b = none → H' b = none)
    (there : ∀ b o, b ∉ ch → s.heap.get? b = some o → ∃ o', h'.get? b = some o')
    (tups : ∀ b xs, H b = some (.tup xs) → H' b = some (.tup xs)) (frzs : ∀ b o u, H b = some (.frz o u) → H' b = some (.frz o u)) (tbls : ∀ b ps, H b = some (.tbl ps) → ∃ more, H' b = some (.tbl (ps ++ more)))
    (ns : ∀ m, s.heap.Ns X.env.locals m → h'.Ns X.env.locals m) (hok : HOk X.prog X.w H' h') (hg : AllBare g') :
    Inv X pins σ H' { s with heap := h', gens := g', drawn := d', toks := t' } := by
  have neL : ∀ b o, X.s_0.heap.get? b = some o → b ≠ X.env.locals := fun b o e => Nat.ne_of_lt (Nat.lt_of_lt_of_le (Heap.lt_size e) I.ok.above)
  have neC : ∀ b o, X.s_0.heap.get? b = some o → b ∉ X.ex → b ∉ ch := fun b o e hx hb => by
    rcases (hch b hb).1 with z | z
    · exact hx z
    · exact absurd (Nat.lt_of_lt_of_le (Heap.lt_size e) z) (Nat.lt_irrefl _)
  have cellK : ∀ x c, X.env.cells.lookup x = some c → ∀ v, s.heap.IsCell c v → h'.IsCell c v := fun x c e v ⟨o, ho, hd⟩ => by
    have nch : c ∉ ch := fun z => (hch c z).2.2.1 x c e rfl
    by_cases hc : c ∈ X.fs
    · obtain ⟨sl, q⟩ := slot c o (I.cne x c e) hc nch ho (I.freeC x c e)
      exact ⟨_, q, hd⟩
    · exact ⟨o, keep c o (I.cne x c e) hc nch ho (I.freeC x c e), hd⟩
  refine ⟨I.ok, I.os, hg, ⟨fun b o e n hb hx => ?_, fun b o e n hb hx => ?_, fun b o e n hx => ?_, fun b o e hx => ?_, fun b xs e => tups b xs (I.base.tups b xs e), fun b o xs e => frzs b o xs (I.base.frzs b o xs e), fun b ps e => ?_⟩, ?_, fun x c e => ?_, ?_, fun x c e => ?_, fun p hp => ?_, hok, I.len⟩
  · exact keep b o (neL b o e) hb (neC b o e hx) (I.base.keep b o e n hb hx) (I.base.free b o e n hx)
  · obtain ⟨sl, e1⟩ := I.base.slot b o e n hb hx
    obtain ⟨sl', e2⟩ := slot b _ (neL b o e) hb (neC b o e hx) e1 (I.base.free b o e n hx)
    exact ⟨sl', e2⟩
  · obtain ⟨o', e1⟩ := I.base.there b o e hx
    exact free b o' (neC b o e hx) e1 (I.base.free b o e n hx)
  · obtain ⟨o', e1⟩ := I.base.there b o e hx
    exact there b o' (neC b o e hx) e1
  · obtain ⟨m1, e1⟩ := I.base.tbls b ps e
    obtain ⟨m2, e2⟩ := tbls b _ e1
    exact ⟨m1 ++ m2, by rw [e2, Array.append_assoc]⟩
  · obtain ⟨m, hn, hl⟩ := I.loc
    refine ⟨m, ns m hn, fun i x v e1 e2 e3 => ?_⟩
    obtain ⟨u, r, l⟩ := hl i x v e1 e2 e3
    refine ⟨u, r, ?_⟩
    rcases l with l | ⟨k, c, e, z⟩
    · exact .inl l
    · exact .inr ⟨k, c, e, cellK x c e _ z⟩
  · obtain ⟨v, z⟩ := I.cell x c e
    exact ⟨v, cellK x c e v z⟩
  · obtain ⟨m, ⟨o, _, _, ho, _⟩, _⟩ := I.loc
    exact free _ o (fun z => (hch _ z).2.1 rfl) ho I.free
  · obtain ⟨v, o, ho, hd⟩ := I.cell x c e
    exact free c o (fun z => (hch c z).2.2.1 x c e rfl) ho (I.freeC x c e)
  · obtain ⟨e, n, ne, nf, d⟩ := I.pin p hp
    have nch : p.1 ∉ ch := fun z => (hch p.1 z).2.2.2 p hp rfl
    exact ⟨keep p.1 p.2 ne nf nch e n, free p.1 p.2 nch e n, ne, nf, d⟩
theorem Inv.un {t' : Nat} (I : Inv X pins σ H s) (u : Un X.fs [] H H' s.heap h') (hok : HOk X.prog X.w H' h') : Inv X pins σ H' { s with heap := h', toks := t' } := by
  obtain ⟨m, ⟨o, es, ep, ho, r⟩, _⟩ := id I.loc
  obtain ⟨sl, hL⟩ := u.any ho I.free (by simp)
  exact I.step (g' := s.gens) (d' := s.drawn) (ch := []) (fun _ z => nomatch z) (fun b o _ hb _ e n => u.keep b o e n hb (by simp)) (fun b o _ hb _ e n => u.slot b o e n hb (by simp)) (fun b o _ e n => u.free b o e n (by simp)) (fun b o _ e => u.there b o e (by simp)) u.tups u.frzs u.tbls (fun m' hm => by
    obtain ⟨o', es', ep', ho', r'⟩ := hm
    rw [ho] at ho'; cases ho'
    exact ⟨_, es', ep', hL, r'⟩) hok I.bare
theorem Inv.call {g' : Array GenState} {t' : Nat} {d' : Drawn} {ch : List Addr} (I : Inv X pins σ H s) (u : Un (frs X.stack) ch H H' s.heap h') (hok : HOk X.prog X.w H' h') (hg : AllBare g')
    (hch : ∀ b ∈ ch, (b ∈ X.ex ∨ X.s_0.heap.objs.size ≤ b) ∧ b ≠ X.env.locals ∧ (∀ x c, X.env.cells.lookup x = some c → c ≠ b) ∧ ∀ p ∈ X.pn ++ pins, p.1 ≠ b) :
    Inv X pins σ H' { s with heap := h', gens := g', drawn := d', toks := t' } := by
  obtain ⟨m, ⟨o, es, ep, ho, r⟩, _⟩ := id I.loc
  obtain ⟨sl, hL⟩ := u.any ho I.free fun z => (hch _ z).2.1 rfl
  exact I.step (ch := ch) hch (fun b o hL hb hc e n => u.keep b o e n (fun z => (List.mem_cons.mp (I.stkSub b z)).elim hL hb) hc) (fun b o _ _ hc e n => u.any e n hc) (fun b o hc e n => u.free b o e n hc) (fun b o hc e => u.there b o e hc) u.tups u.frzs u.tbls (fun m' hm => by
    obtain ⟨o', es', ep', ho', r'⟩ := hm
    rw [ho] at ho'; cases ho'
    exact ⟨_, es', ep', hL, r'⟩) hok hg
theorem Inv.turned {t' : Nat} {it : Addr} (I : Inv X pins σ H s) (k : ∀ b o, b ≠ it → s.heap.get? b = some o → h'.get? b = some o) (hn : H it = none) (hL : it ≠ X.env.locals)
    (h1 : it ∈ X.ex ∨ X.s_0.heap.objs.size ≤ it) (h2 : ∀ x c, X.env.cells.lookup x = some c → c ≠ it) (h3 : ∀ p ∈ X.pn ++ pins, p.1 ≠ it) : Inv X pins σ H { s with heap := h', toks := t' } := by
  have nit : ∀ b u, H b = some u → b ≠ it := fun b u e z => by rw [z, hn] at e; cases e
  refine I.step (g' := s.gens) (d' := s.drawn) (ch := [it]) (fun b hb => ?_) (fun b o _ _ hc e _ => k b o (fun z => hc (by simp [z])) e) (fun b o _ _ hc e _ => ⟨o.slots, k b o (fun z => hc (by simp [z])) e⟩) (fun _ _ _ _ n => n)
    (fun b o hc e => ⟨o, k b o (fun z => hc (by simp [z])) e⟩) (fun _ _ e => e) (fun _ _ _ e => e) (fun b ps e => ⟨#[], by rw [e]; simp⟩) (fun m hm => ?_) (fun b u e => ?_) I.bare
  · have e : b = it := by simpa using hb
    subst e
    exact ⟨h1, hL, h2, h3⟩
  · obtain ⟨o, es, ep, ho, r⟩ := hm
    exact ⟨o, es, ep, k _ o (Ne.symm hL) ho, r⟩
  · refine (I.hok b u e).stay (fun c v hc q => k c v ?_ q) (fun _ q => q) fun _ _ q => q
    rcases hc with z | z
    · rw [z]; exact nit b u e
    · exact nit c _ z
theorem Inv.tok (I : Inv X pins σ H s) (t : Nat) : Inv X pins σ H { s with toks := t } := I.un (h' := s.heap) (t' := t) Un.refl I.hok
theorem Inv.kept {t' : Nat} (I : Inv X pins σ H s) (k : ∀ b u, s.heap.get? b = some u → h'.get? b = some u) : Inv X pins σ H { s with heap := h', toks := t' } := I.un (Un.kept k) (I.hok.kept k)
theorem Inv.laid {a : Addr} {o : HO} {t' : Nat} (I : Inv X pins σ H s) (k : ∀ b u, s.heap.get? b = some u → h'.get? b = some u) (hp : s.heap.objs.size ≤ a) (new : ObjOk X.prog X.w (upd H a o) h' a o) :
    Inv X pins σ (upd H a o) { s with heap := h', toks := t' } := I.un (Un.laid k hp (I.hok.fresh hp)) (I.hok.laid k hp new)
theorem Inv.write {x e : Addr} {o : HO} {t' : Nat} (I : Inv X pins σ H s) (mu : Mut (H x)) (he : e = x ∨ H e = some (.own x)) (k : ∀ b u, b ≠ e → s.heap.get? b = some u → h'.get? b = some u) (heo : ∃ u, h'.get? e = some u)
    (new : ObjOk X.prog X.w (upd H x o) h' x o) : Inv X pins σ (upd H x o) { s with heap := h', toks := t' } := I.un (Un.write mu he k heo) (I.hok.write mu he k heo new)
theorem Inv.weak {σ' : List (Option V)} (I : Inv X pins σ H s) (hl : σ'.length = σ.length) (w : ∀ (i : Nat) v, σ'[i]? = some (some v) → σ[i]? = some (some v)) : Inv X pins σ' H s :=
  ⟨I.ok, I.os, I.bare, I.base, let ⟨m, hn, hl'⟩ := I.loc; ⟨m, hn, fun i x v e1 e2 e3 => hl' i x v e1 (w i v e2) e3⟩, I.cell, I.free, I.freeC, I.pin, I.hok, hl.trans I.len⟩
theorem Inv.pins_of {pins' : List (Addr × Obj)} (I : Inv X pins σ H s) (h : ∀ p ∈ pins', s.heap.get? p.1 = some p.2 ∧ H p.1 = none ∧ p.1 ≠ X.env.locals ∧ p.1 ∉ X.fs ∧ ∀ v, p.2.data ≠ .cell v) : Inv X pins' σ H s :=
  ⟨I.ok, I.os, I.bare, I.base, I.loc, I.cell, I.free, I.freeC, fun p hp => (List.mem_append.mp hp).elim (fun z => I.pin p (List.mem_append_left _ z)) (h p), I.hok, I.len⟩
theorem nodup_ix {N : List Str} (hN : N.Nodup) {i j : Nat} {x : Str} (a : N[i]? = some x) (b : N[j]? = some x) : i = j := by
  obtain ⟨h1, e1⟩ := List.getElem?_eq_some_iff.mp a
  obtain ⟨h2, e2⟩ := List.getElem?_eq_some_iff.mp b
  exact (List.getElem_inj hN).mp (e1.trans e2.symm)
theorem store_ok2 {M : Model} {A : Around} {E : Value → Shared → Prop} {i : Nat} {x : Str} {v : V} {u : Value} {Q : Unit → Shared → Prop} (I : Inv X pins σ H s) (hN : X.N.Nodup) (hi : X.N[i]? = some x) (hx : Loc X.env.scope x) (r : RelV v u)
    (h : ∀ s', Inv X pins (σ.set i (some v)) H s' → (∃ a, Heap.SameBut a s.heap s'.heap ∧ (a = X.env.locals ∨ X.env.cells.lookup x = some a)) → Q () s') (hf : X.fn x = true ∨ X.env.scope.names.lookup x = some .local := by first | exact .inl rfl | exact .inr rfl | assumption) : wpAny M A (storeName X.env x u) Q E s := by
  obtain ⟨m, hn, hl⟩ := id I.loc
  have hcls : (X.env.scope.kind == .class || (X.env.scope.kind == .module && X.env.locals != X.env.globals)) = false := by rw [I.ok.kind]; rfl
  have hiσ : i < σ.length := by rw [I.len]; exact (List.getElem?_eq_some_iff.mp hi).1
  have cne := I.cne
  have tracked : ∀ {a : Addr} {h' : Heap}, (∃ o, s.heap.get? a = some o ∧ H a = none) → Heap.SameBut a s.heap h' → HOk X.prog X.w H h' := fun {a h'} ha hs b ob e => by
    obtain ⟨_, _, hfree⟩ := ha
    refine (I.hok b ob e).stay (fun c w' hc q => (hs.2 c ?_).trans q) (fun _ q => q) fun _ _ q => q
    rintro rfl
    rcases hc with rfl | hc
    · rw [hfree] at e; cases e
    · rw [hfree] at hc; cases hc
  rcases hx with hk | hk
  · refine wpAny_storeName_local hk hn (fun h' hn' hs => ?_) hcls
    obtain ⟨oL, _, _, hoL, _⟩ := id hn
    refine h _ ⟨I.ok, I.os, I.bare, ⟨fun b o e n hb hx => ?_, fun b o e n hb hx => ?_, I.base.free, fun b o e hx => ?_, I.base.tups, I.base.frzs, I.base.tbls⟩, ⟨_, hn', fun j y v' e1 e2 e3 => ?_⟩, fun y c e => ?_, I.free, I.freeC, fun p hp => ?_, tracked ⟨oL, hoL, I.free⟩ hs, by simpa using I.len⟩ ⟨_, hs, .inl rfl⟩
    · exact (hs.2 b (Nat.ne_of_lt (Nat.lt_of_lt_of_le (Heap.lt_size e) I.ok.above))).trans (I.base.keep b o e n hb hx)
    · obtain ⟨sl, e1⟩ := I.base.slot b o e n hb hx
      exact ⟨sl, (hs.2 b (Nat.ne_of_lt (Nat.lt_of_lt_of_le (Heap.lt_size e) I.ok.above))).trans e1⟩
    · obtain ⟨o', e1⟩ := I.base.there b o e hx
      exact ⟨o', (hs.2 b (Nat.ne_of_lt (Nat.lt_of_lt_of_le (Heap.lt_size e) I.ok.above))).trans e1⟩
    · by_cases hj : j = i
      · subst hj
        rw [hi] at e1; cases e1
        rw [List.getElem?_set_self hiσ] at e2
        cases e2
        exact ⟨u, r, .inl ⟨hk, by simp⟩⟩
      · rw [List.getElem?_set_ne (Ne.symm hj)] at e2
        obtain ⟨u', r', q⟩ := hl j y v' e1 e2 e3
        refine ⟨u', r', ?_⟩
        rcases q with ⟨k, e⟩ | ⟨k, c, e, z⟩
        · refine .inl ⟨k, ?_⟩
          have : y ≠ x := fun e => hj (nodup_ix hN e1 (e ▸ hi))
          simp [this, e]
        · exact .inr ⟨k, c, e, z.sameBut hs (cne y c e)⟩
    · obtain ⟨w', z⟩ := I.cell y c e
      exact ⟨w', z.sameBut hs (cne y c e)⟩
    · obtain ⟨e, n, ne, nf, d⟩ := I.pin p hp
      exact ⟨(hs.2 p.1 ne).trans e, n, ne, nf, d⟩
  · have hfn : X.fn x = true := by
      rcases hf with z | z
      · exact z
      · rw [z] at hk; cases hk
    obtain ⟨c, hc⟩ := I.ok.has x (.inl hk)
    obtain ⟨w', z⟩ := I.cell x c hc
    refine wpAny_storeName_cell I.ok.kind hk hc z (fun h' hc' hs => ?_)
    obtain ⟨oc, hoc, hocd⟩ := id z
    refine h { s with heap := h' } ⟨I.ok, I.os, I.bare, ⟨fun b o e n hb hx => ?_, fun b o e n hb hx => ?_, I.base.free, fun b o e hx => ?_, I.base.tups, I.base.frzs, I.base.tbls⟩, ⟨m, hn.sameBut hs (Ne.symm (cne x c hc)), fun j y v' e1 e2 e3 => ?_⟩, fun y c' e => ?_, I.free, I.freeC, fun p hp => ?_, tracked ⟨oc, hoc, I.freeC x c hc⟩ hs, by simpa using I.len⟩ ⟨c, hs, .inr hc⟩
    · exact (hs.2 b (Nat.ne_of_lt (Nat.lt_of_lt_of_le (Heap.lt_size e) (I.ok.cab x c hfn hc)))).trans (I.base.keep b o e n hb hx)
    · obtain ⟨sl, e1⟩ := I.base.slot b o e n hb hx
      exact ⟨sl, (hs.2 b (Nat.ne_of_lt (Nat.lt_of_lt_of_le (Heap.lt_size e) (I.ok.cab x c hfn hc)))).trans e1⟩
    · obtain ⟨o', e1⟩ := I.base.there b o e hx
      exact ⟨o', (hs.2 b (Nat.ne_of_lt (Nat.lt_of_lt_of_le (Heap.lt_size e) (I.ok.cab x c hfn hc)))).trans e1⟩
    · by_cases hj : j = i
      · subst hj
        rw [hi] at e1; cases e1
        rw [List.getElem?_set_self hiσ] at e2
        cases e2
        exact ⟨u, r, .inr ⟨.inl hk, c, hc, hc'⟩⟩
      · rw [List.getElem?_set_ne (Ne.symm hj)] at e2
        obtain ⟨u', r', q⟩ := hl j y v' e1 e2 e3
        refine ⟨u', r', ?_⟩
        rcases q with q | ⟨k, c', e, z'⟩
        · exact .inl q
        · refine .inr ⟨k, c', e, z'.sameBut hs ?_⟩
          rintro rfl
          exact hj (nodup_ix hN e1 (I.ok.inj _ _ _ e hc ▸ hi))
    · by_cases hcc : c' = c
      · subst hcc; exact ⟨_, hc'⟩
      · obtain ⟨w2, z2⟩ := I.cell y c' e
        exact ⟨w2, z2.sameBut hs hcc⟩
    · obtain ⟨e, n, ne, nf, d⟩ := I.pin p hp
      refine ⟨(hs.2 p.1 ?_).trans e, n, ne, nf, d⟩
      intro q
      rw [q, hoc] at e
      have q' : oc = p.2 := Option.some.inj e
      exact d w' (by rw [← q']; exact hocd)
theorem store_ok {M : Model} {A : Around} {E : Value → Shared → Prop} {i : Nat} {x : Str} {v : V} {u : Value} {Q : Unit → Shared → Prop} (I : Inv X pins σ H s) (hN : X.N.Nodup) (hi : X.N[i]? = some x) (hx : Loc X.env.scope x) (r : RelV v u)
    (h : ∀ s', Inv X pins (σ.set i (some v)) H s' → Q () s') (hf : X.fn x = true ∨ X.env.scope.names.lookup x = some .local := by first | exact .inl rfl | exact .inr rfl | assumption) : wpAny M A (storeName X.env x u) Q E s :=
  store_ok2 I hN hi hx r (fun s' I' _ => h s' I') hf
theorem Inv.call' {s' : Shared} {ch : List Addr} (I : Inv X pins σ H s) (ho : s'.os = s.os) (u : Un (frs X.stack) ch H H' s.heap s'.heap) (hok : HOk X.prog X.w H' s'.heap) (hg : AllBare s'.gens)
    (hch : ∀ b ∈ ch, (b ∈ X.ex ∨ X.s_0.heap.objs.size ≤ b) ∧ b ≠ X.env.locals ∧ (∀ x c, X.env.cells.lookup x = some c → c ≠ b) ∧ ∀ p ∈ X.pn ++ pins, p.1 ≠ b) : Inv X pins σ H' s' := by
  obtain ⟨h', g', d', t', o'⟩ := s'
  have e : o' = s.os := ho
  subst e
  exact I.call (g' := g') (t' := t') (d' := d') u hok hg hch
end
abbrev XK := Value → Option Addr → Hp → Prop
abbrev St := List (Option V)
abbrev VK := V → Hp → Prop
abbrev TE := St → Hp → VK → Prop
abbrev TT := St → Hp → (Bool → Hp → Prop) → Prop
abbrev TA := St → Hp → (List V → Hp → Prop) → Prop
structure Ends where
  nx : St → Hp → Prop
  rt : VK
  bk : St → Hp → Prop := fun _ _ => False
  ct : St → Hp → Prop := fun _ _ => False
abbrev TS := Ends → St → Hp → Prop
def EP (X : Cx) (pins : List (Addr × Obj)) (σ : St) (Q : VK) (u : Value) (s' : Shared) : Prop := ∃ v H', Inv X pins σ H' s' ∧ RelV v u ∧ Q v H'
def TP (X : Cx) (pins : List (Addr × Obj)) (σ : St) (Q : Bool → Hp → Prop) (b : Bool) (s' : Shared) : Prop := ∃ H', Inv X pins σ H' s' ∧ Q b H'
def AP (X : Cx) (pins : List (Addr × Obj)) (σ : St) (Q : List V → Hp → Prop) (us : List Value) (s' : Shared) : Prop := ∃ vs H', Inv X pins σ H' s' ∧ Vals vs us ∧ Q vs H'
def SP (X : Cx) (pins : List (Addr × Obj)) (D : Ends) (f : Flow) (s' : Shared) : Prop :=
  match f with
  | .next => ∃ σ' H', Inv X pins σ' H' s' ∧ D.nx σ' H'
  | .brk => ∃ σ' H', Inv X pins σ' H' s' ∧ D.bk σ' H'
  | .cont => ∃ σ' H', Inv X pins σ' H' s' ∧ D.ct σ' H'
  | .ret u => ∃ v σ' H', Inv X pins σ' H' s' ∧ RelV v u ∧ D.rt v H'
def PE (X : Cx) (e : Expr) (t : TE) : Prop :=
  ∀ (pins : List (Addr × Obj)) (s : Shared) (σ : St) (H : Hp) (Q : VK), Inv X pins σ H s → t σ H Q → wpAny (model X.prog X.w) X.A (eval e X.env) (EP X pins σ Q) X.xe s
def PT (X : Cx) (e : Expr) (t : TT) : Prop :=
  ∀ (pins : List (Addr × Obj)) (s : Shared) (σ : St) (H : Hp) (Q : Bool → Hp → Prop), Inv X pins σ H s → t σ H Q → wpAny (model X.prog X.w) X.A (isTrue e X.env (eval e X.env)) (TP X pins σ Q) X.xe s
def PW (X : Cx) (e : Expr) (t : TT) : Prop :=
  ∀ (whole : Sem Value) (pins : List (Addr × Obj)) (s : Shared) (σ : St) (H : Hp) (Q : Bool → Hp → Prop), Inv X pins σ H s → t σ H Q → wpAny (model X.prog X.w) X.A (isTrue e X.env whole) (TP X pins σ Q) X.xe s
theorem PW.pt {X : Cx} {e : Expr} {t : TT} (h : PW X e t) : PT X e t := h _
def PA (X : Cx) (es : List Expr) (t : TA) : Prop :=
  ∀ (pos : Pos) (pins : List (Addr × Obj)) (s : Shared) (σ : St) (H : Hp) (Q : List V → Hp → Prop), Inv X pins σ H s → t σ H Q → wpAny (model X.prog X.w) X.A (spliced (backTo pos (starEach es X.env))) (AP X pins σ Q) X.xe s
def PS (X : Cx) (st : Stmt) (t : TS) : Prop :=
  ∀ (pins : List (Addr × Obj)) (s : Shared) (σ : St) (H : Hp) (D : Ends), Inv X pins σ H s → t D σ H → wpAny (model X.prog X.w) X.A (exec st X.env) (SP X pins D) X.xe s
def PSs (X : Cx) (st : List Stmt) (t : TS) : Prop :=
  ∀ (pins : List (Addr × Obj)) (s : Shared) (σ : St) (H : Hp) (D : Ends), Inv X pins σ H s → t D σ H → wpAny (model X.prog X.w) X.A (execs st X.env) (SP X pins D) X.xe s
theorem thn {α : Type} {t : Sem α} {Q Q' : α → Shared → Prop} {M : Model} {A : Around} {E : Value → Shared → Prop} {s : Shared} (h : wpAny M A t Q E s) (hQ : ∀ a s, Q a s → Q' a s) : wpAny M A t Q' E s := wpAny_mono h hQ fun _ _ x => x
end L2
namespace L2
open PySem PySem.Spec PyProof.Rows
section
variable {X : Cx}
def tVar (i : Nat) : TE := fun σ H Q => ∃ v, σ[i]? = some (some v) ∧ Q v H
def tC (v : V) : TE := fun _ H Q => Q v H
theorem pe_var {i : Nat} {x : Str} {pos : Pos} (hN : X.N[i]? = some x) (hv : Vis X.env.scope x) (hd : (x == ("__debug__" : Str)) = false := by decide) (hcd : (x == ("__classdict__" : Str)) = false := by decide) : PE X (.Name x pos) (tVar i) := by
  intro pins s σ H Q I h
  obtain ⟨v, e, h⟩ := h
  obtain ⟨m, hn, hl⟩ := I.loc
  obtain ⟨u, r, l⟩ := hl i x v hN e hv
  have fin : EP X pins σ Q u s := ⟨v, H, I, r, h⟩
  rcases l with ⟨hk, hm⟩ | ⟨hk, c, hc, hcell⟩
  · exact wpAny_Name (wpAny_loadName_local I.ok.kind hk hn hm fin) hd
  · rcases hk with hk | hk
    · exact wpAny_Name (wpAny_loadName_cell I.ok.kind hk hc hcell fin) hd
    · exact wpAny_Name (wpAny_loadName_free I.ok.kind hk hc hcell fin hcd) hd
theorem pe_int {i j pos} : PE X (.Constant (.int i) j pos) (tC (.int i)) := fun _ _ _ H _ I h => wpAny_Constant_int ⟨.int i, H, I.tok _, ⟨_, rfl⟩, h⟩
theorem pe_bl {b j pos} : PE X (.Constant (.bool b) j pos) (tC (.bl b)) := fun _ _ _ H _ I h => Constant_bool ⟨.bl b, H, I, rfl, h⟩
theorem pe_non {j pos} : PE X (.Constant .none j pos) (tC .non) := fun _ _ _ H _ I h => Constant_none ⟨.non, H, I, rfl, h⟩
theorem pe_str {x j pos} : PE X (.Constant (.str x) j pos) (tC (.str x)) := fun _ _ _ H _ I h => Calls.Constant_str ⟨.str x, H, I.tok _, ⟨_, rfl⟩, h⟩
def Gl (X : Cx) (x : Str) : Prop := X.env.kindOf x = some .globalImplicit
theorem ld_glob {E : Value → Shared → Prop} {pins : List (Addr × Obj)} {s : Shared} {σ : St} {H : Hp} {x : Str} {u : Value} {pos : Pos} {Q : Value → Shared → Prop} (I : Inv X pins σ H s) (hg : Gl X x) (hm : X.mg x = some u) (h : Q u s)
    (hd : (x == ("__debug__" : Str)) = false := by decide) : wpAny (model X.prog X.w) X.A (eval (.Name x pos) X.env) Q E s :=
  Calls.Name_function_global I.ok.kind hg (Calls.loadGlobal_global (by rw [I.ok.glob]; exact I.mod.glob.keeps I.bk) hm h) hd
theorem ld_blt {E : Value → Shared → Prop} {pins : List (Addr × Obj)} {s : Shared} {σ : St} {H : Hp} {x : Str} {u : Value} {pos : Pos} {Q : Value → Shared → Prop} (I : Inv X pins σ H s) (hg : Gl X x) (hm : X.mg x = none) (hv : bootBuiltins x = some u) (h : Q u s)
    (hn : x ≠ "__name__" := by decide) (hd : (x == ("__debug__" : Str)) = false := by decide) : wpAny (model X.prog X.w) X.A (eval (.Name x pos) X.env) Q E s := by
  obtain ⟨mb, h1, h2⟩ := I.mod.blt
  exact Calls.Name_function_global I.ok.kind hg (Calls.loadGlobal_builtin (by rw [I.ok.glob]; exact I.mod.glob.keeps I.bk) hm (by rw [I.ok.blt]; exact h1.keeps I.bk) ((h2 x hn).trans hv) h) hd
theorem pe_glob {x : Str} {v : V} {u : Value} {pos : Pos} (hg : Gl X x) (hm : X.mg x = some u) (r : RelV v u) (hd : (x == ("__debug__" : Str)) = false := by decide) : PE X (.Name x pos) (tC v) :=
  fun _ _ _ H _ I h => ld_glob I hg hm ⟨v, H, I, r, h⟩ hd
theorem pe_bltn {x : Str} {v : V} {u : Value} {pos : Pos} (hg : Gl X x) (hm : X.mg x = none) (hv : bootBuiltins x = some u) (r : RelV v u) (hn : x ≠ "__name__" := by decide) (hd : (x == ("__debug__" : Str)) = false := by decide) : PE X (.Name x pos) (tC v) :=
  fun _ _ _ H _ I h => ld_blt I hg hm hv ⟨v, H, I, r, h⟩ hn hd
variable {a b : Expr} {ta tb : TE} {pos : Pos}
def tB (t : TE) : TT := fun σ H Q => t σ H fun x H1 => ∃ c, x = .bl c ∧ Q c H1
theorem pt_val {e : Expr} {t : TE} (h : PE X e t) (he : ∀ whole, isTrue e X.env whole = (do let v ← whole; standAt e.pos; holding [v] (truthy v)) := by intro _; rfl) : PT X e (tB t) := by
  intro pins s σ H Q I hw
  refine isTrue_plain (thn (h pins s σ H _ I hw) fun v s1 ⟨x, H1, I1, r1, q1⟩ => ?_) (he _)
  obtain ⟨d, rfl, q⟩ := q1
  cases r1
  exact wpAny_truthy_bool ⟨H1, I1, q⟩
variable {tA tB' : TT} {rest : List Expr}
def tAnd (t u : TT) : TT := fun σ H Q => t σ H fun c H1 => if c = true then u σ H1 Q else Q false H1
def tOr (t u : TT) : TT := fun σ H Q => t σ H fun c H1 => if c = true then Q true H1 else u σ H1 Q
def tNot (t : TT) : TT := fun σ H Q => t σ H fun c H1 => Q (!c) H1
theorem pw_and1 (ha : PT X a tA) : PW X (.BoolOp .And [a] pos) tA := by
  intro wh pins s σ H Q I h
  refine isTrue_and (thn (ha pins s σ H Q I h) fun c s1 e => ?_)
  cases c with
  | true => exact isTrue_and_nil e
  | false => exact e
theorem pw_or1 (ha : PT X a tA) : PW X (.BoolOp .Or [a] pos) tA := by
  intro wh pins s σ H Q I h
  refine isTrue_or (thn (ha pins s σ H Q I h) fun c s1 e => ?_)
  cases c with
  | false => exact isTrue_or_nil e
  | true => exact e
theorem pw_and (ha : PT X a tA) (hb : PW X (.BoolOp .And (b :: rest) pos) tB') : PW X (.BoolOp .And (a :: b :: rest) pos) (tAnd tA tB') := by
  intro wh pins s σ H Q I h
  refine isTrue_and (thn (ha pins s σ H _ I h) fun c s1 ⟨H1, I1, q1⟩ => ?_)
  cases c with
  | true => exact hb wh pins s1 σ H1 Q I1 q1
  | false => exact ⟨H1, I1, q1⟩
theorem pw_or (ha : PT X a tA) (hb : PW X (.BoolOp .Or (b :: rest) pos) tB') : PW X (.BoolOp .Or (a :: b :: rest) pos) (tOr tA tB') := by
  intro wh pins s σ H Q I h
  refine isTrue_or (thn (ha pins s σ H _ I h) fun c s1 ⟨H1, I1, q1⟩ => ?_)
  cases c with
  | true => exact ⟨H1, I1, q1⟩
  | false => exact hb wh pins s1 σ H1 Q I1 q1
theorem pt_not (ha : PT X a tA) : PT X (.UnaryOp .Not a pos) (tNot tA) := by
  intro pins s σ H Q I h
  exact isTrue_not (ha pins s σ H (fun c H1 => Q (!c) H1) I h)
def tAndV (ta tb : TE) : TE := fun σ H Q => ta σ H fun x H1 => ∃ c, x = .bl c ∧ if c = true then tb σ H1 Q else Q (.bl false) H1
def tNotV (ta : TE) : TE := fun σ H Q => ta σ H fun x H1 => ∃ c, x = .bl c ∧ Q (.bl (!c)) H1
theorem pe_one {op} {t : TE} (h : PE X a t) : PE X (.BoolOp op [a] pos) t := fun pins s σ H Q I hw => BoolOp_one (h pins s σ H Q I hw)
theorem pe_and (ha : PE X a ta) (hb : PE X (.BoolOp .And (b :: rest) pos) tb) : PE X (.BoolOp .And (a :: b :: rest) pos) (tAndV ta tb) := by
  intro pins s σ H Q I h
  refine BoolOp_and (thn (ha pins s σ H _ I h) fun v s1 ⟨x, H1, I1, r1, q1⟩ => ?_)
  obtain ⟨c, rfl, q1⟩ := q1
  cases r1
  refine wpAny_truthy_bool ?_
  cases c with
  | true => exact hb pins s1 σ H1 Q I1 q1
  | false => exact ⟨.bl false, H1, I1, rfl, q1⟩
theorem pe_not (ha : PE X a ta) : PE X (.UnaryOp .Not a pos) (tNotV ta) := by
  intro pins s σ H Q I h
  refine UnaryOp_ (thn (ha pins s σ H _ I h) fun v s1 ⟨x, H1, I1, r1, q1⟩ => ?_)
  obtain ⟨c, rfl, q1⟩ := q1
  cases r1
  exact not_of (wpAny_truthy_bool ⟨.bl (!c), H1, I1, rfl, q1⟩)
def tIf (t : TT) (ta tb : TE) : TE := fun σ H Q => t σ H fun c H1 => if c = true then ta σ H1 Q else tb σ H1 Q
theorem pe_ifExp {c : Expr} (hc : PT X c tA) (ha : PE X a ta) (hb : PE X b tb) : PE X (.IfExp c a b pos) (tIf tA ta tb) := by
  intro pins s σ H Q I h
  refine wpAny_IfExp (thn (hc pins s σ H _ I h) fun d s1 ⟨H1, I1, q1⟩ => ?_)
  cases d with
  | true => exact ha pins s1 σ H1 Q I1 q1
  | false => exact hb pins s1 σ H1 Q I1 q1
end
end L2
namespace L2
open PySem PySem.Spec PyProof.Rows
def SqL (K : PySem.W.Frag) (H : Hp) (a : Addr) (xs : List V) : Prop :=
  Rd H a (.lst xs) ∨
    ∃ (o : Obj) (its : Array Value) (n : Nat), K.lookup a = some o ∧ o.cls = .type "list" ∧ o.dict = none ∧ o.data = .seq its n ∧ its.size ≤ sizeLine ∧ Vals xs its.toList
def SqT (K : PySem.W.Frag) (H : Hp) (a : Addr) (xs : List V) : Prop :=
  Rd H a (.tup xs) ∨
    ∃ (o : Obj) (its : Array Value) (n : Nat), K.lookup a = some o ∧ o.cls = .type "tuple" ∧ o.data = .seq its n ∧ its.size ≤ sizeLine ∧ Vals xs its.toList
def absV : Value → Option V
  | .none => some .non
  | .bool b => some (.bl b)
  | .int i _ => some (.int i)
  | .str x _ => some (.str x)
  | .bytes b _ => some (.byt b)
  | .float b _ => some (.flt b)
  | .ref a => some (.ref a)
  | .type n => some (.ty n)
  | _ => none
theorem RelV.abs {x : V} {u : Value} (r : RelV x u) : absV u = some x := by
  cases x with
  | non => cases r; rfl
  | bl _ => cases r; rfl
  | int _ => obtain ⟨t, rfl⟩ := r; rfl
  | str _ => obtain ⟨t, rfl⟩ := r; rfl
  | byt _ => obtain ⟨t, rfl⟩ := r; rfl
  | flt _ => obtain ⟨t, rfl⟩ := r; rfl
  | ref _ => cases r; rfl
  | ty _ => cases r; rfl
theorem RelV.inj {x y : V} {u : Value} (r : RelV x u) (q : RelV y u) : x = y := Option.some.inj (r.abs.symm.trans q.abs)
theorem Vals.inj : ∀ {xs ys : List V} {us : List Value}, Vals xs us → Vals ys us → xs = ys
  | _, _, _, .nil, .nil => rfl
  | _, _, _, .cons r t, .cons r' t' => by rw [r.inj r', Vals.inj t t']
section
variable {X : Cx} {pins : List (Addr × Obj)} {σ : St} {H : Hp} {s : Shared} {a : Addr} {xs ys : List V}
theorem SqL.of {K : PySem.W.Frag} (h : H a = some (.lst xs)) : SqL K H a xs := .inl (.inl h)
theorem SqT.of {K : PySem.W.Frag} (h : H a = some (.tup xs)) : SqT K H a xs := .inl (.inl h)
theorem Inv.list (I : Inv X pins σ H s) (h : SqL X.K H a xs) : ∃ its : List Value, Vals xs its ∧ PlainL s.heap a its.toArray ∧ xs.length ≤ sizeLine := by
  rcases h with h | ⟨o, its, n, hk, hc, hd, hs, hz, r⟩
  · obtain ⟨z, its, n, r, e⟩ := h.ok I.hok
    exact ⟨its, r, ⟨_, n, e, rfl, rfl, rfl⟩, z⟩
  · refine ⟨its.toList, r, ⟨o, n, I.kIn a o hk, hc, hd, by simpa using hs⟩, ?_⟩
    have e := r.length
    simp only [Array.length_toList] at e
    omega
theorem Inv.tuple (I : Inv X pins σ H s) (h : SqT X.K H a xs) : ∃ its : List Value, Vals xs its ∧ IsTup s.heap a its.toArray ∧ xs.length ≤ sizeLine := by
  rcases h with h | ⟨o, its, n, hk, hc, hs, hz, r⟩
  · obtain ⟨z, its, r, p⟩ := h.ok I.hok
    exact ⟨its, r, p.is, z⟩
  · refine ⟨its.toList, r, ⟨o, I.kIn a o hk, hc, n, by simpa using hs⟩, ?_⟩
    have e := r.length
    simp only [Array.length_toList] at e
    omega
theorem Inv.list_inj (I : Inv X pins σ H s) (h : SqL X.K H a xs) (h' : SqL X.K H a ys) : xs = ys := by
  obtain ⟨its, r, ⟨o, n, e, _, _, d⟩, _⟩ := I.list h
  obtain ⟨its', r', ⟨o', n', e', _, _, d'⟩, _⟩ := I.list h'
  rw [e] at e'; cases e'
  rw [d] at d'
  injection d' with d1 _
  have : its = its' := by simpa using congrArg Array.toList d1
  subst this
  exact r.inj r'
theorem Inv.tuple_inj (I : Inv X pins σ H s) (h : SqT X.K H a xs) (h' : SqT X.K H a ys) : xs = ys := by
  obtain ⟨its, r, ⟨o, e, _, n, d⟩, _⟩ := I.tuple h
  obtain ⟨its', r', ⟨o', e', _, n', d'⟩, _⟩ := I.tuple h'
  rw [e] at e'; cases e'
  rw [d] at d'
  injection d' with d1 _
  have : its = its' := by simpa using congrArg Array.toList d1
  subst this
  exact r.inj r'
end
abbrev Cx.wish (X : Cx) (E : Value → Shared → Prop) : Cx := { X with xe := E }
abbrev Cx.nox (X : Cx) : Cx := X.wish fun _ _ => False
theorem Cx.Ok.wish {X : Cx} (ok : X.Ok) (E : Value → Shared → Prop) : (X.wish E).Ok :=
  ⟨ok.mod, ok.kind, ok.glob, ok.blt, ok.above, ok.inj, ok.has, ok.cab, ok.hd, ok.frames, ok.stk, ok.exf, ok.bs, ok.bsz, ok.noex, ok.exfs, ok.funs, ok.frf⟩
theorem Cx.Ok.unwish {X : Cx} {E : Value → Shared → Prop} (ok : (X.wish E).Ok) : X.Ok :=
  ⟨ok.mod, ok.kind, ok.glob, ok.blt, ok.above, ok.inj, ok.has, ok.cab, ok.hd, ok.frames, ok.stk, ok.exf, ok.bs, ok.bsz, ok.noex, ok.exfs, ok.funs, ok.frf⟩
section
variable {X : Cx} {pins : List (Addr × Obj)} {σ : St} {H : Hp} {s : Shared} {E : Value → Shared → Prop}
theorem Inv.wish (I : Inv X pins σ H s) (E : Value → Shared → Prop) : Inv (X.wish E) pins σ H s := ⟨I.ok.wish E, I.os, I.bare, I.base, I.loc, I.cell, I.free, I.freeC, I.pin, I.hok, I.len⟩
theorem Inv.unwish (I : Inv (X.wish E) pins σ H s) : Inv X pins σ H s := ⟨I.ok.unwish, I.os, I.bare, I.base, I.loc, I.cell, I.free, I.freeC, I.pin, I.hok, I.len⟩
theorem SP.unwish {D : Ends} {f : Flow} {s' : Shared} (h : SP (X.wish E) pins D f s') : SP X pins D f s' := by
  cases f with
  | next => obtain ⟨σ', H', I, q⟩ := h; exact ⟨σ', H', I.unwish, q⟩
  | brk => obtain ⟨σ', H', I, q⟩ := h; exact ⟨σ', H', I.unwish, q⟩
  | cont => obtain ⟨σ', H', I, q⟩ := h; exact ⟨σ', H', I.unwish, q⟩
  | ret u => obtain ⟨v, σ', H', I, r, q⟩ := h; exact ⟨v, σ', H', I.unwish, r, q⟩
theorem PE.nox {e : Expr} {t : TE} (h : PE X.nox e t) : PE X e t := fun pins s σ H Q I hw =>
  wpAny_mono (h pins s σ H Q (I.wish _) hw) (fun _ _ ⟨v, H', I', r, q⟩ => ⟨v, H', I'.unwish, r, q⟩) fun _ _ z => False.elim z
theorem PT.nox {e : Expr} {t : TT} (h : PT X.nox e t) : PT X e t := fun pins s σ H Q I hw =>
  wpAny_mono (h pins s σ H Q (I.wish _) hw) (fun _ _ ⟨H', I', q⟩ => ⟨H', I'.unwish, q⟩) fun _ _ z => False.elim z
theorem PSs.nox {st : List Stmt} {t : TS} (h : PSs X.nox st t) : PSs X st t := fun pins s σ H D I hw =>
  wpAny_mono (h pins s σ H D (I.wish _) hw) (fun _ _ q => q.unwish) fun _ _ z => False.elim z
end
section
variable {X : Cx} {st : Stmt} {rest : List Stmt} {t u : TS} {e : Expr} {te : TE} {pos : Pos}
def tNext : TS := fun D σ H => D.nx σ H
def tSeq (t u : TS) : TS := fun D σ H => t { D with nx := u D } σ H
theorem pss_nil : PSs X [] tNext := fun _ _ σ H _ I h => wpAny_execs_nil ⟨σ, H, I, h⟩
theorem pss_cons (h1 : PS X st t) (h2 : PSs X rest u) : PSs X (st :: rest) (tSeq t u) := by
  intro pins s σ H D I h
  refine wpAny_execs_cons (thn (h1 pins s σ H { D with nx := u D } I h) fun f s1 q => ?_)
  cases f with
  | next =>
    obtain ⟨σ', H', I', q⟩ := q
    exact h2 pins s1 σ' H' D I' q
  | ret v => exact q
  | brk => exact q
  | cont => exact q
theorem pss_one (h1 : PS X st t) : PSs X [st] t := by
  intro pins s σ H D I h
  refine wpAny_execs_cons (thn (h1 pins s σ H D I h) fun f s1 q => ?_)
  cases f with
  | next => exact wpAny_execs_nil q
  | ret v => exact q
  | brk => exact q
  | cont => exact q
theorem Inv.quiet {pins : List (Addr × Obj)} {σ : St} {H : Hp} {s : Shared} (I : Inv X pins σ H s) : interactive X.env = false := by simp [interactive, I.ok.kind]
def tDrop (te : TE) : TS := fun D σ H => te σ H fun _ H1 => D.nx σ H1
theorem ps_expr (he : PE X e te) (hs : swapsWith e none pos.line X.env = pure false := by rfl) : PS X (.Expr e pos) (tDrop te) := by
  intro pins s σ H D I h
  exact wpAny_Expr_any (thn (he pins s σ H _ I h) fun v s1 ⟨x, H1, I1, r1, q1⟩ => ⟨σ, H1, I1, q1⟩) I.quiet hs
def tRet (te : TE) : TS := fun D σ H => te σ H D.rt
theorem ps_ret (he : PE X e te) : PS X (.Return (some e) pos) (tRet te) := by
  intro pins s σ H D I h
  exact wpAny_Return_some (thn (he pins s σ H _ I h) fun v s1 ⟨x, H1, I1, r1, q1⟩ => ⟨x, σ, H1, I1, r1, q1⟩)
def tIfS (c : TT) (t u : TS) : TS := fun D σ H => c σ H fun b H1 => if b = true then t D σ H1 else u D σ H1
theorem ps_if {c : Expr} {a b : List Stmt} {tc : TT} (hc : PT X c tc) (ha : PSs X a t) (hb : PSs X b u) : PS X (.If c a b pos) (tIfS tc t u) := by
  intro pins s σ H D I h
  refine wpAny_If (thn (hc pins s σ H _ I h) fun d s1 ⟨H1, I1, q1⟩ => ?_)
  cases d with
  | true => exact ha pins s1 σ H1 D I1 q1
  | false => exact hb pins s1 σ H1 D I1 q1
end
abbrev TG := V → St → Hp → (St → Hp → Prop) → Prop
abbrev TGs := List V → St → Hp → (St → Hp → Prop) → Prop
def PG (X : Cx) (target : Expr) (t : TG) : Prop :=
  ∀ (pins : List (Addr × Obj)) (s : Shared) (σ : St) (H : Hp) (v : V) (u : Value) (Q : St → Hp → Prop), Inv X pins σ H s → RelV v u → t v σ H Q →
    wpAny (model X.prog X.w) X.A (assign target X.env u) (fun _ s' => ∃ σ' H', Inv X pins σ' H' s' ∧ Q σ' H') X.xe s
def PGs (X : Cx) (ts : List Expr) (t : TGs) : Prop :=
  ∀ (pins : List (Addr × Obj)) (s : Shared) (σ : St) (H : Hp) (vs : List V) (us : List Value) (Q : St → Hp → Prop), Inv X pins σ H s → Vals vs us → t vs σ H Q →
    wpAny (model X.prog X.w) X.A (assignInOrder ((assignEach ts X.env).map (·.2)) us) (fun _ s' => ∃ σ' H', Inv X pins σ' H' s' ∧ Q σ' H') X.xe s
abbrev TSet := V → V → V → Hp → (Hp → Prop) → Prop
def PSet (X : Cx) (t : TSet) : Prop :=
  ∀ (pins : List (Addr × Obj)) (s : Shared) (σ : St) (H : Hp) (o i v : V) (ov iv u : Value) (Q : Hp → Prop), Inv X pins σ H s → RelV o ov → RelV i iv → RelV v u → t o i v H Q →
    wpAny (model X.prog X.w) X.A (setItem ov iv u) (fun _ s' => ∃ H', Inv X pins σ H' s' ∧ Q H') X.xe s
section
variable {X : Cx} {pos : Pos}
def gName (i : Nat) : TG := fun v σ H Q => Q (σ.set i (some v)) H
theorem pg_name {i : Nat} {x : Str} (hN : X.N.Nodup) (hi : X.N[i]? = some x) (hx : Loc X.env.scope x) (hf : X.fn x = true ∨ X.env.scope.names.lookup x = some .local := by first | exact .inl rfl | exact .inr rfl | assumption) : PG X (.Name x pos) (gName i) := by
  intro pins s σ H v u Q I r h
  exact wpAny_assign_Name (store_ok I hN hi hx r (fun s' I' => ⟨_, H, I', h⟩) hf)
def gNil : TGs := fun vs σ H Q => vs = [] ∧ Q σ H
def gCons (t : TG) (u : TGs) : TGs := fun vs σ H Q => ∃ v r, vs = v :: r ∧ t v σ H fun σ' H' => u r σ' H' Q
theorem pgs_nil : PGs X [] gNil := by
  intro pins s σ H vs us Q I r h
  obtain ⟨e, h⟩ := h
  subst e
  cases r
  exact assignInOrder_nil ⟨σ, H, I, h⟩
theorem pgs_cons {e : Expr} {es : List Expr} {t : TG} {u : TGs} (h1 : PG X e t) (h2 : PGs X es u)
    (hs : (assignEach (e :: es) X.env).map (·.2) = assign e X.env :: (assignEach es X.env).map (·.2) := by rfl) : PGs X (e :: es) (gCons t u) := by
  intro pins s σ H vs us Q I r h
  obtain ⟨v, vr, e1, h⟩ := h
  subst e1
  cases r with
  | cons r rr =>
    rw [hs]
    refine assignInOrder_cons (thn (h1 pins s σ H _ _ _ I r h) fun _ s1 ⟨σ1, H1, I1, q1⟩ => ?_)
    exact h2 pins s1 σ1 H1 _ _ Q I1 rr q1
def gSub (to ti : TE) (t : TSet) : TG := fun v σ H Q => to σ H fun o H1 => ti σ H1 fun i H2 => t o i v H2 fun H3 => Q σ H3
theorem pg_sub {o i : Expr} {to ti : TE} {t : TSet} (ho : PE X o to) (hi : PE X i ti) (hs : PSet X t)
    (ha : ∀ v, assign (.Subscript o i pos) X.env v = (do
      let ov ← holding [v] (eval o X.env)
      let iv ← holding [v, ov] (eval i X.env)
      standAt pos
      holding [v, ov, iv] (setItem ov iv v)
      release [v, ov, iv] []) := by intro _; rfl) : PG X (.Subscript o i pos) (gSub to ti t) := by
  intro pins s σ H v u Q I r h
  rw [ha]
  refine wpAny_bind (wpAny_holding (thn (ho pins s σ H _ I h) fun ov s1 ⟨x, H1, I1, r1, q1⟩ => ?_))
  refine wpAny_bind (wpAny_holding (thn (hi pins s1 σ H1 _ I1 q1) fun iv s2 ⟨y, H2, I2, r2, q2⟩ => ?_))
  refine wpAny_bind (wpAny_standAt (wpAny_bind (wpAny_holding (thn (hs pins s2 σ H2 x y v ov iv u _ I2 r1 r2 r q2) fun _ s3 ⟨H3, I3, q3⟩ => ?_))))
  exact wpAny_release ⟨σ, H3, I3, q3⟩
def tAsg (te : TE) (g : TG) : TS := fun D σ H => te σ H fun x H1 => g x σ H1 D.nx
theorem ps_asg {tg e : Expr} {te : TE} {g : TG} (he : PE X e te) (hg : PG X tg g) (hs : swapsWithSole [tg] e pos.line X.env = pure false := by rfl) (hw : swappedStores [tg] e X.env = pure none := by rfl)
    (h1 : (assignEach [tg] X.env).map (·.2) = [assign tg X.env] := by rfl) : PS X (.Assign [tg] e pos) (tAsg te g) := by
  intro pins s σ H D I h
  refine wpAny_Assign_stores (thn (he pins s σ H _ I h) fun v s1 ⟨x, H1, I1, r1, q1⟩ => ?_) hs hw
  rw [h1]
  exact thn (hg pins s1 σ H1 x v _ I1 r1 q1) fun _ s2 q => q
theorem ps_set {i : Nat} {x : Str} {e : Expr} {te : TE} {pos' : Pos} (hN : X.N.Nodup) (hi : X.N[i]? = some x) (hx : Loc X.env.scope x) (he : PE X e te) (hs : swapsWith e (some (.Name x pos')) pos.line X.env = pure false := by rfl) (hf : X.fn x = true ∨ X.env.scope.names.lookup x = some .local := by first | exact .inl rfl | exact .inr rfl | assumption) :
    PS X (.Assign [.Name x pos'] e pos) (tAsg te (gName i)) := by
  intro pins s σ H D I h
  refine wpAny_Assign_Name (thn (he pins s σ H _ I h) fun v s1 ⟨y, H1, I1, r1, q1⟩ => ?_) hs
  exact store_ok I1 hN hi hx r1 (fun s2 I2 => ⟨_, H1, I2, q1⟩) hf
end
section
variable {X : Cx} {pos : Pos}
end
structure It where
  go : Nat → Hp → Prop
  yld : Nat → Hp → V → Hp → Prop
  stop : Nat → Hp → Prop
def FpOk (X : Cx) (pins : List (Addr × Obj)) (H : Hp) (b : Addr) : Prop :=
  H b = none ∧ b ≠ X.env.locals ∧ b ∉ X.fs ∧ (b ∈ X.ex ∨ X.s_0.heap.objs.size ≤ b) ∧ (∀ x c, X.env.cells.lookup x = some c → c ≠ b) ∧ ∀ p ∈ X.pn ++ pins, p.1 ≠ b
theorem Inv.fpOk {X : Cx} {pins : List (Addr × Obj)} {σ : St} {H H' : Hp} {s : Shared} {b : Addr} (I : Inv X pins σ H s) (hb : s.heap.objs.size ≤ b) (hn : H' b = none) : FpOk X pins H' b := by
  refine ⟨hn, Nat.ne_of_gt (Nat.lt_of_lt_of_le I.lt hb), I.nofs hb, .inr (Nat.le_trans I.sz hb), fun x c e z => ?_, fun p hp z => ?_⟩
  · obtain ⟨v, q⟩ := I.cell x c e
    exact absurd (Nat.lt_of_lt_of_le q.lt (by rw [z]; exact hb)) (Nat.lt_irrefl _)
  · exact absurd (Nat.lt_of_lt_of_le (Heap.lt_size (I.pin p hp).1) (by rw [z]; exact hb)) (Nat.lt_irrefl _)
structure Turn (P : Program) (w : World) (K : PySem.W.Frag) (tg : Expr) (J : It) (fp : List Addr) (it : Addr) (tn : Nat → Heap → Prop) : Prop where
  mem : it ∈ fp
  obj : ∀ i h, tn i h → ∀ b ∈ fp, ∃ o, h.get? b = some o ∧ ∀ v, o.data ≠ .cell v
  keep : ∀ i h h', tn i h → (∀ b ∈ fp, ∀ o, h.get? b = some o → h'.get? b = some o) → tn i h'
  item : ∀ (X : Cx), X.prog = P → X.w = w → X.K = K → X.calm = true → ∀ (i : Nat) (pins : List (Addr × Obj)) (s : Shared) (σ : St) (H : Hp) (E : Value → Shared → Prop), Inv X pins σ H s → (∀ b ∈ fp, FpOk X pins H b) → tn i s.heap → J.go i H →
    wpAny (model P w) X.A (pyNext (.ref it)) (fun r s1 => ∃ u, r = some u ∧
      wpAny (model P w) X.A (letOwnedTupleGo tg (.ref it) u) (fun _ s2 => ∃ x H', Inv X pins σ H' s2 ∧ RelV x u ∧ J.yld i H x H' ∧ tn (i + 1) s2.heap ∧ ∀ b ∈ fp, H' b = none) E s1) E s
  done : ∀ (X : Cx), X.prog = P → X.w = w → X.K = K → X.calm = true → ∀ (i : Nat) (pins : List (Addr × Obj)) (s : Shared) (σ : St) (H : Hp) (E : Value → Shared → Prop), Inv X pins σ H s → (∀ b ∈ fp, FpOk X pins H b) → tn i s.heap → J.stop i H →
    wpAny (model P w) X.A (pyNext (.ref it)) (fun r s1 => r = none ∧ Inv X pins σ H s1) E s
  self : ∀ (A : Around) (i : Nat) (s : Shared) (Q : Value → Shared → Prop) (E : Value → Shared → Prop), tn i s.heap → Q (.ref it) s → wpAny (model P w) A (pyIter (.ref it)) Q E s
abbrev TI := St → Hp → (It → Hp → Prop) → Prop
def PIE (X : Cx) (pins : List (Addr × Obj)) (σ : St) (tg : Expr) (R : It → Hp → Prop) (itv : Value) (s2 : Shared) : Prop :=
  ∃ (it : Addr) (fp : List Addr) (tn : Nat → Heap → Prop) (J : It) (H' : Hp), itv = .ref it ∧ Inv X pins σ H' s2 ∧ Turn X.prog X.w X.K tg J fp it tn ∧ tn 0 s2.heap ∧ (∀ b ∈ fp, FpOk X pins H' b) ∧ R J H'
def PI (X : Cx) (tg iter : Expr) (wi : TI) : Prop :=
  ∀ (pins : List (Addr × Obj)) (s : Shared) (σ : St) (H : Hp) (R : It → Hp → Prop), Inv X pins σ H s → wi σ H R →
    wpAny (model X.prog X.w) X.A (eval iter X.env) (fun v s1 => wpAny (model X.prog X.w) X.A (pyIter v) (PIE X pins σ tg R) X.xe s1) X.xe s
theorem go_of {M : Model} {A : Around} {E : Value → Shared → Prop} {s : Shared} {tg : Expr} {it : Addr} {u : Value} {o : Obj} {n : String} {vs : Array Value} {Q : Unit → Shared → Prop} (ho : s.heap.get? it = some o) (hc : o.cls = .type n) (hd : o.data = .fields vs)
    (hn : ["enumerate", "zip", "dict_itemiterator", "dict_reverseitemiterator", "odict_iterator", "itertools.zip_longest", "itertools.pairwise"].contains n = false) (hQ : Q () s) : wpAny M A (letOwnedTupleGo tg (.ref it) u) Q E s := by
  unfold letOwnedTupleGo
  cases tg <;> first
    | exact wpAny_pure hQ
    | (cases u <;> first
        | exact wpAny_pure hQ
        | (refine wpAny_bind (wpAny_load ho ?_)
           rw [hc, hd]
           show wpAny M A (if (["enumerate", "zip", "dict_itemiterator", "dict_reverseitemiterator", "odict_iterator", "itertools.zip_longest", "itertools.pairwise"].contains n && vs[0]? == some (rawInt _)) = true then _ else _) Q E s
           rw [if_neg (by intro h; rw [hn, Bool.false_and] at h; cases h)]
           exact wpAny_pure hQ))
def Itl (K : PySem.W.Frag) (a : Addr) : It :=
  ⟨fun i H => ∃ xs x, SqL K H a xs ∧ xs[i]? = some x, fun i H x H' => H' = H ∧ ∀ xs, SqL K H a xs → xs[i]? = some x, fun i H => ∃ xs, SqL K H a xs ∧ xs.length ≤ i⟩
def Itt (K : PySem.W.Frag) (a : Addr) : It :=
  ⟨fun i H => ∃ xs x, SqT K H a xs ∧ xs[i]? = some x, fun i H x H' => H' = H ∧ ∀ xs, SqT K H a xs → xs[i]? = some x, fun i H => ∃ xs, SqT K H a xs ∧ xs.length ≤ i⟩
def Itr (lo : Int) (n : Nat) : It := ⟨fun i _ => i < n, fun i H x H' => H' = H ∧ x = .int (lo + i), fun i _ => n ≤ i⟩
theorem turn_list {P : Program} {w : World} {K : PySem.W.Frag} {tg : Expr} (a it : Addr) : Turn P w K tg (Itl K a) [it] it (fun i h => h.IsListIter it a i) where
  mem := by simp
  obj := fun i h st b hb => by
    have e : b = it := by simpa using hb
    subst e
    obtain ⟨o, e, c, d⟩ := st
    exact ⟨o, e, fun v z => by rw [d] at z; cases z⟩
  keep := fun i h h' st k => st.at fun o e => k it (by simp) o e
  item := by
    intro X hP hw hK hc i pins s σ H E I hf st hg
    subst hP hw hK
    obtain ⟨xs, x, hq, hx⟩ := hg
    obtain ⟨its, rv, p, hz⟩ := I.list hq
    obtain ⟨u, hu, ru⟩ := rv.get hx
    obtain ⟨f0, f1, f2, f3, f4, f5⟩ := hf it (by simp)
    refine wpAny_pyNext_list_item st p.isList (x := u) (by simpa using hu) fun h' st' sb => ?_
    have I1 : Inv X pins σ H { s with heap := h' } := I.turned (t' := s.toks) (fun b o hb e => (sb.2 b hb).trans e) f0 f1 f3 f4 f5
    obtain ⟨o, e, c, d⟩ := id st'
    exact ⟨u, rfl, go_of (s := { s with heap := h' }) e c d (by decide) ⟨x, H, I1, ru, ⟨rfl, fun ys hy => by rw [I.list_inj hy hq]; exact hx⟩, st', fun b hb => (hf b hb).1⟩⟩
  done := by
    intro X hP hw hK hc i pins s σ H E I hf st hg
    subst hP hw hK
    obtain ⟨xs, hq, hx⟩ := hg
    obtain ⟨its, rv, p, hz⟩ := I.list hq
    obtain ⟨f0, f1, f2, f3, f4, f5⟩ := hf it (by simp)
    have hl := rv.length
    exact wpAny_pyNext_list_end (I.ok.hd hc) st p.isList (by simp; omega) fun h' eb => ⟨rfl, I.turned (t' := s.toks) (fun b o hb e => eb b o hb e) f0 f1 f3 f4 f5⟩
  self := fun _ _ _ _ _ st h => wpAny_pyIter_listiter st h
theorem turn_tuple {P : Program} {w : World} {K : PySem.W.Frag} {tg : Expr} (a it : Addr) : Turn P w K tg (Itt K a) [it] it (fun i h => h.IsTupleIter it a i) where
  mem := by simp
  obj := fun i h st b hb => by
    have e : b = it := by simpa using hb
    subst e
    obtain ⟨o, e, c, d⟩ := st
    exact ⟨o, e, fun v z => by rw [d] at z; cases z⟩
  keep := fun i h h' st k => st.at fun o e => k it (by simp) o e
  item := by
    intro X hP hw hK hc i pins s σ H E I hf st hg
    subst hP hw hK
    obtain ⟨xs, x, hq, hx⟩ := hg
    obtain ⟨its, rv, p, hz⟩ := I.tuple hq
    obtain ⟨u, hu, ru⟩ := rv.get hx
    obtain ⟨f0, f1, f2, f3, f4, f5⟩ := hf it (by simp)
    refine wpAny_pyNext_tuple_item st (show s.heap.IsTuple a its.toArray from p) (x := u) (by simpa using hu) fun h' st' sb => ?_
    have I1 : Inv X pins σ H { s with heap := h' } := I.turned (t' := s.toks) (fun b o hb e => (sb.2 b hb).trans e) f0 f1 f3 f4 f5
    obtain ⟨o, e, c, d⟩ := id st'
    exact ⟨u, rfl, go_of (s := { s with heap := h' }) e c d (by decide) ⟨x, H, I1, ru, ⟨rfl, fun ys hy => by rw [I.tuple_inj hy hq]; exact hx⟩, st', fun b hb => (hf b hb).1⟩⟩
  done := by
    intro X hP hw hK hc i pins s σ H E I hf st hg
    subst hP hw hK
    obtain ⟨xs, hq, hx⟩ := hg
    obtain ⟨its, rv, p, hz⟩ := I.tuple hq
    obtain ⟨f0, f1, f2, f3, f4, f5⟩ := hf it (by simp)
    have hl := rv.length
    exact wpAny_pyNext_tuple_end (I.ok.hd hc) st (show s.heap.IsTuple a its.toArray from p) (by simp; omega) fun h' eb => ⟨rfl, I.turned (t' := s.toks) (fun b o hb e => eb b o hb e) f0 f1 f3 f4 f5⟩
  self := fun _ _ _ _ _ st h => wpAny_pyIter_tupleiter st h
theorem turn_range {P : Program} {w : World} {K : PySem.W.Frag} {tg : Expr} (it : Addr) (lo : Int) (n : Nat) : Turn P w K tg (Itr lo n) [it] it (fun i h => IsRangeIter h it (lo + (i : Nat) * 1) ((n : Int) - (i : Nat)) 1) where
  mem := by simp
  obj := fun i h st b hb => by
    have e : b = it := by simpa using hb
    subst e
    exact ⟨_, st, fun v z => by
      have z' : Data.fields _ = Data.cell v := z
      cases z'⟩
  keep := fun i h h' st k => k it (by simp) _ st
  item := by
    intro X hP hw hK hc i pins s σ H E I hf st hg
    subst hP hw hK
    obtain ⟨f0, f1, f2, f3, f4, f5⟩ := hf it (by simp)
    have W := Walks.range (prog := X.prog) (w := X.w) (I.ok.hd hc) it lo 1 n
    refine W.item i s _ _ hg st fun v h' tk hv st' kk => ?_
    obtain ⟨t, rfl⟩ := hv
    have I1 : Inv X pins σ H { s with heap := h', toks := tk } := I.turned (fun b o hb e => kk b o (by simpa using hb) e) f0 f1 f3 f4 f5
    refine ⟨_, rfl, go_of (s := { s with heap := h', toks := tk }) (n := "range_iterator") st' rfl rfl (by decide) ⟨.int (lo + i), H, I1, ⟨t, ?_⟩, ⟨rfl, rfl⟩, st', fun b hb => (hf b hb).1⟩⟩
    rw [Int.mul_one]
  done := by
    intro X hP hw hK hc i pins s σ H E I hf st hg
    subst hP hw hK
    obtain ⟨f0, f1, f2, f3, f4, f5⟩ := hf it (by simp)
    exact wpAny_pyNext_range_end (I.ok.hd hc) st (by have : n ≤ i := hg; omega) fun h' eb => ⟨rfl, I.turned (t' := s.toks) (fun b o hb e => eb b o hb e) f0 f1 f3 f4 f5⟩
  self := fun _ _ _ _ _ st h => wpAny_pyIter_rangeiter st h
end L2
namespace L2
open PySem PySem.Spec PyProof.Rows
section
variable {X : Cx} {tg : Expr}
def iList (K : PySem.W.Frag) (tl : TE) : TI := fun σ H R => tl σ H fun x H1 => ∃ a, x = .ref a ∧ (∃ xs, SqL K H1 a xs) ∧ R (Itl K a) H1
def iTup (K : PySem.W.Frag) (tl : TE) : TI := fun σ H R => tl σ H fun x H1 => ∃ a, x = .ref a ∧ (∃ xs, SqT K H1 a xs) ∧ R (Itt K a) H1
theorem pi_list {l : Expr} {tl : TE} (hl : PE X l tl) : PI X tg l (iList X.K tl) := by
  intro pins s σ H R I h
  refine thn (hl pins s σ H _ I h) fun v s1 ⟨x, H1, I1, r1, q1⟩ => ?_
  obtain ⟨a, e, ⟨xs, hq⟩, q⟩ := q1
  subst e
  cases r1
  obtain ⟨its, rv, p, hz⟩ := I1.list hq
  refine wpAny_pyIter_list p.isList ?_
  refine ⟨s1.heap.objs.size, [s1.heap.objs.size], _, _, H1, rfl, I1.kept (t' := s1.toks) fun b o e => Heap.get?_push_of_some _ e, turn_list a _, ⟨_, Heap.get?_push_size _ rfl, rfl, rfl⟩, fun b hb => ?_, q⟩
  have e : b = s1.heap.objs.size := by simpa using hb
  subst e
  exact I1.fpOk (Nat.le_refl _) (I1.hok.fresh (Nat.le_refl _))
theorem pi_tup {l : Expr} {tl : TE} (hl : PE X l tl) : PI X tg l (iTup X.K tl) := by
  intro pins s σ H R I h
  refine thn (hl pins s σ H _ I h) fun v s1 ⟨x, H1, I1, r1, q1⟩ => ?_
  obtain ⟨a, e, ⟨xs, hq⟩, q⟩ := q1
  subst e
  cases r1
  obtain ⟨its, rv, p, hz⟩ := I1.tuple hq
  refine wpAny_pyIter_tuple (show s1.heap.IsTuple a its.toArray from p) ?_
  refine ⟨s1.heap.objs.size, [s1.heap.objs.size], _, _, H1, rfl, I1.kept (t' := s1.toks) fun b o e => Heap.get?_push_of_some _ e, turn_tuple a _, ⟨_, Heap.get?_push_size _ rfl, rfl, rfl⟩, fun b hb => ?_, q⟩
  have e : b = s1.heap.objs.size := by simpa using hb
  subst e
  exact I1.fpOk (Nat.le_refl _) (I1.hok.fresh (Nat.le_refl _))
theorem range_it {pins : List (Addr × Obj)} {σ : St} {H : Hp} {s : Shared} {R : It → Hp → Prop} {E : Value → Shared → Prop} {lo hi : Int} {t u v : Tok} {tk : Nat} (I : Inv X pins σ H s) (h1 : -(2 ^ 62) ≤ lo) (h2 : lo < 2 ^ 62) (h3 : -(2 ^ 62) ≤ hi) (h4 : hi < 2 ^ 62)
    (q : R (Itr lo (hi - lo).toNat) H) : wpAny (model X.prog X.w) X.A (pyIter (.ref s.heap.objs.size)) (PIE X pins σ tg R) E { s with heap := s.heap.push { cls := .type "range", data := .fields #[.int lo t, .int hi u, .int 1 v] }, toks := tk } := by
  refine wpAny_pyIter_range (IsRange.new ..) (small_one h1 h2 h3 h4) ?_
  have I1 : Inv X pins σ H { s with heap := s.heap.push { cls := .type "range", data := .fields #[.int lo t, .int hi u, .int 1 v] }, toks := tk } := I.kept fun b o e => Heap.get?_push_of_some _ e
  refine ⟨(s.heap.push { cls := .type "range", data := .fields #[.int lo t, .int hi u, .int 1 v] }).objs.size, [(s.heap.push { cls := .type "range", data := .fields #[.int lo t, .int hi u, .int 1 v] }).objs.size], _, _, H, rfl,
    I1.kept (t' := tk) fun b o e => Heap.get?_push_of_some _ e, turn_range _ lo (hi - lo).toNat, ?_, fun b hb => ?_, q⟩
  · have e1 : lo + ((0 : Nat) : Int) * 1 = lo := by simp
    have e2 : (((hi - lo).toNat : Nat) : Int) - ((0 : Nat) : Int) = Builtin.Range.rangeSize lo hi 1 := by rw [rangeSize_one]; split <;> omega
    show IsRangeIter _ _ (lo + ((0 : Nat) : Int) * 1) ((((hi - lo).toNat : Nat) : Int) - ((0 : Nat) : Int)) 1
    rw [e1, e2]
    exact Heap.get?_push_size _ rfl
  · have e : b = (s.heap.push { cls := .type "range", data := .fields #[.int lo t, .int hi u, .int 1 v] }).objs.size := by simpa using hb
    subst e
    exact I1.fpOk (Nat.le_refl _) (I1.hok.fresh (Nat.le_refl _))
def iRng1 (ta : TA) : TI := fun σ H R => ta σ H fun vs H1 => ∃ j : Int, vs = [.int j] ∧ -(2 ^ 62) ≤ j ∧ j < 2 ^ 62 ∧ R (Itr 0 j.toNat) H1
theorem pi_range1 {a : Expr} {ta : TA} {p pos : Pos} (hg : Gl X "range") (hm : X.mg "range" = none) (ha : PA X [a] ta) (hs : starEach [a] X.env = [(false, eval a X.env)] := by rfl) : PI X tg (.Call (.Name "range" p) [a] [] pos) (iRng1 ta) := by
  intro pins s σ H R I h
  refine Call_ (ld_blt I hg hm boot_range (PyProof.Rows.callWith_type1 (thn (ha pos pins s σ H _ I h) fun us s1 ⟨vs, H1, I1, r1, q1⟩ => ?_) hs rfl))
  obtain ⟨j, e, q1, q2, q⟩ := q1
  subst e
  cases r1 with
  | cons r rr =>
    cases rr
    obtain ⟨t, rfl⟩ := r
    exact call_range_1 (range_it I1 (by omega) (by omega) q1 q2 (by simpa using q))
def tFor (wi : TI) (g : TG) (tb : TS) : TS := fun D σ H => wi σ H fun J H1 => ∃ W : Nat → Nat → St → Hp → Prop, (∃ m, W 0 m σ H1) ∧ ∀ i m σ H, W i m σ H →
  (J.stop i H ∧ D.nx σ H) ∨ (J.go i H ∧ ∃ N : St → Hp → Prop, (∀ σ' H', N σ' H' → ∃ m', m' < m ∧ W (i + 1) m' σ' H') ∧ ∀ x H', J.yld i H x H' → g x σ H' fun σ2 H2 => tb { D with nx := N, ct := N, bk := D.nx } σ2 H2)
def pinsAt (fp : List Addr) (h : Heap) : List (Addr × Obj) := fp.filterMap fun b => (h.get? b).map fun o => (b, o)
theorem mem_pinsAt {fp : List Addr} {h : Heap} {b : Addr} {o : Obj} (hb : b ∈ fp) (e : h.get? b = some o) : (b, o) ∈ pinsAt fp h := List.mem_filterMap.mpr ⟨b, hb, by rw [e]; rfl⟩
theorem of_pinsAt {fp : List Addr} {h : Heap} {p : Addr × Obj} (hp : p ∈ pinsAt fp h) : p.1 ∈ fp ∧ h.get? p.1 = some p.2 := by
  obtain ⟨b, hb, e⟩ := List.mem_filterMap.mp hp
  cases q : h.get? b with
  | none => rw [q] at e; cases e
  | some o =>
    rw [q] at e
    have e' : (b, o) = p := Option.some.inj e
    subst e'
    exact ⟨hb, q⟩
theorem Inv.pinned {pins : List (Addr × Obj)} {σ : St} {H : Hp} {s : Shared} {fp : List Addr} (I : Inv X pins σ H s) (hf : ∀ b ∈ fp, FpOk X pins H b) (ho : ∀ b ∈ fp, ∃ o, s.heap.get? b = some o ∧ ∀ v, o.data ≠ .cell v) : Inv X (pins ++ pinsAt fp s.heap) σ H s :=
  I.pins_of fun p hp => (List.mem_append.mp hp).elim (fun z => I.pin p (List.mem_append_right _ z)) fun z => by
    obtain ⟨hb, e⟩ := of_pinsAt z
    obtain ⟨f0, f1, f2, _⟩ := hf p.1 hb
    obtain ⟨o, e', d⟩ := ho p.1 hb
    rw [e] at e'; cases e'
    exact ⟨e, f0, f1, f2, d⟩
theorem Inv.unpinned {pins pl : List (Addr × Obj)} {σ : St} {H : Hp} {s : Shared} (I : Inv X (pins ++ pl) σ H s) : Inv X pins σ H s := I.pins_of fun p hp => I.pin p (List.mem_append_right _ (List.mem_append_left _ hp))
theorem ps_for {iter : Expr} {body : List Stmt} {wi : TI} {g : TG} {tb : TS} {pos : Pos} (hp : PassesOwn (model X.prog X.w) X.A X.env X.xe) (hc : X.calm = true) (hi : PI X tg iter wi) (hg : PG X tg g) (hb : PSs X body tb)
    (hs : ∀ x, foldedSetIterable iter X.env x = pure x := by intro _; rfl) : PS X (.For tg iter body [] pos) (tFor wi g tb) := by
  intro pins s σ H D I h
  refine wpAny_For (thn (hi pins s σ H _ I h) fun v s1 h1 => thn h1 fun itv s2 h2 => ?_) hs
  obtain ⟨it, fp, tn, J, H2, e, I2, T, st2, f2, W, ⟨m0, w0⟩, turn⟩ := h2
  subst e
  have stat : ∀ {H' : Hp}, (∀ b ∈ fp, H' b = none) → ∀ b ∈ fp, FpOk X pins H' b := fun hn b hb => ⟨hn b hb, (f2 b hb).2⟩
  refine codeAny_forLoop_any (fun n s' => ∃ i σ' H', Inv X pins σ' H' s' ∧ tn i s'.heap ∧ (∀ b ∈ fp, H' b = none) ∧ W i n σ' H') ?_ m0 ⟨0, σ, H2, I2, st2, fun b hb => (f2 b hb).1, w0⟩
  rintro n s3 ⟨i, σ3, H3, I3, st3, fr3, w3⟩
  rcases turn i n σ3 H3 w3 with ⟨stop, qn⟩ | ⟨go, N, hN, step⟩
  · refine wpAny_passesOwn hp (thn (T.done X rfl rfl rfl hc i pins s3 σ3 H3 X.xe I3 (stat fr3) st3 stop) fun r s4 ⟨hr, I4⟩ => ?_)
    subst hr
    exact wpAny_execs_nil ⟨σ3, H3, I4, qn⟩
  · refine wpAny_passesOwn hp (thn (T.item X rfl rfl rfl hc i pins s3 σ3 H3 X.xe I3 (stat fr3) st3 go) fun r s4 ⟨u, hr, h4⟩ => ?_)
    subst hr
    refine wpAny_passesOwn hp (thn h4 fun _ s5 ⟨x, H5, I5, r5, y5, st5, fr5⟩ => ?_)
    have I5' := I5.pinned (stat fr5) (T.obj _ _ st5)
    refine wpAny_passesOwn hp (thn (hg _ s5 σ3 H5 x u _ I5' r5 (step x H5 y5)) fun _ s6 ⟨σ6, H6, I6, q6⟩ => ?_)
    refine wpAny_passesOwn hp (thn (hb _ s6 σ6 H6 _ I6 q6) fun f s7 q7 => ?_)
    have again : ∀ {σ7 : St} {H7 : Hp}, Inv X (pins ++ pinsAt fp s5.heap) σ7 H7 s7 → N σ7 H7 → ∃ m, m < n ∧ ∃ i σ' H', Inv X pins σ' H' s7 ∧ tn i s7.heap ∧ (∀ b ∈ fp, H' b = none) ∧ W i m σ' H' := fun {σ7 H7} I7 n7 => by
      obtain ⟨m', hm, w7⟩ := hN σ7 H7 n7
      refine ⟨m', hm, i + 1, σ7, H7, I7.unpinned, T.keep _ _ _ st5 fun b hb o e => (I7.pin (b, o) (List.mem_append_right _ (List.mem_append_right _ (mem_pinsAt hb e)))).1, fun b hb => ?_, w7⟩
      obtain ⟨o, e, d⟩ := T.obj _ _ st5 b hb
      exact (I7.pin (b, o) (List.mem_append_right _ (List.mem_append_right _ (mem_pinsAt hb e)))).2.1
    cases f with
    | next => obtain ⟨σ7, H7, I7, n7⟩ := q7; exact again I7 n7
    | cont => obtain ⟨σ7, H7, I7, n7⟩ := q7; exact again I7 n7
    | brk => obtain ⟨σ7, H7, I7, q7⟩ := q7; exact ⟨σ7, H7, I7.unpinned, q7⟩
    | ret v => obtain ⟨x7, σ7, H7, I7, r7, q7⟩ := q7; exact ⟨x7, σ7, H7, I7.unpinned, r7, q7⟩
end
theorem for_list {K : PySem.W.Frag} {a : Addr} {xs : List V} {g : TG} {tb : TS} {D : Ends} {σ : St} {H : Hp} (Pv : Nat → St → Hp → Prop) (h0 : Pv 0 σ H) (hl : ∀ i σ H, i ≤ xs.length → Pv i σ H → SqL K H a xs)
    (hs : ∀ i x σ H, xs[i]? = some x → Pv i σ H → g x σ H fun σ2 H2 => tb { D with nx := Pv (i + 1), ct := Pv (i + 1), bk := D.nx } σ2 H2) (hd : ∀ σ H, Pv xs.length σ H → D.nx σ H) :
    ∃ W : Nat → Nat → St → Hp → Prop, (∃ m, W 0 m σ H) ∧ ∀ i m σ H, W i m σ H →
      ((Itl K a).stop i H ∧ D.nx σ H) ∨ ((Itl K a).go i H ∧ ∃ N : St → Hp → Prop, (∀ σ' H', N σ' H' → ∃ m', m' < m ∧ W (i + 1) m' σ' H') ∧ ∀ x H', (Itl K a).yld i H x H' → g x σ H' fun σ2 H2 => tb { D with nx := N, ct := N, bk := D.nx } σ2 H2) := by
  refine ⟨fun i m σ H => m = xs.length - i ∧ i ≤ xs.length ∧ Pv i σ H, ⟨xs.length, by simp, Nat.zero_le _, h0⟩, ?_⟩
  rintro i m σ H ⟨rfl, hi, p⟩
  have q := hl i σ H hi p
  by_cases hlt : i < xs.length
  · refine .inr ⟨⟨xs, xs[i], q, by simp [hlt]⟩, Pv (i + 1), fun σ' H' p' => ⟨xs.length - (i + 1), by omega, rfl, hlt, p'⟩, fun x H' y => ?_⟩
    obtain ⟨e, y⟩ := y
    subst e
    exact hs i x σ _ (y xs q) p
  · have e : i = xs.length := by omega
    subst e
    exact .inl ⟨⟨xs, q, Nat.le_refl _⟩, hd σ H p⟩
theorem for_range {lo : Int} {n : Nat} {g : TG} {tb : TS} {D : Ends} {σ : St} {H : Hp} (Pv : Nat → St → Hp → Prop) (h0 : Pv 0 σ H)
    (hs : ∀ i σ H, i < n → Pv i σ H → g (.int (lo + i)) σ H fun σ2 H2 => tb { D with nx := Pv (i + 1), ct := Pv (i + 1), bk := D.nx } σ2 H2) (hd : ∀ σ H, Pv n σ H → D.nx σ H) :
    ∃ W : Nat → Nat → St → Hp → Prop, (∃ m, W 0 m σ H) ∧ ∀ i m σ H, W i m σ H →
      ((Itr lo n).stop i H ∧ D.nx σ H) ∨ ((Itr lo n).go i H ∧ ∃ N : St → Hp → Prop, (∀ σ' H', N σ' H' → ∃ m', m' < m ∧ W (i + 1) m' σ' H') ∧ ∀ x H', (Itr lo n).yld i H x H' → g x σ H' fun σ2 H2 => tb { D with nx := N, ct := N, bk := D.nx } σ2 H2) := by
  refine ⟨fun i m σ H => m = n - i ∧ i ≤ n ∧ Pv i σ H, ⟨n, by simp, Nat.zero_le _, h0⟩, ?_⟩
  rintro i m σ H ⟨rfl, hi, p⟩
  by_cases hlt : i < n
  · refine .inr ⟨hlt, Pv (i + 1), fun σ' H' p' => ⟨n - (i + 1), by omega, rfl, hlt, p'⟩, fun x H' y => ?_⟩
    obtain ⟨e, y⟩ := y
    subst e y
    exact hs i σ _ hlt p
  · have e : i = n := by omega
    subst e
    exact .inl ⟨Nat.le_refl _, hd σ H p⟩
end L2
namespace L2
open PySem PySem.Spec PyProof.Rows
abbrev R2 := V → V → Hp → VK → Prop
def OpR (X : Cx) (f : Value → Value → Sem Value) (r : R2) : Prop :=
  ∀ (pins : List (Addr × Obj)) (s : Shared) (σ : St) (H : Hp) (x y : V) (v u : Value) (Q : VK), Inv X pins σ H s → RelV x v → RelV y u → r x y H Q →
    wpAny (model X.prog X.w) X.A (f v u) (EP X pins σ Q) X.xe s
def UnR (X : Cx) (f : Value → Sem Value) (r : V → Hp → VK → Prop) : Prop :=
  ∀ (pins : List (Addr × Obj)) (s : Shared) (σ : St) (H : Hp) (x : V) (v : Value) (Q : VK), Inv X pins σ H s → RelV x v → r x H Q →
    wpAny (model X.prog X.w) X.A (f v) (EP X pins σ Q) X.xe s
def CallR (X : Cx) (f : Value) (r : List V → Hp → VK → Prop) : Prop :=
  ∀ (pins : List (Addr × Obj)) (s : Shared) (σ : St) (H : Hp) (xs : List V) (us : List Value) (Q : VK), Inv X pins σ H s → Vals xs us → r xs H Q →
    wpAny (model X.prog X.w) X.A (call f us) (EP X pins σ Q) X.xe s
def TruR (X : Cx) (r : V → Hp → (Bool → Hp → Prop) → Prop) : Prop :=
  ∀ (pins : List (Addr × Obj)) (s : Shared) (σ : St) (H : Hp) (x : V) (v : Value) (Q : Bool → Hp → Prop), Inv X pins σ H s → RelV x v → r x H Q →
    wpAny (model X.prog X.w) X.A (truthy v) (TP X pins σ Q) X.xe s
def tOp (r : R2) (ta tb : TE) : TE := fun σ H Q => ta σ H fun x H1 => tb σ H1 fun y H2 => r x y H2 Q
def tUn (r : V → Hp → VK → Prop) (ta : TE) : TE := fun σ H Q => ta σ H fun x H1 => r x H1 Q
def rI (C : Int → Int → Prop) (g : Int → Int → V) : R2 := fun x y H Q => ∃ i j, x = .int i ∧ y = .int j ∧ C i j ∧ Q (g i j) H
def rI0 (g : Int → Int → V) : R2 := fun x y H Q => ∃ i j, x = .int i ∧ y = .int j ∧ Q (g i j) H
def rU (g : Int → V) : V → Hp → VK → Prop := fun x H Q => ∃ i, x = .int i ∧ Q (g i) H
section
variable {X : Cx} {a b c : Expr} {ta tb tc : TE} {pos : Pos}
theorem binT (ha : PE X a ta) (hb : PE X b tb) {pins : List (Addr × Obj)} {s : Shared} {σ : St} {H : Hp} {R : V → V → Hp → Prop} (I : Inv X pins σ H s)
    (h : ta σ H fun x H1 => tb σ H1 fun y H2 => R x y H2) {Q : Value → Shared → Prop} {f : Value → Value → Sem Value}
    (hf : ∀ v u s2 x y H2, Inv X pins σ H2 s2 → RelV x v → RelV y u → R x y H2 → wpAny (model X.prog X.w) X.A (f v u) Q X.xe s2) :
    wpAny (model X.prog X.w) X.A (eval a X.env) (fun v s₁ => wpAny (model X.prog X.w) X.A (eval b X.env) (fun u s₂ => wpAny (model X.prog X.w) X.A (f v u) Q X.xe s₂) X.xe s₁) X.xe s := by
  refine thn (ha pins s σ H _ I h) fun v s1 ⟨x, H1, I1, r1, q1⟩ => ?_
  refine thn (hb pins s1 σ H1 _ I1 q1) fun u s2 ⟨y, H2, I2, r2, q2⟩ => ?_
  exact hf v u s2 x y H2 I2 r1 r2 q2
theorem pe_op {op : Operator} {r : R2} (ho : OpR X (binaryOp op) r) (ha : PE X a ta) (hb : PE X b tb) : PE X (.BinOp a op b pos) (tOp r ta tb) := by
  intro pins s σ H Q I h
  exact wpAny_BinOp (binT ha hb I h fun v u s2 x y H2 I2 rx ry q => ho pins s2 σ H2 x y v u Q I2 rx ry q)
theorem pe_un {op : UnaryOp} {r : V → Hp → VK → Prop} (ho : UnR X (unaryOp op) r) (ha : PE X a ta) : PE X (.UnaryOp op a pos) (tUn r ta) := by
  intro pins s σ H Q I h
  exact UnaryOp_ (thn (ha pins s σ H _ I h) fun v s1 ⟨x, H1, I1, r1, q1⟩ => ho pins s1 σ H1 x v Q I1 r1 q1)
theorem opI {f : Value → Value → Sem Value} {C : Int → Int → Prop} {g : Int → Int → Int}
    (rule : ∀ (i j : Int) (t u : Tok) (s : Shared) (Q : Value → Shared → Prop) (E : Value → Shared → Prop), C i j → Q (.int (g i j) s.toks) { s with toks := s.toks + 1 } → wpAny (model X.prog X.w) X.A (f (.int i t) (.int j u)) Q E s) :
    OpR X f (rI C fun i j => .int (g i j)) := by
  intro pins s σ H x y v u Q I rx ry h
  obtain ⟨i, j, rfl, rfl, hc, q⟩ := h
  obtain ⟨t, rfl⟩ := rx
  obtain ⟨t', rfl⟩ := ry
  exact rule i j t t' s _ _ hc ⟨.int (g i j), H, I.tok _, ⟨_, rfl⟩, q⟩
theorem opI0 {f : Value → Value → Sem Value} {g : Int → Int → Int}
    (rule : ∀ (i j : Int) (t u : Tok) (s : Shared) (Q : Value → Shared → Prop) (E : Value → Shared → Prop), Q (.int (g i j) s.toks) { s with toks := s.toks + 1 } → wpAny (model X.prog X.w) X.A (f (.int i t) (.int j u)) Q E s) :
    OpR X f (rI0 fun i j => .int (g i j)) := by
  intro pins s σ H x y v u Q I rx ry h
  obtain ⟨i, j, rfl, rfl, q⟩ := h
  obtain ⟨t, rfl⟩ := rx
  obtain ⟨t', rfl⟩ := ry
  exact rule i j t t' s _ _ ⟨.int (g i j), H, I.tok _, ⟨_, rfl⟩, q⟩
theorem opB0 {f : Value → Value → Sem Value} {g : Int → Int → Bool}
    (rule : ∀ (i j : Int) (t u : Tok) (s : Shared) (Q : Value → Shared → Prop) (E : Value → Shared → Prop), Q (.bool (g i j)) s → wpAny (model X.prog X.w) X.A (f (.int i t) (.int j u)) Q E s) :
    OpR X f (rI0 fun i j => .bl (g i j)) := by
  intro pins s σ H x y v u Q I rx ry h
  obtain ⟨i, j, rfl, rfl, q⟩ := h
  obtain ⟨t, rfl⟩ := rx
  obtain ⟨t', rfl⟩ := ry
  exact rule i j t t' s _ _ ⟨.bl (g i j), H, I, rfl, q⟩
def CDiv (i j : Int) : Prop := 0 < j ∧ j < 1073741824
def CPow (i j : Int) : Prop := 0 ≤ j ∧ j ≤ 1000000 ∧ i.natAbs < 2 ^ 64
def CMul (i j : Int) : Prop := (-(2 ^ 64) < i ∧ i < 2 ^ 64) ∨ (-(2 ^ 64) < j ∧ j < 2 ^ 64)
theorem CMul.ok {i j : Int} (h : CMul i j) : IntMulOk i j := by
  rcases h with ⟨h1, h2⟩ | ⟨h1, h2⟩
  · exact .of_left (intBits_le_64 h1 h2)
  · exact .of_right (intBits_le_64 h1 h2)
theorem op_add : OpR X (binaryOp .Add) (rI0 fun i j => .int (i + j)) := opI0 fun _ _ _ _ _ _ _ q => add_int q
theorem op_sub : OpR X (binaryOp .Sub) (rI0 fun i j => .int (i - j)) := opI0 fun _ _ _ _ _ _ _ q => sub_int q
theorem op_mul : OpR X (binaryOp .Mult) (rI CMul fun i j => .int (i * j)) := opI fun _ _ _ _ _ _ _ hc q => mul_int q hc.ok
theorem op_fdiv : OpR X (binaryOp .FloorDiv) (rI CDiv fun i j => .int (i / j)) := opI fun i j _ _ _ _ _ hc q => by
  have h1 : (0 : Int) < j := hc.1
  have h2 : j < 1073741824 := hc.2
  exact floordiv_int (by omega) (by rw [Int.fdiv_eq_ediv_of_nonneg i (by omega)]; exact q) (.inl (PyProof.noPylong_small (by omega)))
theorem op_mod : OpR X (binaryOp .Mod) (rI (fun _ j => 0 < j) fun i j => .int (i % j)) := opI fun i j _ _ _ _ _ hc q => by
  have h1 : (0 : Int) < j := hc
  exact mod_int' (by omega) (by rw [Int.fmod_eq_emod_of_nonneg i (by omega)]; exact q)
theorem op_pow : OpR X (binaryOp .Pow) (rI CPow fun i j => .int (i ^ j.toNat)) := opI fun _ _ _ _ _ _ _ hc q => pow_int_small hc.1 hc.2.1 hc.2.2 q
theorem unI {f : Value → Sem Value} {g : Int → Int}
    (rule : ∀ (i : Int) (t : Tok) (s : Shared) (Q : Value → Shared → Prop) (E : Value → Shared → Prop), Q (.int (g i) s.toks) { s with toks := s.toks + 1 } → wpAny (model X.prog X.w) X.A (f (.int i t)) Q E s) :
    UnR X f (rU fun i => .int (g i)) := by
  intro pins s σ H x v Q I rx h
  obtain ⟨i, rfl, q⟩ := h
  obtain ⟨t, rfl⟩ := rx
  exact rule i t s _ _ ⟨.int (g i), H, I.tok _, ⟨_, rfl⟩, q⟩
theorem un_neg : UnR X (unaryOp .USub) (rU fun i => .int (-i)) := unI fun _ _ _ _ _ q => neg_int q
end
def scal : V → V → Bool
  | .non, .non => true | .non, .int _ => true | .int _, .non => true | .non, .bl _ => true | .bl _, .non => true | .non, .str _ => true | .str _, .non => true
  | .int _, .int _ => true | .bl _, .bl _ => true | .str _, .str _ => true | .byt _, .byt _ => true
  | .int _, .str _ => true | .str _, .int _ => true | .bl _, .str _ => true | .str _, .bl _ => true
  | _, _ => false
def rEq : R2 := fun x y H Q => scal x y = true ∧ Q (.bl (decide (x = y))) H
def rNe : R2 := fun x y H Q => scal x y = true ∧ Q (.bl (!decide (x = y))) H
theorem dec_int {i j : Int} : decide (V.int i = V.int j) = (i == j) := by
  rw [Bool.eq_iff_iff]
  simp
theorem dec_bl {i j : Bool} : decide (V.bl i = V.bl j) = (i == j) := by
  rw [Bool.eq_iff_iff]
  simp
theorem dec_str {i j : Str} : decide (V.str i = V.str j) = (i == j) := by
  rw [Bool.eq_iff_iff]
  simp
theorem dec_byt {i j : Array UInt8} : decide (V.byt i = V.byt j) = (i.toList == j.toList) := by
  rw [Bool.eq_iff_iff]
  cases i
  cases j
  simp
section
variable {X : Cx} {a b c : Expr} {ta tb tc : TE} {pos : Pos}
theorem fin_bl {pins : List (Addr × Obj)} {σ : St} {H : Hp} {s : Shared} {Q : VK} {k k' : Bool} (I : Inv X pins σ H s) (q : Q (.bl k) H) (e : k = k') : EP X pins σ Q (.bool k') s := by
  subst e
  exact ⟨.bl k, H, I, rfl, q⟩
theorem op_eq : OpR X (compareOp .Eq) rEq := by
  intro pins s σ H x y v u Q I rx ry h
  obtain ⟨hs, q⟩ := h
  cases x with
  | non =>
    cases rx
    cases y with
    | non => cases ry; exact PySem.EqNone.eq_none_none (fin_bl I q (by simp))
    | bl j => cases ry; exact PySem.EqNone.eq_none_bool (fin_bl I q (by simp))
    | int j => obtain ⟨t', rfl⟩ := ry; exact PySem.EqNone.eq_none_int (fin_bl I q (by simp))
    | str j => obtain ⟨t', rfl⟩ := ry; exact PySem.EqNone.eq_none_str (fin_bl I q (by simp))
    | _ => exact absurd (show false = true from hs) Bool.false_ne_true
  | bl i =>
    cases rx
    cases y with
    | non => cases ry; exact PySem.EqNone.eq_bool_none (fin_bl I q (by simp))
    | bl j => cases ry; exact eq_bool (fin_bl I q dec_bl)
    | str j => obtain ⟨t', rfl⟩ := ry; exact PySem.EqMixed.eq_bool_str (fin_bl I q (by simp))
    | _ => exact absurd (show false = true from hs) Bool.false_ne_true
  | int i =>
    obtain ⟨t, rfl⟩ := rx
    cases y with
    | non => cases ry; exact PySem.EqNone.eq_int_none (fin_bl I q (by simp))
    | int j => obtain ⟨t', rfl⟩ := ry; exact eq_int (fin_bl I q dec_int)
    | str j => obtain ⟨t', rfl⟩ := ry; exact PySem.EqMixed.eq_int_str (fin_bl I q (by simp))
    | _ => exact absurd (show false = true from hs) Bool.false_ne_true
  | str i =>
    obtain ⟨t, rfl⟩ := rx
    cases y with
    | non => cases ry; exact PySem.EqNone.eq_str_none (fin_bl I q (by simp))
    | bl j => cases ry; exact PySem.EqMixed.eq_str_bool (fin_bl I q (by simp))
    | int j => obtain ⟨t', rfl⟩ := ry; exact PySem.EqMixed.eq_str_int (fin_bl I q (by simp))
    | str j => obtain ⟨t', rfl⟩ := ry; exact eq_str (fin_bl I q dec_str)
    | _ => exact absurd (show false = true from hs) Bool.false_ne_true
  | byt i =>
    obtain ⟨t, rfl⟩ := rx
    cases y with
    | byt j => obtain ⟨t', rfl⟩ := ry; exact PySem.W.eq_bytes (fin_bl I q dec_byt)
    | _ => exact absurd (show false = true from hs) Bool.false_ne_true
  | _ => cases y <;> exact absurd (show false = true from hs) Bool.false_ne_true
theorem op_ne : OpR X (compareOp .NotEq) rNe := by
  intro pins s σ H x y v u Q I rx ry h
  obtain ⟨hs, q⟩ := h
  cases x with
  | non =>
    cases rx
    cases y with
    | non => cases ry; exact PySem.EqNone.ne_none_none (fin_bl I q (by simp))
    | bl j => cases ry; exact PySem.EqNone.ne_none_bool (fin_bl I q (by simp))
    | int j => obtain ⟨t', rfl⟩ := ry; exact PySem.EqNone.ne_none_int (fin_bl I q (by simp))
    | str j => obtain ⟨t', rfl⟩ := ry; exact PySem.EqNone.ne_none_str (fin_bl I q (by simp))
    | _ => exact absurd (show false = true from hs) Bool.false_ne_true
  | bl i =>
    cases rx
    cases y with
    | non => cases ry; exact PySem.EqNone.ne_bool_none (fin_bl I q (by simp))
    | bl j => cases ry; exact ne_bool (fin_bl I q (congrArg not dec_bl))
    | str j => obtain ⟨t', rfl⟩ := ry; exact PySem.EqMixed.ne_bool_str (fin_bl I q (by simp))
    | _ => exact absurd (show false = true from hs) Bool.false_ne_true
  | int i =>
    obtain ⟨t, rfl⟩ := rx
    cases y with
    | non => cases ry; exact PySem.EqNone.ne_int_none (fin_bl I q (by simp))
    | int j => obtain ⟨t', rfl⟩ := ry; exact ne_int (fin_bl I q (congrArg not dec_int))
    | str j => obtain ⟨t', rfl⟩ := ry; exact PySem.EqMixed.ne_int_str (fin_bl I q (by simp))
    | _ => exact absurd (show false = true from hs) Bool.false_ne_true
  | str i =>
    obtain ⟨t, rfl⟩ := rx
    cases y with
    | non => cases ry; exact PySem.EqNone.ne_str_none (fin_bl I q (by simp))
    | bl j => cases ry; exact PySem.EqMixed.ne_str_bool (fin_bl I q (by simp))
    | int j => obtain ⟨t', rfl⟩ := ry; exact PySem.EqMixed.ne_str_int (fin_bl I q (by simp))
    | str j => obtain ⟨t', rfl⟩ := ry; exact ne_str (fin_bl I q (congrArg not dec_str))
    | _ => exact absurd (show false = true from hs) Bool.false_ne_true
  | byt i =>
    obtain ⟨t, rfl⟩ := rx
    cases y with
    | byt j => obtain ⟨t', rfl⟩ := ry; exact PySem.W.ne_bytes (fin_bl I q (congrArg not dec_byt))
    | _ => exact absurd (show false = true from hs) Bool.false_ne_true
  | _ => cases y <;> exact absurd (show false = true from hs) Bool.false_ne_true
theorem op_lt : OpR X (compareOp .Lt) (rI0 fun i j => .bl (decide (i < j))) := opB0 fun _ _ _ _ _ _ _ q => lt_int q
theorem op_le : OpR X (compareOp .LtE) (rI0 fun i j => .bl (decide (i ≤ j))) := opB0 fun _ _ _ _ _ _ _ q => le_int q
theorem op_gt : OpR X (compareOp .Gt) (rI0 fun i j => .bl (decide (j < i))) := opB0 fun _ _ _ _ _ _ _ q => gt_int q
theorem op_isN : OpR X (compareOp .Is) (fun x y H Q => y = .non ∧ Q (.bl (decide (x = .non))) H) := by
  intro pins s σ H x y v u Q I rx ry h
  obtain ⟨rfl, q⟩ := h
  cases ry
  refine is_none_gen (fin_bl I q ?_)
  cases x <;> first
    | (cases rx; rfl)
    | (obtain ⟨t, rfl⟩ := rx; rfl)
theorem nomark (b : Expr) {op : CmpOp} (h : op ≠ .In := by decide) (h2 : op ≠ .NotIn := by decide) : behindInMarks op b = false := by
  have e1 : (op == CmpOp.In) = false := by cases op <;> first | rfl | exact absurd rfl h
  have e2 : (op == CmpOp.NotIn) = false := by cases op <;> first | rfl | exact absurd rfl h2
  cases b <;> simp [behindInMarks, e1, e2]
theorem pe_cmpR {op : CmpOp} {r : R2} (ho : OpR X (compareOp op) r) (ha : PE X a ta) (hb : PE X b tb) (hm : behindInMarks op b = false) : PE X (.Compare a [op] [b] pos) (tOp r ta tb) := by
  intro pins s σ H Q I h
  exact wpAny_Compare1 (binT ha hb I h fun v u s2 x y H2 I2 rx ry q => ho pins s2 σ H2 x y v u Q I2 rx ry q) hm
def tTest (t : TE) : TT := fun σ H Q => t σ H fun x H' => ∃ k, x = .bl k ∧ Q k H'
theorem pt_cmpR {op : CmpOp} {r : R2} (ho : OpR X (compareOp op) r) (ha : PE X a ta) (hb : PE X b tb) (hm : behindInMarks op b = false) : PT X (.Compare a [op] [b] pos) (tTest (tOp r ta tb)) := by
  intro pins s σ H Q I h
  refine wpAny_isTrue_Compare1 (thn (ha pins s σ H _ I h) fun v s1 ⟨x, H1, I1, r1, q1⟩ => thn (hb pins s1 σ H1 _ I1 q1) fun u s2 ⟨y, H2, I2, r2, q2⟩ =>
    thn (ho pins s2 σ H2 x y v u _ I2 r1 r2 q2) fun c s3 ⟨z, H3, I3, r3, k, e, q3⟩ => ?_) hm
  subst e
  cases r3
  exact wpAny_truthy_bool ⟨H3, I3, q3⟩
def tChain (r r' : R2) (ta tb tc : TE) : TE := fun σ H Q => ta σ H fun x H1 => tb σ H1 fun y H2 => r x y H2 fun z H3 => ∃ k, z = .bl k ∧
  (if k = true then tc σ H3 fun w' H4 => r' y w' H4 Q else Q (.bl false) H3)
theorem pt_chain {op op' : CmpOp} {r r' : R2} (ho : OpR X (compareOp op) r) (ho' : OpR X (compareOp op') r') (ha : PE X a ta) (hb : PE X b tb) (hc : PE X c tc)
    (hm : lastMarks [op, op'] [b, c] = false := by with_unfolding_all rfl) : PT X (.Compare a [op, op'] [b, c] pos) (tTest (tChain r r' ta tb tc)) := by
  intro pins s σ H Q I h
  refine isTrue_chain (thn (ha pins s σ H _ I h) fun v s1 ⟨x, H1, I1, r1, q1⟩ => test_link (thn (hb pins s1 σ H1 _ I1 q1) fun u s2 ⟨y, H2, I2, r2, q2⟩ =>
    thn (ho pins s2 σ H2 x y v u _ I2 r1 r2 q2) fun d s3 ⟨z, H3, I3, r3, k, e, q3⟩ => ?_)) hm
  subst e
  cases r3
  refine wpAny_truthy_bool ?_
  cases k with
  | false =>
    obtain ⟨k', e', q'⟩ := q3
    cases e'
    exact ite_ff ⟨H3, I3, q'⟩
  | true =>
    refine ite_tt (test_last (thn (hc pins s3 σ H3 _ I3 q3) fun w' s4 ⟨z', H4, I4, r4, q4⟩ => thn (ho' pins s4 σ H4 y z' u w' _ I4 r2 r4 q4) fun d' s5 ⟨z2, H5, I5, r5, k2, e2, q5⟩ => ?_))
    subst e2
    cases r5
    exact wpAny_truthy_bool ⟨H5, I5, q5⟩
def TruV (K : PySem.W.Frag) (x : V) (H : Hp) (k : Bool) : Prop :=
  match x with
  | .non => k = false
  | .bl b => k = b
  | .int i => k = (i != 0)
  | .str y => y.length ≤ sizeLine ∧ k = ((y.length : Int) != 0)
  | .byt y => y.size ≤ sizeLine ∧ k = ((y.size : Int) != 0)
  | .ref p => (∃ xs, SqL K H p xs ∧ k = !xs.isEmpty) ∨ (∃ xs, SqT K H p xs ∧ k = !xs.isEmpty) ∨ ∃ kvs, H p = some (.dK kvs) ∧ k = !kvs.isEmpty
  | _ => False
theorem isEmpty_kv {κ : Type} {kvs : List (κ × V)} {vs : List (κ × Value)} (r : KV kvs vs) : (!vs.isEmpty) = !kvs.isEmpty := by
  cases r <;> rfl
theorem isEmpty_of {xs : List V} {its : List Value} (r : Vals xs its) : (!its.toArray.isEmpty) = !xs.isEmpty := by
  cases r <;> simp
theorem line63 : (sizeLine : Nat) < 2 ^ 63 := by rw [sizeLine_eq]; decide
theorem tru_ok : TruR X (fun x H Q => ∃ k, TruV X.K x H k ∧ Q k H) := by
  intro pins s σ H x v Q I rx h
  obtain ⟨k, e, q⟩ := h
  have hl := line63
  have hs : sizeLine = 16777216 := sizeLine_eq
  cases x with
  | non =>
    cases rx
    have e' : k = false := e
    subst e'
    exact truthy_none ⟨H, I, q⟩
  | bl b =>
    cases rx
    have e' : k = b := e
    subst e'
    exact wpAny_truthy_bool ⟨H, I, q⟩
  | int i =>
    obtain ⟨t, rfl⟩ := rx
    have e' : k = (i != 0) := e
    subst e'
    exact PySem.P.truthy_int ⟨H, I, q⟩
  | str y =>
    obtain ⟨t, rfl⟩ := rx
    obtain ⟨hy, e'⟩ : y.length ≤ sizeLine ∧ k = ((y.length : Int) != 0) := e
    subst e'
    exact PySem.P.truthy_str (by omega) ⟨H, I.tok _, q⟩
  | byt y =>
    obtain ⟨t, rfl⟩ := rx
    obtain ⟨hy, e'⟩ : y.size ≤ sizeLine ∧ k = ((y.size : Int) != 0) := e
    subst e'
    exact PySem.W.truthy_bytes (by omega) ⟨H, I.tok _, q⟩
  | ref p =>
    cases rx
    have e' : (∃ xs, SqL X.K H p xs ∧ k = !xs.isEmpty) ∨ (∃ xs, SqT X.K H p xs ∧ k = !xs.isEmpty) ∨ ∃ kvs, H p = some (.dK kvs) ∧ k = !kvs.isEmpty := e
    rcases e' with ⟨xs, hx, e'⟩ | ⟨xs, hx, e'⟩ | ⟨kvs, hx, e'⟩
    · subst e'
      obtain ⟨its, r, pl, hz⟩ := I.list hx
      have hlen := r.length
      exact wpAny_truthy_list pl.isList (by simp only [List.size_toArray]; omega) ⟨H, I.tok _, by rw [isEmpty_of r]; exact q⟩
    · subst e'
      obtain ⟨its, r, pl, hz⟩ := I.tuple hx
      have hlen := r.length
      exact truthy_tuple pl (by simp only [List.size_toArray]; omega) ⟨H, I.tok _, by rw [isEmpty_of r]; exact q⟩
    · subst e'
      obtain ⟨hz, hS, vs, r, m⟩ : kvs.length ≤ sizeLine ∧ (p == sysModules) = false ∧ ∃ vs, KV kvs vs ∧ s.heap.DictOf (mixKind X.prog X.w) p vs := I.hok p _ hx
      have hlen : kvs.length = vs.length := Paired.length r
      exact wpAny_truthy_dict hS m (by omega) ⟨H, I.tok _, by rw [isEmpty_kv r]; exact q⟩
  | _ => exact (show False from e).elim
theorem pt_truth (ha : PE X a ta) (he : ∀ whole, isTrue a X.env whole = (do let v ← whole; standAt a.pos; holding [v] (truthy v))) :
    PT X a (fun σ H Q => ta σ H fun x H' => ∃ k, TruV X.K x H' k ∧ Q k H') := by
  intro pins s σ H Q I h
  exact isTrue_plain (thn (ha pins s σ H _ I h) fun v s1 ⟨x, H1, I1, r1, q1⟩ => tru_ok pins s1 σ H1 x v Q I1 r1 q1) (he _)
theorem op_add_str : OpR X (binaryOp .Add) (fun x y H Q => ∃ i j, x = .str i ∧ y = .str j ∧ i.length + j.length ≤ sizeLine ∧ Q (.str (i ++ j)) H) := by
  intro pins s σ H x y v u Q I rx ry h
  obtain ⟨i, j, rfl, rfl, hz, q⟩ := h
  obtain ⟨t, rfl⟩ := rx
  obtain ⟨t', rfl⟩ := ry
  exact add_str (fun t' tk => ⟨.str (i ++ j), H, I.tok _, ⟨_, rfl⟩, q⟩) hz
theorem vals1 {x : V} {us : List Value} (r : Vals [x] us) : ∃ u, us = [u] ∧ RelV x u := by
  cases r with
  | cons r1 r2 => cases r2; exact ⟨_, rfl, r1⟩
theorem vals2 {x y : V} {us : List Value} (r : Vals [x, y] us) : ∃ u w', us = [u, w'] ∧ RelV x u ∧ RelV y w' := by
  cases r with
  | cons r1 r2 =>
    cases r2 with
    | cons r3 r4 => cases r4; exact ⟨_, _, rfl, r1, r3⟩
theorem call_min2 (hc : X.calm = true) : CallR X (.builtin "min") (fun xs H Q => ∃ i j, xs = [.int i, .int j] ∧ Q (.int (if j < i then j else i)) H) := by
  intro pins s σ H xs us Q I r h
  obtain ⟨i, j, rfl, q⟩ := h
  obtain ⟨u, w', rfl, ⟨t, rfl⟩, ⟨t', rfl⟩⟩ := vals2 r
  refine min_two_ints (I.ok.hd hc) fun h' tk k => ⟨_, H, I.kept k, ?_, q⟩
  by_cases hj : j < i
  · rw [if_pos hj, if_pos hj]; exact ⟨_, rfl⟩
  · rw [if_neg hj, if_neg hj]; exact ⟨_, rfl⟩
theorem call_int1 : CallR X (.type "int") (fun xs H Q => (∃ i, xs = [.int i] ∧ Q (.int i) H) ∨ ∃ k, xs = [.bl k] ∧ Q (.int (if k then 1 else 0)) H) := by
  intro pins s σ H xs us Q I r h
  rcases h with ⟨i, rfl, q⟩ | ⟨k, rfl, q⟩
  · obtain ⟨u, rfl, t, rfl⟩ := vals1 r
    exact call_int_int ⟨.int i, H, I, ⟨_, rfl⟩, q⟩
  · obtain ⟨u, rfl, r1⟩ := vals1 r
    cases r1
    exact call_int_bool ⟨.int (if k then 1 else 0), H, I.tok _, ⟨_, rfl⟩, q⟩
theorem call_str_int : CallR X (.type "str") (fun xs H Q => ∃ i, xs = [.int i] ∧ i.natAbs.log2 < 1920 ∧ Q (.str (toString i)) H) := by
  intro pins s σ H xs us Q I r h
  obtain ⟨i, rfl, hz, q⟩ := h
  obtain ⟨u, rfl, t, rfl⟩ := vals1 r
  exact PySem.P.str_of_int hz ⟨.str _, H, I.tok _, ⟨_, rfl⟩, q⟩
end
end L2
namespace L2
open PySem PySem.Spec PyProof.Rows
structure ObjM (h : Heap) (x dx C : Addr) (mA : Str → Option Value) : Prop where
  obj : h.get? x = some (PySem.W.instObj C dx)
  ns : h.Ns1 dx mA
  ne : dx ≠ x
theorem lookIn_ns {h : Heap} {dx : Addr} {mA : Str → Option Value} (n : h.Ns1 dx mA) : ∃ od, h.get? dx = some od ∧ ∀ name, PySem.W.lookIn name od = some (mA name) := by
  obtain ⟨o, es, ep, ho, hd, hk, _, hm⟩ := n
  refine ⟨o, ho, fun name => ?_⟩
  have e := hm name
  unfold nsFind findBy at e
  rw [← Array.find?_toList] at e
  unfold PySem.W.lookIn
  rw [hd]
  dsimp only
  split
  · rename_i y q
    rw [q] at e
    exact congrArg some e
  · rename_i q
    rw [q] at e
    have a : es.toList.any (·.refKey) = false := by
      rw [List.any_eq_false]
      intro y hy
      obtain ⟨z, t, hkey⟩ := hk y (Array.mem_toList_iff.mp hy)
      simp [DictEntry.refKey, hkey]
    have a' : ¬ es.toList.any (·.refKey) = true := by rw [a]; exact Bool.false_ne_true
    rw [if_neg a']
    exact congrArg some e
theorem ObjM.look {h : Heap} {x dx C : Addr} {mA : Str → Option Value} (I : ObjM h x dx C mA) : ∃ od, PySem.W.InstAt h x (PySem.W.instObj C dx) C (some od) ∧ ∀ name, PySem.W.lookIn name od = some (mA name) :=
  let ⟨od, ho, hl⟩ := lookIn_ns I.ns
  ⟨od, ⟨I.obj, rfl, rfl, ho⟩, hl⟩
section
variable {prog : Program} {w : World} {A : Around} {E : Value → Shared → Prop} {s : Shared} {K : PySem.W.Frag} {x dx C f : Addr} {mA : Str → Option Value} {name : Str} {v : Value}
end
section
variable {P : Program} {w : World} {H H' : Hp} {h h' : Heap} {a C dx : Addr} {fs fs' : List (Str × V)}
end
structure Cls (K : PySem.W.Frag) (C : Addr) : Prop where
  pg : PySem.W.plainGet K C Str.empty = true
  hd : PySem.W.hasDictIn K C = true
  po : PySem.W.plainOver K C = true
  sa : PySem.W.findIn K (.ref C) "__setattr__" = some (some (.builtin "object.__setattr__"))
theorem Cls.get {K : PySem.W.Frag} {C : Addr} (c : Cls K C) (f : Str) : PySem.W.plainGet K C f = true := c.pg
section
variable {X : Cx} {pins : List (Addr × Obj)} {σ : St} {H : Hp} {s : Shared} {a C dx : Addr} {fs : List (Str × V)} {f : Str} {v : V} {A : Around} {E : Value → Shared → Prop}
end
section
variable {X : Cx} {o e value : Expr} {f : Str} {pos pos' tpos : Pos} {ta tv : TE}
end
section
variable {X : Cx} {pins : List (Addr × Obj)} {σ : St} {H : Hp} {s : Shared} {A : Around} {E : Value → Shared → Prop} {Q : Value → Shared → Prop} {c : Value} {b : Bool}
end
end L2
namespace L2
open PySem PySem.Spec PyProof.Rows
structure Room (k : Nat) (A : Around) : Prop where
  hd : A.handled = none
  dp : A.depth + 3 * k + 5 < recursionLimit
  un : A.units + 16 * k + 200 < cLine
theorem Room.mono {j k : Nat} {A : Around} (r : Room k A) (h : j ≤ k) : Room j A := ⟨r.hd, by have := r.dp; omega, by have := r.un; omega⟩
theorem Room.deeper {k : Nat} {A : Around} (r : Room (k + 1) A) (env : Env) : Room k (A.deeper env) :=
  ⟨r.hd, by have := r.dp; show A.depth + 1 + 3 * k + 5 < _; omega, by have := r.un; show A.units + 3 + 16 * k + 200 < _; omega⟩
theorem Room.in1 {k : Nat} {A : Around} (r : Room (k + 1) A) : Room k A.in1 :=
  ⟨r.hd, by have := r.dp; show A.depth + 3 * k + 5 < _; omega, by have := r.un; show A.units + 1 + 16 * k + 200 < _; omega⟩
theorem Room.depth {k : Nat} {A : Around} (r : Room k A) : A.depth < recursionLimit := by have := r.dp; omega
theorem Room.units {k : Nat} {A : Around} (r : Room k A) : A.units + 64 < cLine := by have := r.un; omega
def tNil : TA := fun _ H Q => Q [] H
def tCons (ta : TE) (tr : TA) : TA := fun σ H Q => ta σ H fun x H1 => tr σ H1 fun xs H2 => Q (x :: xs) H2
section
variable {X : Cx} {e : Expr} {es : List Expr} {te : TE} {t : TA} {pos : Pos}
theorem pa_nil : PA X [] tNil := fun _ _ _ _ H Q I h => Calls.spliced_nil ⟨[], H, I, .nil, h⟩
theorem pa_cons (ha : PE X e te) (hr : PA X es t) (hs : starEach (e :: es) X.env = (false, eval e X.env) :: starEach es X.env := by rfl) : PA X (e :: es) (tCons te t) := by
  intro pos pins s σ H Q I h
  rw [hs]
  show wpAny _ _ (spliced ((false, eval e X.env) :: backTo pos (starEach es X.env))) _ _ s
  refine Calls.spliced_cons (thn (ha pins s σ H _ I h) fun u s1 ⟨x, H1, I1, r1, q1⟩ => ?_)
  exact thn (hr pos pins s1 σ H1 _ I1 q1) fun us s2 ⟨xs, H2, I2, r2, q2⟩ => ⟨x :: xs, H2, I2, .cons r1 r2, q2⟩
def tTup (t : TA) : TE := fun σ H Q => t σ H fun xs H1 => xs.length ≤ sizeLine ∧ ∀ p, H1 p = none → Q (.ref p) (upd H1 p (.tup xs))
def tLst (t : TA) : TE := fun σ H Q => t σ H fun xs H1 => xs.length ≤ sizeLine ∧ ∀ p, H1 p = none → Q (.ref p) (upd H1 p (.lst xs))
theorem pe_tup {x1} (h : PA X es t) : PE X (.Tuple es x1 pos) (tTup t) := by
  intro pins s σ H Q I hq
  refine wpAny_Tuple_spliced (thn (h pos pins s σ H _ I hq) fun us s1 ⟨xs, H1, I1, r, z, q⟩ => ⟨by rw [← r.length]; exact z, ?_⟩)
  have hf : H1 s1.heap.objs.size = none := I1.hok.fresh (Nat.le_refl _)
  refine ⟨.ref s1.heap.objs.size, upd H1 s1.heap.objs.size (.tup xs), I1.laid (t' := s1.toks) (fun b u e => Heap.get?_push_of_some _ e) (Nat.le_refl _) ?_, rfl, q _ hf⟩
  exact ⟨z, us, r, ⟨_, Heap.get?_push_size _ rfl, rfl, rfl, _, rfl⟩⟩
theorem pe_lst (h : PA X es t) : PE X (.List es pos) (tLst t) := by
  intro pins s σ H Q I hq
  refine wpAny_List_spliced (thn (h pos pins s σ H _ I hq) fun us s1 ⟨xs, H1, I1, r, z, q⟩ => ⟨by rw [← r.length]; exact z, ?_⟩)
  have hf : H1 s1.heap.objs.size = none := I1.hok.fresh (Nat.le_refl _)
  refine ⟨.ref s1.heap.objs.size, upd H1 s1.heap.objs.size (.lst xs), I1.laid (t' := s1.toks) (fun b u e => Heap.get?_push_of_some _ e) (Nat.le_refl _) ?_, rfl, q _ hf⟩
  exact ⟨z, us, 0, r, Heap.get?_push_size _ rfl⟩
end
abbrev Sp := List V → Hp → VK → XK → Prop
abbrev CXT := List Env → Hp → Shared → XK → Value → Shared → Prop
structure Env0 (P : Program) (w : World) (K : PySem.W.Frag) (mg : Str → Option Value) (base : Heap) (A : Around) (outer : List Env) (s : Shared) (H : Hp) : Prop where
  frames : A.frames = some outer
  mod : Mod K mg base
  bs : ∀ b o, base.get? b = some o → s.heap.get? b = some o ∧ H b = none
  bsz : base.objs.size ≤ s.heap.objs.size
  funs : s.heap.FunFrames base outer
  frf : ∀ b ∈ frs outer, H b = none
  hok : HOk P w H s.heap
  bare : AllBare s.gens
def CE (outer : List Env) (P : Program) (w : World) (H : Hp) (s : Shared) (Q : VK) (u : Value) (s' : Shared) : Prop :=
  ∃ v H', s'.os = s.os ∧ AllBare s'.gens ∧ Un (frs outer) [] H H' s.heap s'.heap ∧ HOk P w H' s'.heap ∧ RelV v u ∧ Q v H'
def CR (CX : CXT) (outer : List Env) (P : Program) (w : World) (H : Hp) (s : Shared) (Q : VK) (E : XK) (r : Result) (s' : Shared) : Prop :=
  match r with
  | .ok (.ret u) => CE outer P w H s Q u s'
  | .ok _ => False
  | .error e => CX outer H s E e s'
structure FnOk (P : Program) (w : World) (K : PySem.W.Frag) (mg : Str → Option Value) (base : Heap) (CX : CXT) (k : Nat) (f : Addr) (fd : FuncData) (ps : List Str) (sp : Sp) : Prop where
  len : ∀ vs H Q E, sp vs H Q E → vs.length = ps.length
  run : ∀ (A : Around) (outer : List Env) (s : Shared) (H : Hp) (args : Args) (us : List Value) (vs : List V) (Q : VK) (E : XK), Room k A → Env0 P w K mg base A outer s H → BindsTo s fd args (ps.zip us) → Vals vs us → sp vs H Q E →
    codeAny (model P w) A (.call (.ref f) args) (CR CX outer P w H s Q E) s
theorem FnOk.mono {P : Program} {w : World} {K : PySem.W.Frag} {mg : Str → Option Value} {base : Heap} {CX : CXT} {j k : Nat} {f : Addr} {fd : FuncData} {ps : List Str} {sp : Sp} (F : FnOk P w K mg base CX j f fd ps sp) (h : j ≤ k) :
    FnOk P w K mg base CX k f fd ps sp := ⟨F.len, fun A outer s H args us vs Q E hr => F.run A outer s H args us vs Q E (hr.mono h)⟩
theorem FnOk.imp {P : Program} {w : World} {K : PySem.W.Frag} {mg : Str → Option Value} {base : Heap} {CX : CXT} {k : Nat} {f : Addr} {fd : FuncData} {ps : List Str} {sp sp' : Sp} (F : FnOk P w K mg base CX k f fd ps sp)
    (h : ∀ vs H Q E, sp' vs H Q E → sp vs H Q E) : FnOk P w K mg base CX k f fd ps sp' :=
  ⟨fun vs H Q E q => F.len vs H Q E (h _ _ _ _ q), fun A outer s H args us vs Q E hr he hb hv hs => F.run A outer s H args us vs Q E hr he hb hv (h _ _ _ _ hs)⟩
theorem Env0.in1 {P : Program} {w : World} {K : PySem.W.Frag} {mg : Str → Option Value} {base : Heap} {A : Around} {outer : List Env} {s : Shared} {H : Hp} (e : Env0 P w K mg base A outer s H) :
    Env0 P w K mg base A.in1 outer s H := ⟨e.frames, e.mod, e.bs, e.bsz, e.funs, e.frf, e.hok, e.bare⟩
section
variable {X : Cx} {pins : List (Addr × Obj)} {σ : St} {H : Hp} {s s' : Shared}
theorem Inv.env0 (I : Inv X pins σ H s) : Env0 X.prog X.w X.K X.mg X.base X.A X.stack s H :=
  ⟨I.ok.frames, I.ok.mod, I.bs, Nat.le_trans I.ok.bsz I.sz, I.stack, I.stkFree, I.hok, I.bare⟩
theorem Inv.after {Q : VK} {u : Value} (I : Inv X pins σ H s) (h : CE X.stack X.prog X.w H s Q u s') : EP X pins σ Q u s' := by
  obtain ⟨v, H', os, bare, un, hok, r, q⟩ := h
  obtain ⟨hh, g, d, t, os'⟩ := s'
  obtain rfl : os' = s.os := os
  exact ⟨v, H', I.call (h' := hh) (g' := g) (d' := d) (t' := t) (ch := []) un hok bare (fun b z => absurd z (by simp)), r, q⟩
end
def tCall (sp : Sp) (dvs : List V) (E : XK) (t : TA) : TE := fun σ H Q => t σ H fun vs H1 => sp (vs ++ dvs) H1 Q E
def Binds (K : PySem.W.Frag) (fd : FuncData) (ps : List Str) (ds : List Value) : Prop :=
  ∀ (s : Shared) (us : List Value), K.In s.heap → (us ++ ds).length = ps.length → BindsTo s fd ⟨us, []⟩ (ps.zip (us ++ ds))
theorem Binds.all {K : PySem.W.Frag} {fd : FuncData} {ps : List Str} (h : ∀ us : List Value, us.length = ps.length → bindArgs fd ⟨us, []⟩ = pure (ps.zip us)) : Binds K fd ps [] := fun s us _ hl => by
  rw [List.append_nil] at hl ⊢
  exact .of_eq (h us hl)
def Passes (CX : CXT) (X : Cx) (E : XK) : Prop := ∀ (pins : List (Addr × Obj)) (σ : St) (H : Hp) (s : Shared) (e : Value) (s' : Shared), Inv X pins σ H s → CX X.stack H s E e s' → X.xe e s'
section
variable {X : Cx} {CX : CXT} {k : Nat} {f C : Addr} {fd : FuncData} {ps : List Str} {sp : Sp} {dvs : List V} {ds : List Value} {E : XK} {x m : Str} {p pos apos : Pos} {e o : Expr} {es : List Expr} {ta : TE} {t : TA}
theorem run_fn {pins : List (Addr × Obj)} {σ : St} {H : Hp} {s : Shared} {Q : VK} {us : List Value} {vs : List V} (F : FnOk X.prog X.w X.K X.mg X.base CX k f fd ps sp) (hr : Room k X.A) (hb : Binds X.K fd ps ds) (hd : Vals dvs ds) (hx : Passes CX X E)
    (I : Inv X pins σ H s) (r : Vals vs us) (h : sp (vs ++ dvs) H Q E) : wpAny (model X.prog X.w) X.A (call (.ref f) us) (EP X pins σ Q) X.xe s := by
  have r2 : Vals (vs ++ dvs) (us ++ ds) := r.append hd
  have hl : (us ++ ds).length = ps.length := by rw [← r2.length]; exact F.len _ _ _ _ h
  refine wpAny_call (codeAny_mono (F.run X.A X.stack s H ⟨us, []⟩ (us ++ ds) (vs ++ dvs) Q E hr I.env0 (hb s us I.kIn hl) r2 h) fun r s' hq => ?_)
  cases r with
  | error e => exact hx pins σ H s e s' I hq
  | ok fl =>
    cases fl with
    | ret u => exact I.after hq
    | next => exact False.elim hq
    | brk => exact False.elim hq
    | cont => exact False.elim hq
theorem pe_call (F : FnOk X.prog X.w X.K X.mg X.base CX k f fd ps sp) (hr : Room k X.A) (hg : Gl X x) (hm : X.mg x = some (.ref f)) (hk : PySem.W.keepIn X.K (.ref f) = true) (hb : Binds X.K fd ps ds) (hd : Vals dvs ds) (hx : Passes CX X E)
    (ha : PA X (e :: es) t) (hdb : (x == ("__debug__" : Str)) = false := by decide) (he : starEach (e :: es) X.env = (false, eval e X.env) :: starEach es X.env := by rfl) (hpl : (backTo pos (starEach es X.env)).any (·.1) = false := by rfl) :
    PE X (.Call (.Name x p) (e :: es) [] pos) (tCall sp dvs E t) := by
  intro pins s σ H Q I h
  refine wpAny_Call_Name_kw (ld_glob I hg hm ?_ hdb)
  refine PySem.W.callWith_K (h₀ := X.base) I.ok.mod.kin hk (thn (ha pos pins s σ H _ I h) fun us s1 ⟨vs, H1, I1, r, q⟩ => ⟨I1.kIn, ?_⟩) he hpl
  exact run_fn F hr hb hd hx I1 r q
theorem pe_call0 (F : FnOk X.prog X.w X.K X.mg X.base CX k f fd ps sp) (hr : Room k X.A) (hg : Gl X x) (hm : X.mg x = some (.ref f)) (hk : PySem.W.keepIn X.K (.ref f) = true) (hb : Binds X.K fd ps ds) (hd : Vals dvs ds) (hx : Passes CX X E)
    (hdb : (x == ("__debug__" : Str)) = false := by decide) : PE X (.Call (.Name x p) [] [] pos) (tCall sp dvs E tNil) := by
  intro pins s σ H Q I h
  refine wpAny_Call_Name_kw (ld_glob I hg hm ?_ hdb)
  exact PySem.W.callWith_K0 I.kIn hk (run_fn (us := []) F hr hb hd hx I .nil h)
end
section
variable {X : Cx} {CX : CXT} {k : Nat} {f C : Addr} {fd : FuncData} {ps ks : List Str} {sp : Sp} {E : XK} {x m : Str} {p pos apos kpos : Pos} {e o : Expr} {es : List Expr} {kws : List Keyword} {te ta : TE} {t tk : TA} {nm : Option Str}
variable {g : List Value → List Value → List Value} {gV : List V → List V → List V}
end
structure FnScope (N P : List Str) (sc : Scope) : Prop where
  kind : sc.kind = .function
  co : sc.isCoroutine = false
  gen : sc.isGenerator = false
  nd : N.Nodup
  pre : N.take P.length = P
  par : ∀ x ∈ P, sc.names.lookup x = some .local ∨ sc.names.lookup x = some .cell
  nofree : ∀ y ∈ sc.names, y.2 ≠ .free
theorem bindL_out {kindOf : Str → Option NameKind} {x : Str} : ∀ {binds : List (Str × Value)} {m : Str → Option Value}, (∀ v, (x, v) ∉ binds) → bindL kindOf binds m x = m x
  | [], _, _ => rfl
  | (n, v) :: r, m, h => by
    unfold bindL
    rw [bindL_out fun w hw => h w (List.mem_cons_of_mem _ hw)]
    split
    · have : x ≠ n := by rintro rfl; exact h v List.mem_cons_self
      simp [this]
    · rfl
theorem bindC_out {kindOf : Str → Option NameKind} {x : Str} : ∀ {binds : List (Str × Value)} {m : Str → Option Value}, (∀ v, (x, v) ∉ binds) → bindC kindOf binds m x = m x
  | [], _, _ => rfl
  | (n, v) :: r, m, h => by
    unfold bindC
    rw [bindC_out fun w hw => h w (List.mem_cons_of_mem _ hw)]
    split
    · rfl
    · have : x ≠ n := by rintro rfl; exact h v List.mem_cons_self
      simp [this]
theorem bindL_get {kindOf : Str → Option NameKind} {x : Str} {v : Value} : ∀ {P : List Str} {vs : List Value} {i : Nat} {m : Str → Option Value}, P.Nodup → P[i]? = some x → vs[i]? = some v → kindOf x = some .local →
    bindL kindOf (P.zip vs) m x = some v
  | [], _, _, _, _, h, _, _ => by simp at h
  | _ :: _, [], _, _, _, _, h, _ => by simp at h
  | p :: P, w :: vs, 0, m, nd, h1, h2, hk => by
    simp at h1 h2; subst h1; subst h2
    show bindL kindOf ((p, w) :: P.zip vs) m p = _
    unfold bindL
    rw [bindL_out fun v hv => (List.nodup_cons.mp nd).1 (List.of_mem_zip hv).1, if_pos hk]
    simp
  | p :: P, w :: vs, i + 1, m, nd, h1, h2, hk => by
    show bindL kindOf ((p, w) :: P.zip vs) m x = _
    unfold bindL
    exact bindL_get (i := i) (List.nodup_cons.mp nd).2 (by simpa using h1) (by simpa using h2) hk
theorem bindC_get {kindOf : Str → Option NameKind} {x : Str} {v : Value} : ∀ {P : List Str} {vs : List Value} {i : Nat} {m : Str → Option Value}, P.Nodup → P[i]? = some x → vs[i]? = some v → kindOf x ≠ some .local →
    bindC kindOf (P.zip vs) m x = some v
  | [], _, _, _, _, h, _, _ => by simp at h
  | _ :: _, [], _, _, _, _, h, _ => by simp at h
  | p :: P, w :: vs, 0, m, nd, h1, h2, hk => by
    simp at h1 h2; subst h1; subst h2
    show bindC kindOf ((p, w) :: P.zip vs) m p = _
    unfold bindC
    rw [bindC_out fun v hv => (List.nodup_cons.mp nd).1 (List.of_mem_zip hv).1, if_neg hk]
    simp
  | p :: P, w :: vs, i + 1, m, nd, h1, h2, hk => by
    show bindC kindOf ((p, w) :: P.zip vs) m x = _
    unfold bindC
    exact bindC_get (i := i) (List.nodup_cons.mp nd).2 (by simpa using h1) (by simpa using h2) hk
def start (N : List Str) (vs : List V) : St := vs.map some ++ List.replicate (N.length - vs.length) none
def cxOf (CX : CXT) (P : Program) (w : World) (K : PySem.W.Frag) (mg : Str → Option Value) (base : Heap) (N : List Str) (qual : Str) (scope : Scope) (f : Addr) (cd : Value) (A : Around) (outer : List Env) (s : Shared) (H : Hp) (E : XK) : Cx where
  prog := P
  w := w
  K := K
  mg := mg
  base := base
  A := A.deeper (envOfC qual scope s.heap.objs.size f cd)
  N := N
  s_0 := s
  H_0 := H
  env := envOfC qual scope s.heap.objs.size f cd
  outer := outer
  stack := envOfC qual scope s.heap.objs.size f cd :: outer
  ex := []
  calm := true
  fn := fun _ => true
  pn := []
  xe := fun e s' => wpAny (model P w) (A.deeper (envOfC qual scope s.heap.objs.size f cd)) (leaving (envOfC qual scope s.heap.objs.size f cd) e) (fun _ s'' => CX outer H s E e s'') (fun e' s'' => CX outer H s E e' s'') s'
theorem cell_has {sc : Scope} {n : Nat} {x : Str} (h : sc.names.lookup x = some .cell) : ∃ c, (cellsFrom n sc.names []).lookup x = some c := by
  have q := PySem.W.cellsFrom_some sc.names n [] (.inl h)
  exact Option.isSome_iff_exists.mp q
theorem inv_start {CX : CXT} {P : Program} {w : World} {K : PySem.W.Frag} {mg : Str → Option Value} {base : Heap} {N ps : List Str} {qual : Str} {scope : Scope} {f : Addr} {cd : Value} {A : Around} {outer : List Env} {s s1 : Shared} {H : Hp} {E : XK} {us : List Value} {vs : List V}
    (S : FnScope N ps scope) (hd : A.handled = none) (e0 : Env0 P w K mg base A outer s H) (hl : vs.length = ps.length) (r : Vals vs us)
    (x : InCallC s s.heap.objs.size (bindL (envOfC qual scope s.heap.objs.size f cd).kindOf (ps.zip us) fun _ => none) (cellsFrom (s.heap.objs.size + 1) scope.names []) (bindC (envOfC qual scope s.heap.objs.size f cd).kindOf (ps.zip us) fun _ => none) s1) :
    Inv (cxOf CX P w K mg base N qual scope f cd A outer s H E) [] (start N vs) H s1 := by
  have hpl : ps.length ≤ N.length := by have := congrArg List.length S.pre; rw [List.length_take] at this; omega
  obtain ⟨h1, tk, rfl, hk⟩ := x.done
  have noA : ∀ b : Addr, b ∉ (cxOf CX P w K mg base N qual scope f cd A outer s H E).ex := fun b z => absurd (show b ∈ ([] : List Addr) from z) (by simp)
  refine ⟨⟨e0.mod, S.kind, rfl, rfl, Nat.le_refl _, fun y z c h1 h2 => ?_, fun y hy => ?_, fun y c _ h => ?_, fun _ => hd, Around.frames_deeper e0.frames, .inr ⟨rfl, rfl⟩, fun b z => absurd z (noA b), e0.bs, e0.bsz, fun b _ _ => noA b, fun b z => absurd z (noA b), e0.funs, e0.frf⟩,
    rfl, e0.bare, Un.kept hk, ⟨_, x.toInCall.ns, fun i y v h1 h2 h3 => ?_⟩, fun y c h => ⟨_, x.cell y c h⟩, e0.hok.fresh (Nat.le_refl _), fun y c h => ?_, fun p hp => absurd (show p ∈ ([] : List (Addr × Obj)) from hp) (by simp), e0.hok.kept hk, ?_⟩
  · exact name_of_addr x.apart (PySem.mem_of_lookup h1) (PySem.mem_of_lookup h2)
  · have hy : scope.names.lookup y = some .cell ∨ scope.names.lookup y = some .free := hy
    rcases hy with hy | hy
    · exact cell_has hy
    · exact absurd rfl (S.nofree _ (PySem.mem_of_lookup hy))
  · exact Nat.le_of_lt (x.above y c (PySem.mem_of_lookup h))
  · have hi : i < vs.length := by
      unfold start at h2
      by_cases hi : i < vs.length
      · exact hi
      · rw [List.getElem?_append_right (by simpa using hi)] at h2
        rw [List.getElem?_replicate] at h2
        split at h2 <;> cases h2
    have ha : vs[i]? = some v := by
      unfold start at h2
      rw [List.getElem?_append_left (by simpa using hi), List.getElem?_map] at h2
      cases e : vs[i]? with
      | none => rw [e] at h2; cases h2
      | some a => rw [e] at h2; cases h2; rfl
    obtain ⟨u, hu, rv⟩ := r.get ha
    have hp : ps[i]? = some y := by
      rw [← S.pre, List.getElem?_take_of_lt (by omega)]; exact h1
    have ndP : ps.Nodup := by rw [← S.pre]; exact S.nd.sublist (List.take_sublist _ _)
    refine ⟨u, rv, ?_⟩
    rcases S.par y (List.mem_of_getElem? hp) with k | k
    · exact .inl ⟨k, bindL_get ndP hp hu k⟩
    · obtain ⟨c, e⟩ := cell_has (n := s.heap.objs.size + 1) k
      refine .inr ⟨.inl k, c, e, ?_⟩
      have q := x.cell y c e
      rw [bindC_get ndP hp hu (by show scope.names.lookup y ≠ _; rw [k]; decide)] at q
      exact q
  · exact e0.hok.fresh (Nat.le_of_lt (x.above y c (PySem.mem_of_lookup h)))
  · unfold start
    show _ = N.length
    rw [List.length_append, List.length_map, List.length_replicate]
    omega
theorem fn_of {CX : CXT} {P : Program} {w : World} {K : PySem.W.Frag} {mg : Str → Option Value} {base : Heap} {k : Nat} {f : Addr} {name qual : Str} {params : Arguments} {body : List Stmt} {scope : Scope} {dV kV doc pm cdv ct oc : Value} {an od : Option Addr}
    {osl : Array (Option Value)} {N ps : List Str} {sp : Sp} (lk : K.lookup f = some ⟨oc, od, .func (PySem.W.fnOf name qual params body scope dV kV doc pm an cdv ct), osl⟩) (hcd : PySem.W.codeIn K cdv qual = true) (S : FnScope N ps scope)
    (len : ∀ vs H Q E, sp vs H Q E → vs.length = ps.length)
    (hbody : ∀ (A : Around) (outer : List Env) (s : Shared) (H : Hp) (vs : List V) (Q : VK) (E : XK), Room k (A.deeper (envOfC qual scope s.heap.objs.size f cdv)) → sp vs H Q E →
      ∃ t, PSs (cxOf CX P w K mg base N qual scope f cdv A outer s H E) body t ∧ t { nx := fun _ H' => Q .non H', rt := Q } (start N vs) H) :
    FnOk P w K mg base CX (k + 1) f (PySem.W.fnOf name qual params body scope dV kV doc pm an cdv ct) ps sp := by
  refine ⟨len, fun A outer s H args us vs Q E hr e0 hb r hsp => ?_⟩
  have hl := len _ _ _ _ hsp
  have KX : K.In s.heap := e0.mod.kin.keeps fun b o e => (e0.bs b o e).1
  have lim : s.heap.NoLimit := e0.mod.nolimit.keeps fun b o e => (e0.bs b o e).1
  have hkind : ∀ y ∈ ps.zip us, scope.names.lookup y.1 = some .local ∨ (scope.names.lookup y.1 = some .cell ∧ ((cellsFrom (s.heap.objs.size + 1) scope.names []).lookup y.1).isSome = true) := fun ⟨n, v⟩ hy => by
    rcases S.par n (List.of_mem_zip hy).1 with q | q
    · exact .inl q
    · exact .inr ⟨q, PySem.W.cellsFrom_some _ _ _ (.inl q)⟩
  refine codeAny_call_function hr.depth (KX _ _ lk) rfl S.co S.gen rfl (PySem.W.codeRec_of KX hcd) (hb _ _ _ _ ?_)
  refine wpAny_newFunctionEnv_cells S.kind hkind fun env he s1 x => ?_
  subst he
  refine ⟨lim.keeps x.toInCall.keep, codeAny_func ?_⟩
  obtain ⟨t, ht, hq⟩ := hbody A outer s H vs Q E (hr.deeper _) hsp
  have I : Inv (cxOf CX P w K mg base N qual scope f cdv A outer s H E) [] (start N vs) H s1 := inv_start S hr.hd e0 hl r x
  refine wpAny_mono (ht [] s1 (start N vs) H _ I hq) (fun fl s' hs => ?_) fun e s' hs => hs
  have fin : ∀ {σ' : St} {H' : Hp} {v : V} {u : Value}, Inv (cxOf CX P w K mg base N qual scope f cdv A outer s H E) [] σ' H' s' → RelV v u → Q v H' → CE outer P w H s Q u s' :=
    fun {σ' H' v u} J rv q => ⟨v, H', J.os, J.bare, J.base, J.hok, rv, q⟩
  cases fl with
  | ret u =>
    obtain ⟨v, σ', H', J, rv, q⟩ := hs
    exact fin J rv q
  | next =>
    obtain ⟨σ', H', J, q⟩ := hs
    exact fin (v := V.non) (u := Value.none) J rfl q
  | brk =>
    obtain ⟨_, _, _, q⟩ := hs
    exact False.elim q
  | cont =>
    obtain ⟨_, _, _, q⟩ := hs
    exact False.elim q
end L2
namespace L2
open PySem PySem.Spec PyProof.Rows
section
variable {X : Cx} {x : Str} {p pos : Pos} {e : Expr} {es : List Expr} {t : TA} {id T : String} {r : List V → Hp → VK → Prop}
def tCB (r : List V → Hp → VK → Prop) (t : TA) : TE := fun σ H Q => t σ H fun vs H1 => r vs H1 Q
theorem pe_callB (hc : CallR X (.builtin id) r) (hg : Gl X x) (hm : X.mg x = none) (hv : bootBuiltins x = some (.builtin id)) (ha : PA X (e :: es) t) (hn : x ≠ "__name__" := by decide) (hdb : (x == ("__debug__" : Str)) = false := by decide)
    (he : starEach (e :: es) X.env = (false, eval e X.env) :: starEach es X.env := by rfl) (hpl : (backTo pos (starEach es X.env)).any (·.1) = false := by rfl) : PE X (.Call (.Name x p) (e :: es) [] pos) (tCB r t) := by
  intro pins s σ H Q I h
  refine wpAny_Call_Name_kw (ld_blt I hg hm hv ?_ hn hdb)
  exact PyProof.Rows.callWith_builtin1 (thn (ha pos pins s σ H _ I h) fun us s1 ⟨vs, H1, I1, r1, q1⟩ => hc pins s1 σ H1 vs us Q I1 r1 q1) he hpl
theorem pe_callTy (hc : CallR X (.type T) r) (hg : Gl X x) (hm : X.mg x = none) (hv : bootBuiltins x = some (.type T)) (ha : PA X (e :: es) t) (hn : x ≠ "__name__" := by decide) (hdb : (x == ("__debug__" : Str)) = false := by decide)
    (he : starEach (e :: es) X.env = (false, eval e X.env) :: starEach es X.env := by rfl) (hpl : (backTo pos (starEach es X.env)).any (·.1) = false := by rfl) : PE X (.Call (.Name x p) (e :: es) [] pos) (tCB r t) := by
  intro pins s σ H Q I h
  refine wpAny_Call_Name_kw (ld_blt I hg hm hv ?_ hn hdb)
  exact PyProof.Rows.callWith_type1 (thn (ha pos pins s σ H _ I h) fun us s1 ⟨vs, H1, I1, r1, q1⟩ => hc pins s1 σ H1 vs us Q I1 r1 q1) he hpl
end
end L2
namespace HT
open PySem PyProof.Rows
section
open PySem.SeqAt
open PySem.AutoSeq1 (wpAny_loadPart')
open PySem.MeetsSeq PySem.MeetsSeq2 PySem.MeetsSeq3
end
section
variable {prog : Program} {w : World} {A : Around} {E : Value → Shared → Prop} {s : Shared}
theorem cat_tup {t b : Addr} {vs ws : List Value} {Q : Value → Shared → Prop} (ht : IsTup s.heap t vs.toArray) (hb : IsTup s.heap b ws.toArray) (hv : vs ≠ [])
    (h1 : ws = [] → Q (.ref t) s) (h2 : ws ≠ [] → Q (.ref s.heap.objs.size) { s with heap := s.heap.push { cls := .type "tuple", data := .seq (vs ++ ws).toArray } })
    (hsz : vs.length + ws.length ≤ sizeLine) : wpAny (model prog w) A (binaryOp .Add (.ref t) (.ref b)) Q E s := by
  obtain ⟨⟨cls, dd, data, sl⟩, ho, hc, n, hd⟩ := id ht
  obtain ⟨⟨cls2, dd2, data2, sl2⟩, ho2, hc2, n2, hd2⟩ := id hb
  simp only at hc hd hc2 hd2
  subst hc hd hc2 hd2
  have e : vs.toArray ++ ws.toArray = (vs ++ ws).toArray := by simp
  by_cases hw : ws = []
  · exact concat_meets ⟨_, ho, rfl⟩ ⟨_, ho2, rfl⟩ noFill_tuple_add seq_tuple_add PySem.F.slot_tuple_add PySem.F.entry_tuple_add (PySem.F.args_tuple_add_2 _ _)
      (tuple_addW1 t b vs.toArray ws.toArray n n2 dd dd2 sl sl2 (by simpa using hv) (by simp [hw])) ⟨ho, ho2, h1 hw⟩
  · refine concat_meets ⟨_, ho, rfl⟩ ⟨_, ho2, rfl⟩ noFill_tuple_add seq_tuple_add PySem.F.slot_tuple_add PySem.F.entry_tuple_add (PySem.F.args_tuple_add_2 _ _)
      (tuple_addW2 t b vs.toArray ws.toArray n n2 dd dd2 sl sl2 (by simpa using hv) (by simpa using hw) (by rw [List.size_toArray, List.size_toArray]; exact hsz)) ⟨ho, ho2, ?_⟩
    rw [e]
    exact h2 hw
def sIx (n d : Nat) : Option Int → Nat
  | none => d
  | some v => if v < 0 then (v + (n : Int)).toNat else min v.toNat n
theorem sIx_none (n d : Nat) : sIx n d none = d := rfl
theorem sIx_nat (n d k : Nat) : sIx n d (some (k : Int)) = min k n := by
  show (if (k : Int) < 0 then ((k : Int) + (n : Int)).toNat else min (k : Int).toNat n) = min k n
  rw [if_neg (by omega), Int.toNat_natCast]
theorem sIx_le (n d : Nat) (hd : d ≤ n) (o : Option Int) : sIx n d o ≤ n := by
  cases o with
  | none => exact hd
  | some v =>
    show (if v < 0 then (v + (n : Int)).toNat else min v.toNat n) ≤ n
    by_cases hv : v < 0
    · rw [if_pos hv]; omega
    · rw [if_neg hv]; exact Nat.min_le_right _ _
theorem clip_eq (v : Int) (n d : Nat) : (if v < 0 then max (v + (n : Int)) 0 else min v (n : Int)) = ((sIx n d (some v) : Nat) : Int) := by
  show (if v < 0 then max (v + (n : Int)) 0 else min v (n : Int)) = (((if v < 0 then (v + (n : Int)).toNat else min v.toNat n) : Nat) : Int)
  by_cases hv : v < 0
  · simp only [if_pos hv]; omega
  · simp only [if_neg hv]; omega
theorem adjust_gen (lo hi : Option Int) (n : Nat) : Builtin.Slice.sliceAdjust lo hi 1 (n : Int) = (((sIx n 0 lo : Nat) : Int), ((sIx n n hi : Nat) : Int)) := by
  have h1 : ¬ ((1 : Int) < 0) := by omega
  unfold Builtin.Slice.sliceAdjust
  simp only [h1, if_false]
  refine Prod.ext ?_ ?_
  · cases lo with
    | none => rfl
    | some v => exact clip_eq v n 0
  · cases hi with
    | none => rfl
    | some v => exact clip_eq v n n
theorem places_gen (i j : Nat) : Builtin.Slice.slicePlaces (i : Int) (j : Int) 1 = j - i := by
  unfold Builtin.Slice.slicePlaces
  have h1 : (1 : Int) > 0 := by omega
  simp only [h1, if_true, Int.ediv_one]
  split <;> omega
theorem slicePart_ {v : Value} {o : Option Int} {Q : Option Int → Shared → Prop} (p : IsPart v o) (h : Q o s) : wpAny (model prog w) A (Builtin.Slice.slicePartIndex v) Q E s := by
  cases p with
  | none => exact slicePart_none h
  | int i t => exact slicePart_int h
theorem sliceApplied_gen {sl : Addr} {vl vu : Value} {lo hi : Option Int} {n : Nat} {Q : Int × Int × Nat → Shared → Prop} (hs : s.heap.IsSliceOf sl vl vu .none) (pl : IsPart vl lo) (pu : IsPart vu hi)
    (h : Q (((sIx n 0 lo : Nat) : Int), 1, sIx n n hi - sIx n 0 lo) s) : wpAny (model prog w) A (Builtin.Slice.sliceApplied (.ref sl) (pure (n : Int))) Q E s := by
  obtain ⟨os, hos, hcs, hds⟩ := id hs
  unfold Builtin.Slice.sliceApplied Builtin.Slice.sliceFields
  refine wpAny_bind (wpAny_bind (wpAny_field hos hds (x := vl) rfl (wpAny_bind (wpAny_field hos hds (x := vu) rfl (wpAny_bind (wpAny_field hos hds (x := .none) rfl (wpAny_pure ?_)))))))
  refine wpAny_bind (slicePart_none ?_)
  show wpAny _ _ (if ((1 : Int) == 0) = true then _ else _) _ _ s
  rw [if_neg (by decide)]
  refine wpAny_bind (slicePart_ pl (wpAny_bind (slicePart_ pu (wpAny_bind (wpAny_pure ?_)))))
  show wpAny _ _ (match Builtin.Slice.sliceAdjust lo hi 1 (n : Int) with | (lo, hi) => pure (lo, (1 : Int), Builtin.Slice.slicePlaces lo hi 1)) _ _ s
  rw [adjust_gen lo hi n]
  show wpAny _ _ (pure (((sIx n 0 lo : Nat) : Int), (1 : Int), Builtin.Slice.slicePlaces ((sIx n 0 lo : Nat) : Int) ((sIx n n hi : Nat) : Int) 1)) _ _ s
  rw [places_gen]
  exact wpAny_pure h
theorem pick_gen (xs : Array Value) (i k : Nat) : ((List.range k).filterMap fun (m : Nat) => xs[((i : Int) + (m : Int) * 1).toNat]?).toArray = ((xs.toList.drop i).take k).toArray := by
  have e : (fun (m : Nat) => xs[((i : Int) + (m : Int) * 1).toNat]?) = fun m => xs[i + m]? := by
    funext m
    have : ((i : Int) + (m : Int) * 1).toNat = i + m := by omega
    rw [this]
  rw [e]
  have := pick_run xs i k
  rw [List.filterMap_map] at this
  have e2 : ((fun x => xs[x]?) ∘ fun x => i + x) = fun m => xs[i + m]? := rfl
  rw [e2] at this
  rw [this]
theorem getItem_tuple_cut {t sl : Addr} {items : Array Value} {vl vu : Value} {lo hi : Option Int} {Q : Value → Shared → Prop} (ht : IsTup s.heap t items) (hs : s.heap.IsSliceOf sl vl vu .none) (pl : IsPart vl lo) (pu : IsPart vu hi)
    (hw : ¬ (sIx items.size 0 lo = 0 ∧ sIx items.size items.size hi = items.size))
    (h : Q (.ref s.heap.objs.size) { s with heap := s.heap.push { cls := .type "tuple", data := .seq ((items.toList.drop (sIx items.size 0 lo)).take (sIx items.size items.size hi - sIx items.size 0 lo)).toArray } })
    (hsz : items.size ≤ sizeLine) : wpAny (model prog w) A (getItem (.ref t) (.ref sl)) Q E s := by
  have htake : sizeOk (.seq ((items.toList.drop (sIx items.size 0 lo)).take (sIx items.size items.size hi - sIx items.size 0 lo)).toArray) := by
    show ((items.toList.drop (sIx items.size 0 lo)).take (sIx items.size items.size hi - sIx items.size 0 lo)).toArray.size ≤ sizeLine
    rw [List.size_toArray, List.length_take, List.length_drop, Array.length_toList]
    omega
  have hj : sIx items.size items.size hi ≤ items.size := sIx_le _ _ (Nat.le_refl _) hi
  obtain ⟨os, hos, hcs, hds⟩ := id hs
  have hTs : s.TypeIs (.ref sl) "slice" := ⟨os, hos, hcs⟩
  unfold getItem
  try with_reducible refine wpAny_holding ?_
  first | refine wpAny_bind (wpAny_pure ?_) | skip
  refine wpAny_bind (wpAny_sequenceKey ht.typeIs (by decide) ?_)
  refine wpAny_bind (wpAny_callSpecial?_slot (name := Str.ofString "__getitem__") ht.typeIs PyProof.Rows.slot_tuple_getitem
    (wpAny_call_entry PyProof.Rows.slot_tuple_getitem ht.typeIs entry_tuple_getitem ?_ (args_tuple_getitem _ _)))
  show wpAny _ _ (Builtin.Tuple.tupleItemsOf (.ref t) >>= _) _ _ s
  refine wpAny_bind (tupleItemsOf_ ht ?_)
  refine wpAny_bind (wpAny_typeOf hTs ?_)
  rw [if_pos (by decide)]
  refine wpAny_bind (sliceApplied_gen hs pl pu ?_)
  have hno : ¬ ((((sIx items.size 0 lo : Nat) : Int) == 0 && (1 : Int) == 1 && (sIx items.size items.size hi - sIx items.size 0 lo) == items.size) = true) := by
    intro q
    rw [Bool.and_eq_true, Bool.and_eq_true] at q
    have q1 : ((sIx items.size 0 lo : Nat) : Int) = 0 := eq_of_beq q.1.1
    have q2 : sIx items.size items.size hi - sIx items.size 0 lo = items.size := eq_of_beq q.2
    exact hw ⟨by omega, by omega⟩
  show wpAny _ _ (if (((sIx items.size 0 lo : Nat) : Int) == 0 && (1 : Int) == 1 && (sIx items.size items.size hi - sIx items.size 0 lo) == items.size) = true then _ else _) _ _ s
  rw [if_neg hno, pick_gen]
  first
    | exact wpAny_bind (m := Builtin.Tuple.tupleExact _) (wpAny_newObj_type (wpAny_pure ⟨_, rfl, wpAny_pure h⟩) htake)
    | exact wpAny_bind (m := Builtin.Tuple.tupleExact _) (wpAny_newObj_type (wpAny_bind (wpAny_pure (wpAny_pure ⟨_, rfl, wpAny_pure h⟩))) htake)
    | exact wpAny_bind (wpAny_bind (m := Builtin.Tuple.tupleExact _) (wpAny_newObj_type (wpAny_pure (wpAny_pure ⟨_, rfl, wpAny_pure h⟩)) htake))
    | exact wpAny_bind (wpAny_bind (m := Builtin.Tuple.tupleExact _) (wpAny_newObj_type (wpAny_pure ⟨_, rfl, wpAny_pure h⟩) htake))
end
end HT
namespace L2
open PySem PySem.Spec PyProof.Rows
abbrev TO := St → Hp → (Option Int → Hp → Prop) → Prop
def PO (X : Cx) (e : Option Expr) (t : TO) : Prop :=
  ∀ (pins : List (Addr × Obj)) (s : Shared) (σ : St) (H : Hp) (Q : Option Int → Hp → Prop), Inv X pins σ H s → t σ H Q →
    wpAny (model X.prog X.w) X.A (evalPart e X.env) (fun u s' => ∃ o H', Inv X pins σ H' s' ∧ IsPart u o ∧ Q o H') X.xe s
def tNoPart : TO := fun _ H Q => Q none H
def tPart (t : TE) : TO := fun σ H Q => t σ H fun x H1 => ∃ i, x = .int i ∧ Q (some i) H1
section
variable {X : Cx} {e : Expr} {te : TE} {lo hi : Option Expr} {tl th : TO} {pos p2 : Pos}
theorem po_none : PO X none tNoPart := by
  intro pins s σ H Q I h
  rw [evalPart_none]
  exact wpAny_pure ⟨none, H, I, .none, h⟩
theorem po_some (h : PE X e te) : PO X (some e) (tPart te) := by
  intro pins s σ H Q I hw
  rw [evalPart_some]
  refine thn (h pins s σ H _ I hw) fun u s1 ⟨x, H1, I1, r1, q1⟩ => ?_
  obtain ⟨i, rfl, q⟩ := q1
  obtain ⟨t, rfl⟩ := r1
  exact ⟨some i, H1, I1, .int i t, q⟩
def SlR (X : Cx) (r : V → Option Int → Option Int → Hp → VK → Prop) : Prop :=
  ∀ (pins : List (Addr × Obj)) (s : Shared) (σ : St) (H : Hp) (x : V) (v vl vu : Value) (lo hi : Option Int) (sl : Addr) (Q : VK), Inv X pins σ H s → RelV x v → s.heap.IsSliceOf sl vl vu .none → IsPart vl lo → IsPart vu hi → r x lo hi H Q →
    ∃ T id, typeLookup (.type T) "__getitem__" = pure (some (.builtin id)) ∧ s.TypeIs v T ∧ wpAny (model X.prog X.w) X.A (getItem v (.ref sl)) (EP X pins σ Q) X.xe s
def tSl (r : V → Option Int → Option Int → Hp → VK → Prop) (te : TE) (tl th : TO) : TE := fun σ H Q => te σ H fun x H1 => tl σ H1 fun l H2 => th σ H2 fun u H3 => r x l u H3 Q
theorem pe_slice {r : V → Option Int → Option Int → Hp → VK → Prop} (hr : SlR X r) (he : PE X e te) (hl : PO X lo tl) (hu : PO X hi th) : PE X (.Subscript e (.Slice lo hi none p2) pos) (tSl r te tl th) := by
  intro pins s σ H Q I h
  refine Subscript_ (thn (he pins s σ H _ I h) fun v s1 ⟨x, H1, I1, r1, q1⟩ => ?_)
  refine wpAny_Slice (thn (hl pins s1 σ H1 _ I1 q1) fun vl s2 ⟨l, H2, I2, pl, q2⟩ => thn (hu pins s2 σ H2 _ I2 q2) fun vu s3 ⟨u, H3, I3, pu, q3⟩ => ?_)
  rw [evalPart_none]
  refine wpAny_pure ?_
  have I4 : Inv X pins σ H3 { s3 with heap := s3.heap.push { cls := .type "slice", data := .fields #[vl, vu, .none] } } := I3.kept (t' := s3.toks) fun b ob q => Heap.get?_push_of_some _ q
  obtain ⟨T, id, hT, ht, hg⟩ := hr pins { s3 with heap := s3.heap.push { cls := .type "slice", data := .fields #[vl, vu, .none] } } σ H3 x v vl vu l u s3.heap.objs.size Q I4 r1 (Heap.IsSliceOf.new ..) pl pu q3
  show wpAny (model X.prog X.w) X.A (subscriptTail e (.Slice lo hi none p2) v (.ref s3.heap.objs.size)) (EP X pins σ Q) X.xe { s3 with heap := s3.heap.push { cls := .type "slice", data := .fields #[vl, vu, .none] } }
  exact tail_any (ops := [.ref s3.heap.objs.size, v]) ht hT hg (by with_unfolding_all rfl)
def cutV (xs : List V) (lo hi : Option Int) : List V := (xs.drop (HT.sIx xs.length 0 lo)).take (HT.sIx xs.length xs.length hi - HT.sIx xs.length 0 lo)
theorem cutV_length (xs : List V) (lo hi : Option Int) : (cutV xs lo hi).length ≤ xs.length := by
  unfold cutV
  rw [List.length_take, List.length_drop]
  omega
def rSlT (K : PySem.W.Frag) : V → Option Int → Option Int → Hp → VK → Prop := fun x lo hi H Q => ∃ a xs, x = .ref a ∧ SqT K H a xs ∧
  ¬ (HT.sIx xs.length 0 lo = 0 ∧ HT.sIx xs.length xs.length hi = xs.length) ∧ ∀ p, H p = none → Q (.ref p) (upd H p (.tup (cutV xs lo hi)))
theorem sl_tup : SlR X (rSlT X.K) := by
  intro pins s σ H x v vl vu lo hi sl Q I rx hs pl pu h
  obtain ⟨a, xs, rfl, hx, hw, q⟩ := h
  cases rx
  obtain ⟨its, r, ht, hz⟩ := I.tuple hx
  have hlen : its.toArray.size = xs.length := by rw [List.size_toArray]; exact r.length.symm
  refine ⟨"tuple", _, PyProof.Rows.slot_tuple_getitem.lookup, ht.typeIs, ?_⟩
  refine HT.getItem_tuple_cut ht hs pl pu (by rw [hlen]; exact hw) ?_ (by rw [hlen]; exact hz)
  rw [hlen]
  refine ⟨.ref s.heap.objs.size, _, I.laid (t' := s.toks) (o := .tup (cutV xs lo hi)) (fun b ob q => Heap.get?_push_of_some _ q) (Nat.le_refl _) ?_, rfl, q _ (I.hok.fresh (Nat.le_refl _))⟩
  exact ⟨Nat.le_trans (cutV_length xs lo hi) hz, _, (r.drop (HT.sIx xs.length 0 lo)).take (HT.sIx xs.length xs.length hi - HT.sIx xs.length 0 lo), TupN.new _ _⟩
def rCatT (K : PySem.W.Frag) : R2 := fun x y H Q => ∃ a b xs ys, x = .ref a ∧ y = .ref b ∧ SqT K H a xs ∧ SqT K H b ys ∧ xs ≠ [] ∧ xs.length + ys.length ≤ sizeLine ∧
  (ys = [] → Q (.ref a) H) ∧ (ys ≠ [] → ∀ p, H p = none → Q (.ref p) (upd H p (.tup (xs ++ ys))))
theorem Vals.nil_iff {xs : List V} {us : List Value} (r : Vals xs us) : us = [] ↔ xs = [] := by
  cases r with
  | nil => simp
  | cons _ _ => simp
theorem op_catT : OpR X (binaryOp .Add) (rCatT X.K) := by
  intro pins s σ H x y v u Q I rx ry h
  obtain ⟨a, b, xs, ys, rfl, rfl, ha, hb, hx, hz, q1, q2⟩ := h
  cases rx
  cases ry
  obtain ⟨its, r1, p1, _⟩ := I.tuple ha
  obtain ⟨its2, r2, p2, _⟩ := I.tuple hb
  refine HT.cat_tup p1 p2 (fun z => hx (r1.nil_iff.mp z)) (fun z => ⟨.ref a, H, I, rfl, q1 (r2.nil_iff.mp z)⟩) (fun z => ?_) (by rw [← r1.length, ← r2.length]; exact hz)
  refine ⟨.ref s.heap.objs.size, _, I.laid (t' := s.toks) (o := .tup (xs ++ ys)) (fun b ob q => Heap.get?_push_of_some _ q) (Nat.le_refl _) ?_, rfl, q2 (fun w => z (r2.nil_iff.mpr w)) _ (I.hok.fresh (Nat.le_refl _))⟩
  exact ⟨by rw [List.length_append]; exact hz, _, r1.append r2, TupN.new _ _⟩
end
end L2
namespace L2
open PySem PySem.Spec PyProof.Rows
def ixN (n : Nat) (i : Int) : Option Nat := if 0 ≤ i then (if i < n then some i.toNat else none) else if -(n : Int) ≤ i then some (i + n).toNat else none
def atI {α : Type} (xs : List α) (i : Int) : Option α := (ixN xs.length i).bind fun j => xs[j]?
theorem ixN_seq {n : Nat} {i : Int} {j : Nat} (h : ixN n i = some j) : seqIndex? i n = some j ∧ j < n ∧ -(n : Int) ≤ i ∧ i < n := by
  unfold ixN at h
  by_cases h0 : 0 ≤ i
  · rw [if_pos h0] at h
    by_cases h1 : i < n
    · rw [if_pos h1] at h
      have e : i.toNat = j := Option.some.inj h
      exact ⟨by rw [seqIndex_of h0 h1, e], by omega, by omega, h1⟩
    · rw [if_neg h1] at h; cases h
  · rw [if_neg h0] at h
    by_cases h1 : -(n : Int) ≤ i
    · rw [if_pos h1] at h
      have e : (i + n).toNat = j := Option.some.inj h
      exact ⟨by rw [seqIndex_neg (by omega) h1, e], by omega, h1, by omega⟩
    · rw [if_neg h1] at h; cases h
theorem atI_get {α : Type} {xs : List α} {i : Int} {v : α} (h : atI xs i = some v) : ∃ j, seqIndex? i xs.length = some j ∧ xs[j]? = some v ∧ j < xs.length ∧ -(xs.length : Int) ≤ i ∧ i < xs.length := by
  unfold atI at h
  cases e : ixN xs.length i with
  | none => rw [e] at h; cases h
  | some j =>
    rw [e] at h
    obtain ⟨h1, h2, h3, h4⟩ := ixN_seq e
    exact ⟨j, h1, h, h2, h3, h4⟩
theorem atI_nat {α : Type} {xs : List α} {j : Nat} {v : α} (h : xs[j]? = some v) : atI xs (j : Int) = some v := by
  have hj : j < xs.length := (List.getElem?_eq_some_iff.mp h).1
  have e : ixN xs.length (j : Int) = some j := by
    unfold ixN
    rw [if_pos (by omega), if_pos (by omega)]; simp
  unfold atI; rw [e]; exact h
def PlainIx (b : Expr) : Prop := ∀ o i, subscripted b false o i = operate [o, i] (getItem o i)
def IxR (X : Cx) (r : R2) : Prop :=
  ∀ (value slice : Expr) (pins : List (Addr × Obj)) (s : Shared) (σ : St) (H : Hp) (x y : V) (v u : Value) (Q : VK), Inv X pins σ H s → RelV x v → RelV y u → r x y H Q →
    subscripted slice false v u = operate [v, u] (getItem v u) → wpAny (model X.prog X.w) X.A (subscriptTail value slice v u) (EP X pins σ Q) X.xe s
def MtR (X : Cx) (id : String) (r : V → List V → Hp → VK → Prop) : Prop :=
  ∀ (pins : List (Addr × Obj)) (s : Shared) (σ : St) (H : Hp) (x : V) (xs : List V) (v : Value) (us : List Value) (Q : VK), Inv X pins σ H s → RelV x v → Vals xs us → r x xs H Q →
    wpAny (model X.prog X.w) X.A (call (.builtin id) (v :: us)) (EP X pins σ Q) X.xe s
section
variable {X : Cx} {a b : Expr} {ta tb : TE} {pos : Pos}
theorem pe_ix {r : R2} (hr : IxR X r) (ha : PE X a ta) (hb : PE X b tb) (hs : PlainIx b) : PE X (.Subscript a b pos) (tOp r ta tb) := by
  intro pins s σ H Q I h
  exact Subscript_ (binT ha hb I h fun v u s2 x y H2 I2 rx ry q => hr a b pins s2 σ H2 x y v u Q I2 rx ry q (hs _ _))
def rIxL (K : PySem.W.Frag) : R2 := fun x y H Q => ∃ p xs i v, x = .ref p ∧ y = .int i ∧ SqL K H p xs ∧ atI xs i = some v ∧ Q v H
def rIxT (K : PySem.W.Frag) : R2 := fun x y H Q => ∃ p xs i v, x = .ref p ∧ y = .int i ∧ SqT K H p xs ∧ atI xs i = some v ∧ Q v H
def rIxS : R2 := fun x y H Q => ∃ z i c, x = .str z ∧ y = .int i ∧ z.length ≤ sizeLine ∧ atI z.cps.toList i = some c ∧ Q (.str ⟨#[c]⟩) H
theorem ix_list : IxR X (rIxL X.K) := by
  intro value slice pins s σ H x y v u Q I rx ry h hs
  obtain ⟨p, xs, i, z, rfl, rfl, hq, he, q⟩ := h
  cases rx
  obtain ⟨t, rfl⟩ := ry
  obtain ⟨its, r, pl, hz⟩ := I.list hq
  obtain ⟨j, h1, h2, h3, h4, h5⟩ := atI_get he
  obtain ⟨w, ew, rw'⟩ := r.get h2
  have hl := r.length
  have hn := line63
  have fin : EP X pins σ Q w s := ⟨z, H, I, rw', q⟩
  by_cases h0 : 0 ≤ i
  · have hj : i.toNat = j := by
      rw [seqIndex_of h0 h5] at h1
      exact Option.some.inj h1
    exact item_listR pl.isList h0 (by omega) (by rw [hj]; simpa using ew) fin hs
  · have hj : (i + (its.toArray.size : Int)).toNat = j := by
      rw [seqIndex_neg (by omega) h4] at h1
      rw [List.size_toArray, ← hl]
      exact Option.some.inj h1
    exact subscriptTail_builtinR (x := w) pl.isList.typeIs slot_list_getitem.lookup
      (wpAny_getItem_list_neg (Q := fun r s' => r = w ∧ EP X pins σ Q r s') pl.isList (by omega) (by rw [List.size_toArray] <;> omega) (by omega) (by rw [hj]; simpa using ew) ⟨rfl, fin⟩) hs
theorem ix_tup : IxR X (rIxT X.K) := by
  intro value slice pins s σ H x y v u Q I rx ry h hs
  obtain ⟨p, xs, i, z, rfl, rfl, hq, he, q⟩ := h
  cases rx
  obtain ⟨t, rfl⟩ := ry
  obtain ⟨its, r, pl, hz⟩ := I.tuple hq
  obtain ⟨j, h1, h2, h3, h4, h5⟩ := atI_get he
  obtain ⟨w, ew, rw'⟩ := r.get h2
  have hl := r.length
  have hn := line63
  have fin : EP X pins σ Q w s := ⟨z, H, I, rw', q⟩
  exact subscriptTail_builtinR (x := w) pl.typeIs slot_tuple_getitem.lookup
    (getItem_tuple (j := j) (Q := fun r s' => r = w ∧ EP X pins σ Q r s') pl (by omega) (by omega) (by rw [List.size_toArray, ← hl]; exact h1) (by simpa using ew) ⟨rfl, fin⟩) hs
theorem ix_str : IxR X rIxS := by
  intro value slice pins s σ H x y v u Q I rx ry h hs
  obtain ⟨z, i, c, rfl, rfl, hz, he, q⟩ := h
  obtain ⟨t, rfl⟩ := rx
  obtain ⟨t', rfl⟩ := ry
  obtain ⟨j, h1, h2, h3, h4, h5⟩ := atI_get he
  have hl : z.cps.toList.length = z.length := by simp [Str.length]
  rw [hl] at h1 h4 h5
  have hn := line63
  exact tail_any (typeIs_str s z t) slot_str_getitem.lookup (getItem_str (c := c) (by
    have e1 : decide (i < -(2 ^ 63 : Int)) = false := decide_eq_false (by omega)
    have e2 : decide (i ≥ 2 ^ 63) = false := decide_eq_false (by omega)
    rw [e1, e2, Bool.or_false]) (by rw [h1]; simpa using h2) ⟨.str ⟨#[c]⟩, H, I.tok _, ⟨_, rfl⟩, q⟩) hs
theorem mapSeq_set (its : List Value) (n j : Nat) (u : Value) : Obj.mapSeq (·.setIfInBounds j u) { cls := .type "list", data := .seq its.toArray n } = { cls := .type "list", data := .seq (its.set j u).toArray n } := by
  simp [Obj.mapSeq]
theorem Inv.lst {pins : List (Addr × Obj)} {σ : St} {H : Hp} {s : Shared} {p : Addr} {xs : List V} (I : Inv X pins σ H s) (h : H p = some (.lst xs)) :
    ∃ (its : List Value) (n : Nat), Vals xs its ∧ s.heap.get? p = some { cls := .type "list", data := .seq its.toArray n } ∧ xs.length ≤ sizeLine := by
  obtain ⟨z, its, n, r, e⟩ := I.hok p _ h
  exact ⟨its, n, r, e, z⟩
theorem Inv.lstUpd {pins : List (Addr × Obj)} {σ : St} {H : Hp} {s : Shared} {p : Addr} {xs ys : List V} {its its' : List Value} {n n' : Nat} {f : Obj → Obj} (I : Inv X pins σ H s) (h : H p = some (.lst xs))
    (ho : s.heap.get? p = some { cls := .type "list", data := .seq its.toArray n }) (hf : f { cls := .type "list", data := .seq its.toArray n } = { cls := .type "list", data := .seq its'.toArray n' }) (r : Vals ys its') (hz : ys.length ≤ sizeLine) (t : Nat) :
    Inv X pins σ (upd H p (.lst ys)) { s with heap := s.heap.update p f, toks := t } := by
  have e : (s.heap.update p f).get? p = some { cls := .type "list", data := .seq its'.toArray n' } := by
    rw [Heap.get?_update_self f ho (by rw [hf] <;> rfl), hf]
  refine I.write (x := p) (e := p) (by rw [h]; trivial) (.inl rfl) (fun b u hb q => (Heap.get?_update_other _ _ (Ne.symm hb)).trans q) ⟨_, e⟩ ?_
  exact ⟨hz, its', n', r, e⟩
def rSetL : V → V → V → Hp → (Hp → Prop) → Prop := fun o i v H Q => ∃ p xs k j, o = .ref p ∧ i = .int k ∧ H p = some (.lst xs) ∧ ixN xs.length k = some j ∧ Q (upd H p (.lst (xs.set j v)))
theorem set_list : PSet X rSetL := by
  intro pins s σ H o i v ov iv u Q I ro ri rv h
  obtain ⟨p, xs, k, j, rfl, rfl, hp, hj, q⟩ := h
  cases ro
  obtain ⟨t, rfl⟩ := ri
  obtain ⟨its, n, r, ho, hz⟩ := I.lst hp
  obtain ⟨h1, h2, h3, h4⟩ := ixN_seq hj
  have hl := r.length
  have hn := line63
  have I' : Inv X pins σ (upd H p (.lst (xs.set j v))) { s with heap := s.heap.update p (Obj.mapSeq (·.setIfInBounds j u)) } :=
    I.lstUpd hp ho (mapSeq_set its n j u) (r.set rv j) (by rw [List.length_set]; exact hz) s.toks
  by_cases h0 : 0 ≤ k
  · have hk : k.toNat = j := by
      rw [seqIndex_of h0 h4] at h1
      exact Option.some.inj h1
    exact PySem.W.ki_setAt ho h0 (by omega) (by rw [List.size_toArray, ← hl]; exact h4) (by rw [hk]; exact ⟨_, I', q⟩)
  · have hk : (k + (its.toArray.size : Int)).toNat = j := by
      rw [seqIndex_neg (by omega) h3] at h1
      rw [List.size_toArray, ← hl]
      exact Option.some.inj h1
    exact PySem.W.ki_setBack ho (by omega) (by rw [List.size_toArray, ← hl]; exact h3) (by omega) (by rw [hk]; exact ⟨_, I', q⟩)
theorem slice_bounds (lo hi : Option Int) (n : Nat) : (sliceBounds lo hi none n).1 = ((HT.sIx n 0 lo : Nat) : Int) ∧ (sliceBounds lo hi none n).2.1 = ((HT.sIx n n hi : Nat) : Int) ∧ (sliceBounds lo hi none n).2.2 = 1 := by
  refine ⟨?_, ?_, rfl⟩
  · cases lo with
    | none => simp [sliceBounds, HT.sIx]
    | some i =>
      simp only [sliceBounds, HT.sIx, Option.getD_none, show (1 : Int) > 0 by decide, if_true]
      by_cases h : i < 0
      · simp only [h, if_true] <;> omega
      · simp only [h, if_false] <;> omega
  · cases hi with
    | none => simp [sliceBounds, HT.sIx]
    | some i =>
      simp only [sliceBounds, HT.sIx, Option.getD_none, show (1 : Int) > 0 by decide, if_true]
      by_cases h : i < 0
      · simp only [h, if_true] <;> omega
      · simp only [h, if_false] <;> omega
theorem slicePick_cut (its : List Value) (lo hi : Option Int) : slicePick its.toArray lo hi none = ((its.drop (HT.sIx its.length 0 lo)).take (HT.sIx its.length its.length hi - HT.sIx its.length 0 lo)).toArray := by
  obtain ⟨h1, h2, h3⟩ := slice_bounds lo hi its.toArray.size
  unfold slicePick
  rw [h1, h2, h3]
  simp only [sliceRange_one, pick_run, List.size_toArray] <;> rfl
def rSlL (K : PySem.W.Frag) : V → Option Int → Option Int → Hp → VK → Prop := fun x lo hi H Q => ∃ a xs, x = .ref a ∧ SqL K H a xs ∧ ∀ p, H p = none → Q (.ref p) (upd H p (.lst (cutV xs lo hi)))
theorem sl_list : SlR X (rSlL X.K) := by
  intro pins s σ H x v vl vu lo hi sl Q I rx hs pl pu h
  obtain ⟨a, xs, rfl, hx, q⟩ := h
  cases rx
  obtain ⟨its, r, ht, hz⟩ := I.list hx
  have hlen := r.length
  refine ⟨"list", _, slot_list_getitem.lookup, ht.isList.typeIs, ?_⟩
  refine wpAny_getItem_list_slice ht.isList hs pl pu .none (by simp) ?_ (by rw [List.size_toArray] <;> omega)
  rw [slicePick_cut, ← hlen]
  refine ⟨.ref s.heap.objs.size, _, I.laid (t' := s.toks) (o := .lst (cutV xs lo hi)) (fun b ob q => Heap.get?_push_of_some _ q) (Nat.le_refl _) ?_, rfl, q _ (I.hok.fresh (Nat.le_refl _))⟩
  exact ⟨Nat.le_trans (cutV_length xs lo hi) hz, _, 0, (r.drop (HT.sIx xs.length 0 lo)).take (HT.sIx xs.length xs.length hi - HT.sIx xs.length 0 lo), Heap.get?_push_size _ rfl⟩
def flatV : V → Bool
  | .non => true
  | .bl _ => true
  | .int _ => true
  | .str _ => true
  | _ => false
def eqV : V → V → Bool
  | .non, .non => true
  | .bl a, .bl b => a == b
  | .bl a, .int b => (if a then 1 else 0) == b
  | .int a, .bl b => a == (if b then 1 else 0)
  | .int a, .int b => a == b
  | .str a, .str b => a == b
  | _, _ => false
theorem eqAt_V {A : Around} {s : Shared} {y x : V} {u v : Value} (ry : RelV y u) (rx : RelV x v) (fy : flatV y = true) (fx : flatV x = true) : SeqAt.EqAt A s u v (eqV y x) := by
  cases y with
  | non =>
    cases ry
    cases x with
    | non => cases rx; exact SeqAt.EqAt.same _
    | bl b => cases rx; exact SeqAt.EqAt.none_bool b
    | int b => obtain ⟨t, rfl⟩ := rx; exact SeqAt.EqAt.none_int b t
    | str b => obtain ⟨t, rfl⟩ := rx; exact SeqAt.EqAt.none_str b t
    | _ => exact absurd (show false = true from fx) Bool.false_ne_true
  | bl a =>
    cases ry
    cases x with
    | non => cases rx; exact SeqAt.EqAt.bool_none a
    | bl b => cases rx; exact SeqAt.EqAt.bool_bool a b
    | int b => obtain ⟨t, rfl⟩ := rx; exact SeqAt.EqAt.bool_int a b t
    | str b => obtain ⟨t, rfl⟩ := rx; exact SeqAt.EqAt.bool_str a b t
    | _ => exact absurd (show false = true from fx) Bool.false_ne_true
  | int a =>
    obtain ⟨t', rfl⟩ := ry
    cases x with
    | non => cases rx; exact SeqAt.EqAt.int_none a t'
    | bl b => cases rx; exact SeqAt.EqAt.int_bool a t' b
    | int b => obtain ⟨t, rfl⟩ := rx; exact SeqAt.EqAt.int_int a t' b t
    | str b => obtain ⟨t, rfl⟩ := rx; exact SeqAt.EqAt.int_str a t' b t
    | _ => exact absurd (show false = true from fx) Bool.false_ne_true
  | str a =>
    obtain ⟨t', rfl⟩ := ry
    cases x with
    | non => cases rx; exact SeqAt.EqAt.str_none a t'
    | bl b => cases rx; exact SeqAt.EqAt.str_bool a t' b
    | int b => obtain ⟨t, rfl⟩ := rx; exact SeqAt.EqAt.str_int a t' b t
    | str b => obtain ⟨t, rfl⟩ := rx; exact SeqAt.EqAt.str_str a t' b t
    | _ => exact absurd (show false = true from fx) Bool.false_ne_true
  | _ => exact absurd (show false = true from fy) Bool.false_ne_true
def eqU (x : V) (u : Value) : Bool := match u with
  | .none => eqV .non x
  | .bool b => eqV (.bl b) x
  | .int i _ => eqV (.int i) x
  | .str z _ => eqV (.str z) x
  | _ => false
theorem eqU_of {x y : V} {u : Value} (r : RelV y u) (f : flatV y = true) : eqU x u = eqV y x := by
  cases y with
  | non => cases r; rfl
  | bl b => cases r; rfl
  | int i => obtain ⟨t, rfl⟩ := r; rfl
  | str z => obtain ⟨t, rfl⟩ := r; rfl
  | _ => exact absurd (show false = true from f) Bool.false_ne_true
theorem any_eqU {x : V} : ∀ {xs : List V} {us : List Value}, Vals xs us → xs.all flatV = true → us.any (eqU x) = xs.any fun y => eqV y x
  | _, _, .nil, _ => rfl
  | y :: xs, u :: us, .cons r t, f => by
    rw [List.all_cons, Bool.and_eq_true] at f
    rw [List.any_cons, List.any_cons, eqU_of r f.1, any_eqU t f.2]
theorem mem_eqAt {A : Around} {s : Shared} {x : V} {v : Value} (rx : RelV x v) (fx : flatV x = true) : ∀ {xs : List V} {us : List Value}, Vals xs us → xs.all flatV = true → ∀ u ∈ us, SeqAt.EqAt A s u v (eqU x u)
  | _, _, .nil, _ => fun u hu => by cases hu
  | y :: xs, u :: us, .cons r t, f => fun u' hu => by
    rw [List.all_cons, Bool.and_eq_true] at f
    rcases List.mem_cons.mp hu with rfl | hu
    · rw [eqU_of r f.1]; exact eqAt_V r rx f.1 fx
    · exact mem_eqAt rx fx t f.2 u' hu
def inV (x : V) (xs : List V) : Bool := xs.any fun y => eqV y x
def rIn (K : PySem.W.Frag) (neg : Bool) : R2 := fun x y H Q => ∃ p xs, y = .ref p ∧ (SqL K H p xs ∨ SqT K H p xs) ∧ flatV x = true ∧ xs.all flatV = true ∧ Q (.bl (if neg then !inV x xs else inV x xs)) H
theorem op_in_seq : OpR X (compareOp .In) (rIn X.K false) := by
  intro pins s σ H x y v u Q I rx ry h
  obtain ⟨p, xs, rfl, hq, fx, fs, q⟩ := h
  cases ry
  rcases hq with hq | hq
  · obtain ⟨its, r, pl, hz⟩ := I.list hq
    refine SeqAt.in_listAt (eqU x) pl.isList (fun w hw => mem_eqAt rx fx r fs w (by simpa using hw)) ⟨.bl _, H, I, rfl, ?_⟩
    rw [show its.toArray.any (eqU x) = its.any (eqU x) by simp, any_eqU r fs]
    exact q
  · obtain ⟨its, r, pl, hz⟩ := I.tuple hq
    refine SeqAt.in_tupleAt (eqU x) pl (fun w hw => mem_eqAt rx fx r fs w (by simpa using hw)) ⟨.bl _, H, I, rfl, ?_⟩
    rw [show its.toArray.any (eqU x) = its.any (eqU x) by simp, any_eqU r fs]
    exact q
theorem op_notIn_seq : OpR X (compareOp .NotIn) (rIn X.K true) := by
  intro pins s σ H x y v u Q I rx ry h
  obtain ⟨p, xs, rfl, hq, fx, fs, q⟩ := h
  cases ry
  rcases hq with hq | hq
  · obtain ⟨its, r, pl, hz⟩ := I.list hq
    refine SeqAt.notIn_listAt (eqU x) pl.isList (fun w hw => mem_eqAt rx fx r fs w (by simpa using hw)) ⟨.bl _, H, I, rfl, ?_⟩
    rw [show its.toArray.any (eqU x) = its.any (eqU x) by simp, any_eqU r fs]
    exact q
  · obtain ⟨its, r, pl, hz⟩ := I.tuple hq
    refine SeqAt.notIn_tupleAt (eqU x) pl (fun w hw => mem_eqAt rx fx r fs w (by simpa using hw)) ⟨.bl _, H, I, rfl, ?_⟩
    rw [show its.toArray.any (eqU x) = its.any (eqU x) by simp, any_eqU r fs]
    exact q
theorem call_len_seq : CallR X (.builtin "len") (fun xs H Q => ∃ p ys, xs = [.ref p] ∧ (SqL X.K H p ys ∨ SqT X.K H p ys) ∧ Q (.int ys.length) H) := by
  intro pins s σ H xs us Q I r h
  obtain ⟨p, ys, rfl, hq, q⟩ := h
  obtain ⟨u, rfl, rx⟩ := vals1 r
  cases rx
  have hn := line63
  rcases hq with hq | hq
  · obtain ⟨its, r', pl, hz⟩ := I.list hq
    have hlen := r'.length
    exact Calls.call_len_list pl.isList (by simp only [List.size_toArray] <;> omega) ⟨.int ys.length, H, I.tok _, ⟨s.toks + 1, by rw [List.size_toArray, hlen]⟩, q⟩
  · obtain ⟨its, r', pl, hz⟩ := I.tuple hq
    have hlen := r'.length
    exact len_tuple pl (by simp only [List.size_toArray] <;> omega) ⟨.int ys.length, H, I.tok _, ⟨s.toks + 1, by rw [List.size_toArray, hlen]⟩, q⟩
theorem call_len_str : CallR X (.builtin "len") (fun xs H Q => ∃ z, xs = [.str z] ∧ z.length ≤ sizeLine ∧ Q (.int z.length) H) := by
  intro pins s σ H xs us Q I r h
  obtain ⟨z, rfl, hz, q⟩ := h
  obtain ⟨u, rfl, t, rfl⟩ := vals1 r
  have hn := line63
  exact len_str (by omega) ⟨.int z.length, H, I.tok _, ⟨_, rfl⟩, q⟩
theorem call_tuple_of : CallR X (.type "tuple") (fun xs H Q => ∃ p ys, xs = [.ref p] ∧ ((SqL X.K H p ys ∧ ∀ l, H l = none → Q (.ref l) (upd H l (.tup ys))) ∨ (SqT X.K H p ys ∧ Q (.ref p) H))) := by
  intro pins s σ H xs us Q I r h
  obtain ⟨p, ys, rfl, h⟩ := h
  obtain ⟨u, rfl, rx⟩ := vals1 r
  cases rx
  rcases h with ⟨hq, q⟩ | ⟨hq, q⟩
  · obtain ⟨its, r', pl, hz⟩ := I.list hq
    have hlen := r'.length
    refine call_tuple_list pl.isList (fun h' kp => ?_) (by simp only [List.size_toArray] <;> omega)
    have I1 : Inv X pins σ H { s with heap := h' } := I.kept (t' := s.toks) kp
    have I2 : Inv X pins σ (upd H h'.objs.size (.tup ys)) { s with heap := h'.push { cls := .type "tuple", data := .seq its.toArray } } :=
      I1.laid (t' := s.toks) (fun b o e => Heap.get?_push_of_some _ e) (Nat.le_refl _) (show ObjOk X.prog X.w _ _ _ (.tup ys) from ⟨hz, its, r', TupN.new _ _⟩)
    exact ⟨.ref h'.objs.size, _, I2, rfl, q _ (I1.hok.fresh (Nat.le_refl _))⟩
  · obtain ⟨its, r', pl, hz⟩ := I.tuple hq
    exact call_tuple_same pl ⟨.ref p, H, I, rfl, q⟩
def tyV (K : PySem.W.Frag) (T : String) (x : V) (H : Hp) : Prop := match x with
  | .str _ => T = "str"
  | .int _ => T = "int"
  | .ref p => (T = "list" ∧ ∃ xs, SqL K H p xs) ∨ (T = "tuple" ∧ ∃ xs, H p = some (.tup xs)) ∨ (T = "tuple" ∧ ∃ o, K.lookup p = some o ∧ o.cls = .type "tuple" ∧ o.dict = none) ∨
      (T = "dict" ∧ ((∃ kvs, H p = some (.dK kvs)) ∨ ∃ kvs, H p = some (.dT kvs))) ∨ (T = "set" ∧ ∃ S n, H p = some (.set S n))
  | _ => False
theorem tyV_is {pins : List (Addr × Obj)} {σ : St} {H : Hp} {s : Shared} {T : String} {x : V} {v : Value} (I : Inv X pins σ H s) (r : RelV x v) (ty : tyV X.K T x H) :
    s.TypeIs v T ∧ ∀ a, v = .ref a → ∃ ob, s.heap.get? a = some ob ∧ ob.dict = none := by
  cases x with
  | str z =>
    obtain ⟨t, rfl⟩ := r
    cases (show T = "str" from ty)
    exact ⟨typeIs_str s z t, fun _ e => nomatch e⟩
  | int i =>
    obtain ⟨t, rfl⟩ := r
    cases (show T = "int" from ty)
    exact ⟨typeIs_int s i t, fun _ e => nomatch e⟩
  | ref p =>
    cases r
    rcases ty with ⟨rfl, xs, hq⟩ | ⟨rfl, xs, hx⟩ | ⟨rfl, o, hk, hc, hd⟩ | ⟨rfl, hk⟩ | ⟨rfl, S, n, hk⟩
    · obtain ⟨its, _, pl, _⟩ := I.list hq
      refine ⟨pl.isList.typeIs, fun a e => ?_⟩
      cases e
      obtain ⟨o, n, e, c, hd, _⟩ := pl
      exact ⟨o, e, hd⟩
    · obtain ⟨_, _, _, o, e, hd, hc, _⟩ := (show ObjOk X.prog X.w H s.heap p (.tup xs) from I.hok p _ hx)
      refine ⟨⟨o, e, hc⟩, fun a e2 => ?_⟩
      cases e2
      exact ⟨o, e, hd⟩
    · refine ⟨⟨o, I.kIn p o hk, hc⟩, fun a e => ?_⟩
      cases e
      exact ⟨o, I.kIn _ o hk, hd⟩
    · have z : ∃ o, s.heap.get? p = some o ∧ o.ExactDict := by
        rcases hk with ⟨kvs, hk⟩ | ⟨kvs, hk⟩
        · obtain ⟨_, _, _, _, o, _, _, e, ex, _⟩ := I.hok p _ hk
          exact ⟨o, e, ex⟩
        · obtain ⟨_, _, _, _, o, _, _, e, ex, _⟩ := I.hok p _ hk
          exact ⟨o, e, ex⟩
      obtain ⟨o, e, ex⟩ := z
      refine ⟨⟨o, e, ex.1⟩, fun a e2 => ?_⟩
      cases e2
      exact ⟨o, e, ex.2.1⟩
    · obtain ⟨o, _, _, _, e, ex, _⟩ := I.hok p _ hk
      refine ⟨⟨o, e, ex.1⟩, fun a e2 => ?_⟩
      cases e2
      exact ⟨o, e, ex.2.1⟩
  | _ => exact False.elim ty
def tBM (K : PySem.W.Frag) (T : String) (r : V → List V → Hp → VK → Prop) (to : TE) (t : TA) : TE := fun σ H Q => to σ H fun x H1 => tyV K T x H1 ∧ t σ H1 fun xs H2 => r x xs H2 Q
variable {o e : Expr} {es : List Expr} {to : TE} {t : TA} {name : Str} {apos cpos : Pos} {T id : String} {r : V → List V → Hp → VK → Prop}
theorem pe_bm (pa : PlainAttrs T) (slot : Slot T name id) (hty : typeOf (.builtin id) = pure (.type "method_descriptor")) (hm : MtR X id r) (ho : PE X o to) (ha : PA X (e :: es) t)
    (hbase : attributeBase o name X.env (eval o X.env) = eval o X.env := by rfl)
    (hfew : ((backTo cpos (starEach (e :: es) X.env)).all (fun x => !x.1) && (backToKw cpos (keywordEach [] X.env)).all (fun x => x.1.isSome)
      && decide ((e :: es).length + ([] : List Keyword).length + (if ([] : List Keyword).isEmpty then 0 else 1) < 30)) = true := by rfl)
    (hline : (apos.endLine == cpos.line) = true := by rfl) (hs : starEach (e :: es) X.env = (false, eval e X.env) :: starEach es X.env := by rfl) (hplain : (backTo cpos (starEach es X.env)).any (·.1) = false := by rfl) :
    PE X (.Call (.Attribute o name apos) (e :: es) [] cpos) (tBM X.K T r to t) := by
  intro pins s σ H Q I h
  refine wpAny_Call_method_late hbase hfew hline rfl (thn (ho pins s σ H _ I h) fun v s1 ⟨x, H1, I1, r1, ty, q1⟩ => ?_)
  obtain ⟨h1, h2⟩ := tyV_is I1 r1 ty
  refine ⟨T, id, pa, slot, hty, h1, h2, ?_⟩
  have hA := ha cpos pins s1 σ H1 _ I1 q1
  rw [hs] at hA ⊢
  refine Calls.callWith_builtin (by show (false || (backTo cpos (starEach es X.env)).any (·.1)) = false; rw [hplain] <;> rfl) (Calls.evalArgs_plain ?_)
  exact thn hA fun us s2 ⟨vs, H2, I2, r2, q2⟩ => hm pins s2 σ H2 x vs v us Q I2 r1 r2 q2
end
end L2
namespace L2
open PySem PySem.Spec PyProof.Rows
def MtM (X : Cx) (id : String) (r : V → List V → Hp → VK → Prop) : Prop :=
  ∀ (pins : List (Addr × Obj)) (s : Shared) (σ : St) (H : Hp) (x : V) (xs : List V) (v : Value) (us : List Value) (Q : VK), Inv X pins σ H s → RelV x v → Vals xs us → r x xs H Q →
    wpAny (model X.prog X.w) X.A (call (.builtin id) (v :: us)) (EP X pins σ Q) X.xe s
theorem Vals.one : ∀ {x : V} {us : List Value}, Vals [x] us → ∃ u, us = [u] ∧ RelV x u
  | _, _, .cons r .nil => ⟨_, rfl, r⟩
theorem Vals.two : ∀ {x y : V} {us : List Value}, Vals [x, y] us → ∃ u v, us = [u, v] ∧ RelV x u ∧ RelV y v
  | _, _, _, .cons r (.cons q .nil) => ⟨_, _, rfl, r, q⟩
theorem Vals.zero : ∀ {us : List Value}, Vals [] us → us = []
  | _, .nil => rfl
theorem Vals.rep {xs : List V} {us : List Value} (h : Vals xs us) : ∀ k : Nat, Vals (List.replicate k xs).flatten (List.replicate k us).flatten
  | 0 => .nil
  | k + 1 => by
    rw [List.replicate_succ, List.replicate_succ, List.flatten_cons, List.flatten_cons]
    exact Vals.append h (Vals.rep h k)
theorem foldl_rep (its : List Value) : ∀ (k : Nat) (acc : List Value),
    List.foldl (fun x1 x2 => x1 ++ x2) acc.toArray (List.replicate k its.toArray) = (acc ++ (List.replicate k its).flatten).toArray
  | 0, acc => by simp
  | k + 1, acc => by
    have e : acc.toArray ++ its.toArray = (acc ++ its).toArray := by simp
    have e2 : (acc ++ its) ++ (List.replicate k its).flatten = acc ++ (List.replicate (k + 1) its).flatten := by
      rw [List.replicate_succ, List.flatten_cons, List.append_assoc]
    rw [← e2, ← foldl_rep its k (acc ++ its), ← e, List.replicate_succ, List.foldl_cons]
section
variable {X : Cx} {pins : List (Addr × Obj)} {σ : St} {H : Hp} {s : Shared} {l b : Addr} {xs ys zs : List V}
theorem Inv.lset {its its' : List Value} {n : Nat} {f : Array Value → Array Value} {t' : Nat} (I : Inv X pins σ H s) (hH : H l = some (.lst xs))
    (e : s.heap.get? l = some { cls := .type "list", data := .seq its.toArray n }) (hf : f its.toArray = its'.toArray) (hv : Vals ys its') (hz : ys.length ≤ sizeLine) :
    Inv X pins σ (upd H l (.lst ys)) { s with heap := s.heap.update l (Obj.mapSeq f), toks := t' } := by
  have q := PySem.IsL.update e f
  rw [hf] at q
  refine I.write (x := l) (e := l) (by rw [hH]; exact trivial) (.inl rfl) (fun b' u hb hu => (Heap.get?_update_other s.heap (Obj.mapSeq f) (Ne.symm hb)).trans hu) ⟨_, q⟩ ?_
  exact ⟨hz, its', _, hv, q⟩
theorem Inv.lnew {its : List Value} {t' : Nat} (I : Inv X pins σ H s) (hv : Vals ys its) (hz : ys.length ≤ sizeLine) :
    Inv X pins σ (upd H s.heap.objs.size (.lst ys)) { s with heap := s.heap.push { cls := .type "list", data := .seq its.toArray }, toks := t' } :=
  I.laid (fun _ _ q => Heap.get?_push_of_some _ q) (Nat.le_refl _) ⟨hz, its, 0, hv, Heap.get?_push_size _ rfl⟩
theorem Inv.fresh (I : Inv X pins σ H s) : H s.heap.objs.size = none := I.hok.fresh (Nat.le_refl _)
theorem Inv.lstM (I : Inv X pins σ H s) (hH : H l = some (.lst xs)) : xs.length ≤ sizeLine ∧ ∃ (its : List Value) (n : Nat), Vals xs its ∧ xs.length = its.length ∧ s.heap.get? l = some { cls := .type "list", data := .seq its.toArray n } := by
  obtain ⟨z, its, n, r, e⟩ := I.hok l _ hH
  exact ⟨z, its, n, r, r.length, e⟩
theorem notLongL {n : Nat} (h : n ≤ sizeLine) : Builtin.List.listTooLong n = false := by
  unfold Builtin.List.listTooLong
  exact decide_eq_false (by omega)
end
section
variable {X : Cx}
def rAppend : V → List V → Hp → VK → Prop := fun x vs H Q => ∃ l xs y, x = .ref l ∧ vs = [y] ∧ H l = some (.lst xs) ∧ xs.length < sizeLine ∧ Q .non (upd H l (.lst (xs ++ [y])))
theorem mt_append : MtM X "list.append" rAppend := by
  intro pins s σ H x vs v us Q I rx rv h
  obtain ⟨l, xs, y, rfl, rfl, hH, hz, q⟩ := h
  cases rx
  obtain ⟨u, rfl, ru⟩ := rv.one
  obtain ⟨z, its, n, r, hl, e⟩ := I.lstM hH
  refine call_meets F.slot_list_append ⟨_, e, rfl⟩ F.entry_list_append (F.args_list_append_2 _ _) (PySem.list_append l its.toArray n u (by rw [List.size_toArray]; omega)) ⟨e, ?_⟩
  refine ⟨.non, _, I.lset (its' := its ++ [u]) hH e (by simp) (r.append (.cons ru .nil)) ?_, rfl, q⟩
  rw [List.length_append, List.length_singleton]
  omega
def rCat : R2 := fun x y H Q => ∃ l b xs zs, x = .ref l ∧ y = .ref b ∧ H l = some (.lst xs) ∧ H b = some (.lst zs) ∧ xs.length + zs.length ≤ sizeLine ∧ ∀ p, H p = none → Q (.ref p) (upd H p (.lst (xs ++ zs)))
theorem op_cat : OpR X (binaryOp .Add) rCat := by
  intro pins s σ H x y v u Q I rx ry h
  obtain ⟨l, b, xs, zs, rfl, rfl, hH, hB, hz, q⟩ := h
  cases rx
  cases ry
  obtain ⟨z, its, n, r, hl, e⟩ := I.lstM hH
  obtain ⟨z2, its2, n2, r2, hl2, e2⟩ := I.lstM hB
  refine PySem.P.add_list e e2 ?_ (by rw [List.size_toArray, List.size_toArray]; omega)
  have ea : its.toArray ++ its2.toArray = (its ++ its2).toArray := by simp
  rw [ea]
  exact ⟨.ref _, _, I.lnew (t' := s.toks) (r.append r2) (by rw [List.length_append]; omega), rfl, q _ I.fresh⟩
def rRep : R2 := fun x y H Q => ∃ l k xs, x = .ref l ∧ y = .int k ∧ H l = some (.lst xs) ∧ -(2 ^ 63) ≤ k ∧ k < 2 ^ 63 ∧ xs.length * k.toNat ≤ sizeLine ∧
  ∀ p, H p = none → Q (.ref p) (upd H p (.lst (List.replicate k.toNat xs).flatten))
theorem len_rep {α : Type} (xs : List α) (k : Nat) : (List.replicate k xs).flatten.length = k * xs.length := by
  induction k with
  | zero => simp
  | succ k ih => rw [List.replicate_succ, List.flatten_cons, List.length_append, ih, Nat.succ_mul, Nat.add_comm]
theorem op_rep : OpR X (binaryOp .Mult) rRep := by
  intro pins s σ H x y v u Q I rx ry h
  obtain ⟨l, k, xs, rfl, rfl, hH, h1, h2, hz, q⟩ := h
  cases rx
  obtain ⟨t, rfl⟩ := ry
  obtain ⟨z, its, n, r, hl, e⟩ := I.lstM hH
  have hlen : its.toArray.size * k.toNat ≤ sizeLine := by rw [List.size_toArray, ← hl]; exact hz
  have hcap : ¬ its.toArray.size * k.toNat > (2 ^ 63 - 1) / 8 := by
    have : (sizeLine : Nat) ≤ (2 ^ 63 - 1) / 8 := by decide
    omega
  have hfit : ¬ (!Builtin.List.listFitsIndex k) = true := by
    rw [fitsIndex_both h1 h2]
    exact Bool.false_ne_true
  have hlong : ¬ Builtin.List.listTooLong (its.toArray.size * k.toNat) = true := by
    rw [notLongL hlen]
    exact Bool.false_ne_true
  have hnew : List.foldl (fun x1 x2 => x1 ++ x2) #[] (List.replicate (if its.toArray.isEmpty = true then 0 else k.toNat) its.toArray) = (List.replicate k.toNat its).flatten.toArray := by
    have f0 : ∀ m : Nat, List.foldl (fun x1 x2 => x1 ++ x2) #[] (List.replicate m its.toArray) = (List.replicate m its).flatten.toArray := fun m => by
      have := foldl_rep its m []
      rw [List.nil_append] at this
      exact this
    rw [f0]
    cases its with
    | nil => simp
    | cons a r' => rw [if_neg (by simp)]
  refine wpAny_binaryOp_repeat_ref (T := "list") (U := "int") (by decide) ⟨_, e, rfl⟩ (fun s' => typeIs_int s' k t) noFill_list_mul F.fills_int_mul F.slot_int_rmul repeat_list F.slot_int_index.lookup
    (call_meets F.slot_int_rmul (typeIs_int s k t) F.entry_int_rmul (F.args_int_rmul_2 _ _) (int___rmul___int_list k t l its.toArray n)
      ⟨e, rfl, ⟨_, e, rfl⟩, call_meets F.slot_list_mul ⟨_, e, rfl⟩ F.entry_list_mul (F.args_list_mul_2 _ _) (AutoListH.list___mul___list_int_3 l its.toArray n k t hfit hcap hlong) ⟨e, ?_⟩⟩)
  rw [hnew]
  exact ⟨.ref _, _, I.lnew (t' := s.toks) (r.rep k.toNat) (by rw [len_rep, Nat.mul_comm]; exact hz), rfl, q _ I.fresh⟩
end
section
variable {prog : Program} {w : World} {A : Around} {E : Value → Shared → Prop} {s : Shared}
end
section
variable {X : Cx}
end
end L2
namespace L2
open PySem PySem.Spec PyProof.Rows
theorem Vals.strs : ∀ {xs : List Str} {us : List Value}, Vals (xs.map V.str) us → StrsAre us xs
  | [], us, h => by
    rw [List.map_nil] at h
    cases h
    exact StrsAre.nil
  | x :: xs, us, h => by
    rw [List.map_cons] at h
    cases h with
    | cons r t =>
      obtain ⟨k, rfl⟩ := r
      exact StrsAre.cons x k (Vals.strs t)
theorem Vals.bls : ∀ {bs : List Bool} {us : List Value}, Vals (bs.map V.bl) us → us = bs.map Value.bool
  | [], us, h => by
    rw [List.map_nil] at h
    cases h
    rfl
  | b :: bs, us, h => by
    rw [List.map_cons] at h
    cases h with
    | cons r t =>
      cases r
      rw [Vals.bls t, List.map_cons]
theorem Vals.ref1 {a : Addr} {us : List Value} (r : Vals [V.ref a] us) : us = [Value.ref a] := by
  cases r with
  | cons r t =>
    cases t
    cases r
    rfl
section
variable {prog : Program} {w : World} {A : Around} {E : Value → Shared → Prop} {s : Shared} {l : Addr} {its : List Value} {ns : List Int} {Q : Value → Shared → Prop}
end
section
variable {X : Cx}
end
section
variable {X : Cx}
end
section
variable {X : Cx}
end
theorem iter_any {prog : Program} {w : World} {A : Around} {E : Value → Shared → Prop} {s : Shared} {l : Addr} {items : Array Value} {Q : Value → Shared → Prop} (hl : s.heap.IsList l items)
    (h : ∀ s₂ : Shared, s₂ = { s with heap := s.heap.push { cls := .type "list_iterator", data := .fields #[.ref l, .int 0 0] } } →
      (s₂.heap.IsListIter s.heap.objs.size l 0 ∧ s₂.heap.IsList l items) → l ≠ s.heap.objs.size → Q (.ref s.heap.objs.size) s₂) : wpAny (model prog w) A (pyIter (.ref l)) Q E s := by
  have hlt : l < s.heap.objs.size := by obtain ⟨_, e, _⟩ := hl; exact Heap.lt_size e
  exact wpAny_pyIter_list hl (h _ rfl ⟨⟨_, Heap.get?_push_size _ rfl, rfl, rfl⟩, hl.push _⟩ (Nat.ne_of_lt hlt))
theorem truth_bools {prog : Program} {w : World} {A : Around} {bs : List Bool} {its : List Value} (e : its = bs.map Value.bool) :
    TruthOf prog w A (fun i v => its.toArray[i]? = some v) (fun i => bs.getD i false) := fun i v s Q E hv hq => by
  have hv' : its[i]? = some v := by simpa using hv
  rw [e, List.getElem?_map] at hv'
  obtain ⟨b, hb, rfl⟩ := Option.map_eq_some_iff.mp hv'
  have hg : bs.getD i false = b := by rw [List.getD_eq_getElem?_getD, hb] <;> rfl
  have hq' : Q (bs.getD i false) s := hq
  rw [hg] at hq'
  exact wpAny_truthy_bool hq'
theorem all_range : ∀ bs : List Bool, (List.range bs.length).all (fun i => bs.getD i false) = bs.all id
  | [] => rfl
  | b :: bs => by
    rw [List.length_cons, List.range_succ_eq_map, List.all_cons, List.all_map, List.all_cons, ← all_range bs]
    all_goals rfl
section
variable {X : Cx}
def rAll (K : PySem.W.Frag) : List V → Hp → VK → Prop := fun vs H Q => ∃ (a : Addr) (bs : List Bool), vs = [V.ref a] ∧ SqL K H a (bs.map V.bl) ∧ Q (.bl (bs.all id)) H
theorem cr_all (hc : X.calm = true) : CallR X (.builtin "all") (rAll X.K) := by
  intro pins s σ H vs us Q I r h
  obtain ⟨a, bs, rfl, hs, q⟩ := h
  obtain ⟨its, rv, hl, _⟩ := I.list hs
  rw [Vals.ref1 r]
  have hb := rv.bls
  refine call_all_walk (iter_any hl.isList fun s₂ e2 st hne => ?_)
  subst e2
  refine ⟨_, _, _, _, _, _, _, rfl, Walks.list (A := X.A.in1) (I.ok.hd hc) _ a hne its.toArray, st, truth_bools hb, fun h' tk hk => ?_⟩
  refine ⟨.bl _, H, I.kept fun b o eo => hk b o (fun hmem => ?_) (Heap.get?_push_of_some _ eo), ?_, q⟩
  · rcases List.mem_cons.mp hmem with e1 | hmem
    · exact absurd (e1 ▸ Heap.lt_size eo) (Nat.lt_irrefl _)
    · cases hmem
  · show Value.bool _ = Value.bool _
    rw [← all_range, hb, List.size_toArray, List.length_map]
end
mutual
inductive Dp (K : PySem.W.Frag) (H : Hp) : V → PyData → Prop
  | non : Dp K H .non .none
  | bl (b : Bool) : Dp K H (.bl b) (.bool b)
  | int (i : Int) : Dp K H (.int i) (.int i)
  | str (x : Str) : Dp K H (.str x) (.str x)
  | lst {a : Addr} {xs : List V} {ds : List PyData} : SqL K H a xs → DpAll K H xs ds → Dp K H (.ref a) (.list ds)
  | tup {a : Addr} {xs : List V} {ds : List PyData} : SqT K H a xs → DpAll K H xs ds → Dp K H (.ref a) (.tuple ds)
inductive DpAll (K : PySem.W.Frag) (H : Hp) : List V → List PyData → Prop
  | nil : DpAll K H [] []
  | cons {v : V} {vs : List V} {d : PyData} {ds : List PyData} : Dp K H v d → DpAll K H vs ds → DpAll K H (v :: vs) (d :: ds)
end
section
variable {X : Cx} {pins : List (Addr × Obj)} {σ : St} {H : Hp} {s : Shared}
mutual
theorem Dp.reads (I : Inv X pins σ H s) : ∀ (d : PyData) (v : V) (u : Value), Dp X.K H v d → RelV v u → ∃ as, Reads s.heap u d as
  | .none, _, _, h, r => by
    cases h
    cases r
    exact ⟨_, Reads.none⟩
  | .bool b, _, _, h, r => by
    cases h
    cases r
    exact ⟨_, Reads.bool b⟩
  | .int i, _, _, h, r => by
    cases h
    obtain ⟨t, rfl⟩ := r
    exact ⟨_, Reads.int i t⟩
  | .str x, _, _, h, r => by
    cases h
    obtain ⟨t, rfl⟩ := r
    exact ⟨_, Reads.str x t⟩
  | .list ds, _, _, h, r => by
    cases h with
    | lst hs ha =>
      cases r
      obtain ⟨its, rv, ⟨o, n, ho, hc, _, hd⟩, _⟩ := I.list hs
      obtain ⟨as, hr⟩ := Dp.readsAll I ds _ its ha rv
      exact ⟨_, Reads.list ho hc hd hr⟩
  | .tuple ds, _, _, h, r => by
    cases h with
    | tup hs ha =>
      cases r
      obtain ⟨its, rv, ⟨o, ho, hc, n, hd⟩, _⟩ := I.tuple hs
      obtain ⟨as, hr⟩ := Dp.readsAll I ds _ its ha rv
      exact ⟨_, Reads.tuple ho hc hd hr⟩
  | .dict _, _, _, h, _ => by cases h
theorem Dp.readsAll (I : Inv X pins σ H s) : ∀ (ds : List PyData) (vs : List V) (us : List Value), DpAll X.K H vs ds → Vals vs us → ∃ as, ReadsAll s.heap us ds as
  | [], _, _, h, r => by
    cases h
    cases r
    exact ⟨_, ReadsAll.nil⟩
  | d :: ds, _, _, h, r => by
    cases h with
    | cons h1 h2 =>
      cases r with
      | cons r1 r2 =>
        obtain ⟨as, q1⟩ := Dp.reads I d _ _ h1 r1
        obtain ⟨bs, q2⟩ := Dp.readsAll I ds _ _ h2 r2
        exact ⟨_, ReadsAll.cons q1 q2⟩
end
end
section
variable {X : Cx}
def rNeD (K : PySem.W.Frag) : R2 := fun x y H Q => ∃ d e, Dp K H x d ∧ Dp K H y e ∧ SeqAt.shaped d = true ∧ SeqAt.shaped e = true ∧ Q (.bl (!PyData.eqv d e)) H
theorem op_neD (hu : X.A.units + 64 < cLine) : OpR X (compareOp .NotEq) (rNeD X.K) := by
  intro pins s σ H x y v u Q I rx ry h
  obtain ⟨d, e, hd, he, sd, se, q⟩ := h
  obtain ⟨as, r1⟩ := Dp.reads I d x v hd rx
  obtain ⟨bs, r2⟩ := Dp.reads I e y u he ry
  exact SeqAt.compareNe_shaped r1 r2 sd se hu ⟨.bl _, H, I, rfl, q⟩
end
end L2
namespace L2
open PySem PySem.Spec PyProof.Rows
abbrev CellAt (h : Heap) (c : Addr) (v : Option Value) : Prop := h.IsCell c v
def relS (scope sc : Scope) : Scope :=
  { scope with names := scope.names.map fun (n, k) => if (k == .free && sc.kind == .function && sc.names.lookup n == some .cell) then (n, .cell) else (n, k) }
def cloFrom (cells : List (Str × Addr)) : List (Str × NameKind) → List (Str × Addr) → List (Str × Addr)
  | [], acc => acc
  | (n, k) :: r, acc => if k == .free then cloFrom cells r ((n, (cells.lookup n).getD 0) :: acc) else cloFrom cells r acc
theorem closure_loop (env : Env) (f : Str × NameKind → List (Str × Addr) → Sem (ForInStep (List (Str × Addr))))
    (hf : ∀ n k c, f (n, k) c = if k == .free then (do let a ← cellOf env n; pure (.yield ((n, a) :: c))) else pure (.yield c)) :
    ∀ (names : List (Str × NameKind)) (acc : List (Str × Addr)), (∀ y ∈ names, y.2 = .free → ∃ c, env.cells.lookup y.1 = some c) → forIn names acc f = pure (cloFrom env.cells names acc)
  | [], acc, _ => by rw [List.forIn_nil]; rfl
  | (n, k) :: r, acc, h => by
    rw [List.forIn_cons, hf]
    have ih := fun acc => closure_loop env f hf r acc fun y hy => h y (List.mem_cons_of_mem _ hy)
    unfold cloFrom
    by_cases hk : (k == NameKind.free) = true
    · rw [if_pos hk, if_pos hk]
      obtain ⟨c, hc⟩ := h (n, k) List.mem_cons_self (by simpa using hk)
      have e : cellOf env n = pure c := by unfold cellOf; rw [hc]
      rw [e]
      have e2 : (env.cells.lookup n).getD 0 = c := by rw [hc]; rfl
      rw [e2]
      exact ih _
    · rw [if_neg hk, if_neg hk]
      exact ih _
theorem closure_ok {scope : Scope} {env : Env} (h : ∀ y ∈ scope.names, y.2 = .free → ∃ c, env.cells.lookup y.1 = some c) : closureFor scope env = pure (cloFrom env.cells scope.names []) := by
  simp only [closureFor]
  rw [closure_loop env _ (fun n k c => rfl) scope.names [] h]
  rfl
theorem mem_lookup {α : Type} : ∀ {l : List (Str × α)} {n : Str} {c : α}, (n, c) ∈ l → ∃ c', l.lookup n = some c'
  | (k, v) :: r, n, c, h => by
    rw [List.lookup_cons]
    cases hb : n == k with
    | true => exact ⟨_, rfl⟩
    | false =>
      rcases List.mem_cons.mp h with e | h
      · cases e; simp at hb
      · exact mem_lookup h
theorem cloFrom_mem {cells : List (Str × Addr)} : ∀ {names : List (Str × NameKind)} {acc : List (Str × Addr)} {n : Str} {c : Addr}, (n, c) ∈ cloFrom cells names acc → (n, c) ∈ acc ∨ ((n, .free) ∈ names ∧ c = (cells.lookup n).getD 0)
  | [], _, _, _, h => .inl h
  | (m, k) :: r, acc, n, c, h => by
    unfold cloFrom at h
    split at h
    · rename_i hk
      have hk : k = .free := by simpa using hk
      rcases cloFrom_mem h with h | ⟨h1, h2⟩
      · rcases List.mem_cons.mp h with e | h
        · cases e; exact .inr ⟨hk ▸ List.mem_cons_self, rfl⟩
        · exact .inl h
      · exact .inr ⟨List.mem_cons_of_mem _ h1, h2⟩
    · rcases cloFrom_mem h with h | ⟨h1, h2⟩
      · exact .inl h
      · exact .inr ⟨List.mem_cons_of_mem _ h1, h2⟩
theorem cloFrom_acc {cells : List (Str × Addr)} : ∀ {names : List (Str × NameKind)} {acc : List (Str × Addr)} {p : Str × Addr}, p ∈ acc → p ∈ cloFrom cells names acc
  | [], _, _, h => h
  | (m, k) :: r, acc, p, h => by
    unfold cloFrom
    split
    · exact cloFrom_acc (List.mem_cons_of_mem _ h)
    · exact cloFrom_acc h
theorem cloFrom_has {cells : List (Str × Addr)} : ∀ {names : List (Str × NameKind)} {acc : List (Str × Addr)} {n : Str}, (n, .free) ∈ names → (n, (cells.lookup n).getD 0) ∈ cloFrom cells names acc
  | (m, k) :: r, acc, n, h => by
    unfold cloFrom
    rcases List.mem_cons.mp h with e | h
    · cases e
      exact cloFrom_acc List.mem_cons_self
    · split
      · exact cloFrom_has h
      · exact cloFrom_has h
theorem cells_mem : ∀ {names : List (Str × NameKind)} {h : Heap} {acc : List (Str × Addr)} {x : Str} {c : Addr}, (x, c) ∈ cellsFrom h.objs.size names acc →
    (x, c) ∈ acc ∨ ((x, .cell) ∈ names ∧ h.objs.size ≤ c ∧ CellAt (pushCells h names) c none)
  | [], _, _, _, _, h => .inl h
  | (n, k) :: r, h, acc, x, c, hm => by
    unfold cellsFrom at hm
    unfold pushCells
    split at hm
    · rename_i hk
      rw [if_pos hk]
      have hk : k = .cell := by simpa using hk
      rw [← Heap.size_push h { cls := .type "cell", data := .cell none }] at hm
      rcases cells_mem hm with hm | ⟨h1, h2, h3⟩
      · rcases List.mem_cons.mp hm with e | hm
        · cases e
          exact .inr ⟨hk ▸ List.mem_cons_self, Nat.le_refl _, _, pushCells_keeps r _ _ _ (Heap.get?_push_size _ rfl), rfl⟩
        · exact .inl hm
      · rw [Heap.size_push] at h2
        exact .inr ⟨List.mem_cons_of_mem _ h1, Nat.le_of_succ_le h2, h3⟩
    · rename_i hk
      rw [if_neg hk]
      rcases cells_mem hm with hm | ⟨h1, h2, h3⟩
      · exact .inl hm
      · exact .inr ⟨List.mem_cons_of_mem _ h1, h2, h3⟩
theorem cells_acc : ∀ {names : List (Str × NameKind)} {n : Nat} {acc : List (Str × Addr)} {p : Str × Addr}, p ∈ acc → p ∈ cellsFrom n names acc
  | [], _, _, _, h => h
  | (m, k) :: r, n, acc, p, h => by
    unfold cellsFrom
    split
    · exact cells_acc (List.mem_cons_of_mem _ h)
    · exact cells_acc h
theorem cells_has : ∀ {names : List (Str × NameKind)} {n : Nat} {acc : List (Str × Addr)} {x : Str}, (x, .cell) ∈ names → ∃ c, (x, c) ∈ cellsFrom n names acc
  | (m, k) :: r, n, acc, x, h => by
    unfold cellsFrom
    rcases List.mem_cons.mp h with e | h
    · cases e
      exact ⟨n, cells_acc List.mem_cons_self⟩
    · split
      · exact cells_has h
      · exact cells_has h
theorem cells_inj : ∀ {names : List (Str × NameKind)} {h : Heap} {acc : List (Str × Addr)} {x y : Str} {c : Addr}, (∀ p ∈ acc, p.2 < h.objs.size) → (∀ x y c, (x, c) ∈ acc → (y, c) ∈ acc → x = y) →
    (x, c) ∈ cellsFrom h.objs.size names acc → (y, c) ∈ cellsFrom h.objs.size names acc → x = y
  | [], _, _, _, _, _, _, hi, h1, h2 => hi _ _ _ h1 h2
  | (n, k) :: r, h, acc, x, y, c, hl, hi, h1, h2 => by
    unfold cellsFrom at h1 h2
    split at h1
    · rename_i hk
      rw [if_pos hk] at h2
      rw [← Heap.size_push h { cls := .type "cell", data := .cell none }] at h1 h2
      refine cells_inj (h := h.push _) (fun p hp => ?_) (fun x y c a b => ?_) h1 h2
      · rw [Heap.size_push]
        rcases List.mem_cons.mp hp with rfl | hp
        · exact Nat.lt_succ_self _
        · exact Nat.lt_succ_of_lt (hl p hp)
      · rcases List.mem_cons.mp a with e | a <;> rcases List.mem_cons.mp b with e' | b
        · cases e; cases e'; rfl
        · cases e; exact absurd (hl _ b) (Nat.lt_irrefl _)
        · cases e'; exact absurd (hl _ a) (Nat.lt_irrefl _)
        · exact hi _ _ _ a b
    · rename_i hk
      rw [if_neg hk] at h2
      exact cells_inj hl hi h1 h2
theorem newEnv_comp {M : Model} {A : Around} {E : Value → Shared → Prop} {s : Shared} {scope : Scope} {globals : Addr} {closure : List (Str × Addr)} {qual : Str} {func : Option Addr} {code : Value} {around : Env} {builtins : Addr} {Q : Env → Shared → Prop}
    (h : Q (newEnv scope s.heap.objs.size globals (cellsFrom (s.heap.objs.size + 1) scope.names closure) qual func code (some around) builtins)
      { s with heap := pushCells (s.heap.push { cls := .type "dict", data := .dict #[] }) scope.names }) :
    wpAny M A (newFunctionEnv scope globals closure [] qual func code (some around) builtins) Q E s := by
  simp only [newFunctionEnv, Option.isSome_some, if_true]
  refine wpAny_bind (wpAny_alloc ?_)
  refine wpAny_bind (wpAny_layCells _ (fun n k c => rfl) scope.names closure _ _ ?_)
  rw [show ({ s with heap := s.heap.push { cls := .type "dict", data := .dict #[] } } : Shared).heap.objs.size = s.heap.objs.size + 1 from Heap.size_push ..]
  rw [List.forIn_nil]
  exact wpAny_bind (wpAny_pure (wpAny_pure h))
theorem lookup_relS {sc : Scope} : ∀ {names : List (Str × NameKind)} {x : Str} {k : NameKind},
    (names.map fun (n, k) => if (k == NameKind.free && sc.kind == .function && sc.names.lookup n == some .cell) then (n, NameKind.cell) else (n, k)).lookup x = some k →
    ∃ k', names.lookup x = some k' ∧ (k = k' ∨ (k' = .free ∧ k = .cell))
  | [], _, _, h => by simp at h
  | (n, k₀) :: r, x, k, h => by
    have ih := @lookup_relS sc r x k
    have h' : List.lookup x ((if (k₀ == NameKind.free && sc.kind == .function && sc.names.lookup n == some .cell) = true then (n, NameKind.cell) else (n, k₀)) :: (r.map _)) = some k := h
    cases hx : x == n with
    | true =>
      simp only [List.lookup_cons, hx]
      by_cases hc : (k₀ == NameKind.free && sc.kind == .function && sc.names.lookup n == some .cell) = true
      · rw [if_pos hc] at h'
        simp only [List.lookup_cons, hx] at h'
        cases h'
        simp only [Bool.and_eq_true, beq_iff_eq] at hc
        exact ⟨k₀, rfl, .inr ⟨hc.1.1, rfl⟩⟩
      · rw [if_neg hc] at h'
        simp only [List.lookup_cons, hx] at h'
        cases h'
        exact ⟨_, rfl, .inl rfl⟩
    | false =>
      simp only [List.lookup_cons, hx]
      by_cases hc : (k₀ == NameKind.free && sc.kind == .function && sc.names.lookup n == some .cell) = true
      · rw [if_pos hc] at h'
        simp only [List.lookup_cons, hx] at h'
        exact ih h'
      · rw [if_neg hc] at h'
        simp only [List.lookup_cons, hx] at h'
        exact ih h'
structure BlkOk (N : List Str) (sc scope : Scope) (own : List (Str × Nat)) : Prop where
  kind : scope.kind = .function
  uniq : ∀ y ∈ scope.names, scope.names.lookup y.1 = some y.2
  ix : ∀ p ∈ own, N[p.2]? = some p.1
  free : ∀ y ∈ scope.names, y.2 = .free → sc.names.lookup y.1 = some .cell ∨ sc.names.lookup y.1 = some .free
  own : ∀ y ∈ scope.names, y.2 = .local ∨ y.2 = .cell → y.1 ∈ own.map (·.1) ∨ y.1 ∉ N
def wipe (σ : St) : List Nat → St
  | [] => σ
  | v :: vs => (wipe σ vs).set v none
theorem wipe_length (σ : St) : ∀ vs : List Nat, (wipe σ vs).length = σ.length
  | [] => rfl
  | v :: vs => by unfold wipe; rw [List.length_set, wipe_length σ vs]
theorem wipe_some {σ : St} {i : Nat} {x : V} : ∀ {vs : List Nat}, (wipe σ vs)[i]? = some (some x) → σ[i]? = some (some x) ∧ i ∉ vs
  | [], h => ⟨h, by simp⟩
  | v :: vs, h => by
    unfold wipe at h
    by_cases hi : v = i
    · subst hi
      by_cases hv : v < (wipe σ vs).length
      · rw [List.getElem?_set_self hv] at h; cases h
      · rw [List.getElem?_eq_none (by simpa using hv)] at h; cases h
    · rw [List.getElem?_set_ne hi] at h
      obtain ⟨h1, h2⟩ := wipe_some h
      exact ⟨h1, by simp only [List.mem_cons, not_or]; exact ⟨fun e => hi e.symm, h2⟩⟩
abbrev Cx.blk (X : Cx) (s : Shared) (H : Hp) (scope : Scope) (cenv : Env) (fp : List Addr) : Cx := { X with s_0 := s, H_0 := H, env := cenv, outer := X.stack, ex := fp, fn := fun x => scope.names.lookup x == some .cell, pn := [], xe := fun _ _ => False }
section
variable {X : Cx} {pins : List (Addr × Obj)} {σ : St} {H : Hp} {s : Shared}
theorem block_start {scope : Scope} {own : List (Str × Nat)} {fp : List Addr} (I : Inv X pins σ H s) (ok : BlkOk X.N X.env.scope scope own) (hN : X.N.Nodup) (hfp : ∀ b ∈ fp, FpOk X pins H b ∧ b < s.heap.objs.size) :
    Inv (X.blk s H scope (compEnvC scope (cellsFrom (s.heap.objs.size + 1) scope.names (cloFrom X.env.cells scope.names [])) s.heap.objs.size X.env) fp) [] (wipe σ (own.map (·.2))) H { s with heap := pushCells (s.heap.push { cls := .type "dict", data := .dict #[] }) scope.names } := by
  have hfree : ∀ y ∈ scope.names, y.2 = .free → ∃ c, X.env.cells.lookup y.1 = some c := fun y hy e => by
    rcases ok.free y hy e with k | k
    · exact I.ok.has _ (.inl k)
    · exact I.ok.has _ (.inr k)
  generalize hcenv : compEnvC scope (cellsFrom (s.heap.objs.size + 1) scope.names (cloFrom X.env.cells scope.names [])) s.heap.objs.size X.env = cenv
  have kp : ∀ b o, s.heap.get? b = some o → (pushCells (s.heap.push { cls := .type "dict", data := .dict #[] }) scope.names).get? b = some o := fun b o e => pushCells_keeps _ _ _ _ (Heap.get?_push_of_some _ e)
  have hL : cenv.locals = s.heap.objs.size := by rw [← hcenv]; rfl
  have hcl : cenv.cells = cellsFrom (s.heap.objs.size + 1) scope.names (cloFrom X.env.cells scope.names []) := by rw [← hcenv]; rfl
  have hsc : cenv.scope = relS scope X.env.scope := by rw [← hcenv]; rfl
  rw [← Heap.size_push s.heap { cls := .type "dict", data := .dict #[] }] at hcl
  have cm : ∀ {y c}, (y, c) ∈ cloFrom X.env.cells scope.names [] → X.env.cells.lookup y = some c ∧ c < s.heap.objs.size := fun {y c} hm => by
    rcases cloFrom_mem hm with hm | ⟨h1, rfl⟩
    · cases hm
    · obtain ⟨c, hc⟩ := hfree _ h1 rfl
      rw [hc]
      obtain ⟨w, z⟩ := I.cell _ _ hc
      exact ⟨rfl, z.lt⟩
  have mem : ∀ {y c}, cenv.cells.lookup y = some c → (X.env.cells.lookup y = some c ∧ c < s.heap.objs.size) ∨ (s.heap.objs.size + 1 ≤ c ∧ CellAt (pushCells (s.heap.push { cls := .type "dict", data := .dict #[] }) scope.names) c none) := fun {y c} e => by
    rw [hcl] at e
    rcases cells_mem (PySem.mem_of_lookup e) with hm | ⟨_, h2, h3⟩
    · exact .inl (cm hm)
    · rw [Heap.size_push] at h2; exact .inr ⟨h2, h3⟩
  have look : ∀ {y}, scope.names.lookup y = some .free → ∃ c, cenv.cells.lookup y = some c ∧ X.env.cells.lookup y = some c := fun {y} hl => by
    have hy : (y, NameKind.free) ∈ scope.names := PySem.mem_of_lookup hl
    obtain ⟨c', e'⟩ := mem_lookup (cells_acc (names := scope.names) (n := (s.heap.push { cls := .type "dict", data := .dict #[] }).objs.size) (cloFrom_has (cells := X.env.cells) (acc := []) hy))
    rw [← hcl] at e'
    refine ⟨c', e', ?_⟩
    rw [hcl] at e'
    rcases cells_mem (PySem.mem_of_lookup e') with hm | ⟨h1, _, _⟩
    · exact (cm hm).1
    · have := ok.uniq _ h1
      rw [hl] at this; cases this
  have okB : (X.blk s H scope cenv fp).Ok := by
    refine ⟨I.ok.mod, by show cenv.scope.kind = _; rw [hsc]; exact ok.kind, by show cenv.globals = _; rw [← hcenv]; exact I.ok.glob, by show cenv.builtins = _; rw [← hcenv]; exact I.ok.blt, by show s.heap.objs.size ≤ cenv.locals; rw [hL]; exact Nat.le_refl _,
      fun y z c e1 e2 => ?_, fun y hy => ?_, fun y c z e => ?_, I.ok.hd, I.ok.frames, .inl rfl, fun b hb => ⟨?_, fun y c e z => ?_⟩, I.bs, Nat.le_trans I.ok.bsz I.sz, fun b o e hb => ?_, fun b hb z => ?_, I.stack, I.stkFree⟩
    · have e1 : cenv.cells.lookup y = some c := e1
      have e2 : cenv.cells.lookup z = some c := e2
      rw [hcl] at e1 e2
      refine cells_inj (fun p hp => ?_) (fun y z c a b => I.ok.inj y z c (cm a).1 (cm b).1) (PySem.mem_of_lookup e1) (PySem.mem_of_lookup e2)
      rw [Heap.size_push]
      exact Nat.lt_succ_of_lt (cm (y := p.1) (c := p.2) hp).2
    · show ∃ c, cenv.cells.lookup y = some c
      have key : ∀ k, cenv.kindOf y = some k → (k = .cell ∨ k = .free) → ∃ c, cenv.cells.lookup y = some c := fun k hk hk' => by
        unfold Env.kindOf at hk
        rw [hsc] at hk
        obtain ⟨k', e, r⟩ := lookup_relS hk
        have : k' = .cell ∨ k' = .free := by
          rcases r with rfl | ⟨rfl, _⟩
          · exact hk'
          · exact .inr rfl
        rcases this with rfl | rfl
        · obtain ⟨c, hm⟩ := cells_has (n := (s.heap.push { cls := .type "dict", data := .dict #[] }).objs.size) (acc := cloFrom X.env.cells scope.names []) (PySem.mem_of_lookup e)
          obtain ⟨c', e'⟩ := mem_lookup hm
          exact ⟨c', by rw [hcl]; exact e'⟩
        · obtain ⟨c, h1, _⟩ := look e
          exact ⟨c, h1⟩
      rcases hy with hy | hy
      · exact key _ hy (.inl rfl)
      · exact key _ hy (.inr rfl)
    · have z : (scope.names.lookup y == some NameKind.cell) = true := z
      have z : scope.names.lookup y = some .cell := by simpa using z
      have e : cenv.cells.lookup y = some c := e
      rw [hcl] at e
      rcases cells_mem (PySem.mem_of_lookup e) with hm | ⟨_, h2, _⟩
      · rcases cloFrom_mem hm with hm | ⟨h1, _⟩
        · cases hm
        · have q := ok.uniq _ h1
          rw [z] at q; cases q
      · rw [Heap.size_push] at h2
        exact Nat.le_of_succ_le h2
    · show b ≠ cenv.locals
      rw [hL]; exact Nat.ne_of_lt (hfp b hb).2
    · have e : cenv.cells.lookup y = some c := e
      rcases mem e with ⟨h1, _⟩ | ⟨h1, _⟩
      · exact (hfp b hb).1.2.2.2.2.1 y c h1 z
      · have h2 : s.heap.objs.size + 1 ≤ b := by rw [← z]; exact h1
        exact absurd (Nat.lt_of_lt_of_le (hfp b hb).2 (Nat.le_of_succ_le h2)) (Nat.lt_irrefl _)
    · rcases (hfp b hb).1.2.2.2.1 with z | z
      · exact I.ok.noex b o e z
      · exact absurd (Nat.lt_of_lt_of_le (Heap.lt_size e) (Nat.le_trans I.ok.bsz z)) (Nat.lt_irrefl _)
    · rcases List.mem_cons.mp (I.stkSub b z) with z | z
      · exact (hfp b hb).1.2.1 z
      · exact (hfp b hb).1.2.2.1 z
  refine ⟨okB, rfl, I.bare, Un.kept kp, ⟨fun _ => none, ?_, fun i y av e1 e2 e3 => ?_⟩, fun y c e => ?_, ?_, fun y c e => ?_, fun p hp => ?_, I.hok.kept kp, by rw [wipe_length]; exact I.len⟩
  · show Heap.Ns _ cenv.locals _
    rw [hL]
    exact Heap.Ns.keeps (Heap.Ns.new ..) fun b o e => pushCells_keeps _ _ _ _ e
  · obtain ⟨e2, hne⟩ := wipe_some e2
    have hfr : scope.names.lookup y = some .free ∧ (cenv.kindOf y = some .cell ∨ cenv.kindOf y = some .free) := by
      have key : ∀ k, cenv.scope.names.lookup y = some k → k = .local ∨ k = .cell ∨ k = .free → scope.names.lookup y = some .free ∧ (cenv.kindOf y = some .cell ∨ cenv.kindOf y = some .free) := fun k hk hk' => by
        have hk0 := hk
        rw [hsc] at hk
        obtain ⟨k', e, r⟩ := lookup_relS hk
        have no : ¬ (k' = .local ∨ k' = .cell) := fun hh => by
          rcases ok.own _ (PySem.mem_of_lookup e) hh with e' | e'
          · obtain ⟨p, hp, hpy⟩ := List.mem_map.mp e'
            have e3 := ok.ix p hp
            have : p.1 = y := hpy
            rw [this] at e3
            exact hne (List.mem_map.mpr ⟨p, hp, nodup_ix hN e3 e1⟩)
          · exact e' (List.mem_of_getElem? e1)
        rcases r with rfl | ⟨rfl, rfl⟩
        · rcases hk' with rfl | rfl | rfl
          · exact absurd (.inl rfl) no
          · exact absurd (.inr rfl) no
          · exact ⟨e, .inr hk0⟩
        · exact ⟨e, .inl hk0⟩
      have e3 : Vis cenv.scope y := e3
      rcases e3 with e3 | e3 | e3
      · exact key _ e3 (.inl rfl)
      · exact key _ e3 (.inr (.inl rfl))
      · exact key _ e3 (.inr (.inr rfl))
    obtain ⟨m, hn, hl⟩ := I.loc
    have hvis : Vis X.env.scope y := (ok.free _ (PySem.mem_of_lookup hfr.1) rfl).elim (fun k => .inr (.inl k)) (fun k => .inr (.inr k))
    obtain ⟨w, r, q⟩ := hl i y av e1 e2 hvis
    refine ⟨w, r, .inr ⟨hfr.2, ?_⟩⟩
    obtain ⟨c, h1, h2⟩ := look hfr.1
    rcases q with ⟨k, _⟩ | ⟨_, c', e', z⟩
    · have k : X.env.scope.names.lookup y = some .local := k
      rcases ok.free _ (PySem.mem_of_lookup hfr.1) rfl with k' | k' <;> rw [show X.env.scope.names.lookup y = _ from k'] at k <;> cases k
    · rw [h2] at e'; cases e'
      exact ⟨c, h1, z.keeps kp⟩
  · have e : cenv.cells.lookup y = some c := e
    rcases mem e with ⟨h1, _⟩ | ⟨_, z⟩
    · obtain ⟨w, z⟩ := I.cell y c h1
      exact ⟨w, z.keeps kp⟩
    · exact ⟨_, z⟩
  · show H cenv.locals = none
    rw [hL]; exact I.hok.fresh (Nat.le_refl _)
  · have e : cenv.cells.lookup y = some c := e
    rcases mem e with ⟨h1, _⟩ | ⟨h1, _⟩
    · exact I.freeC y c h1
    · exact I.hok.fresh (Nat.le_of_succ_le h1)
  · exact absurd (show p ∈ ([] : List (Addr × Obj)) ++ [] from hp) (by simp)
theorem app_ok {E : Value → Shared → Prop} {D : Addr} {xs : List V} {y : V} {v : Value} {Q : Value → Shared → Prop} (I : Inv X pins σ H s) (hD : H D = some (.lst xs)) (hz : xs.length < sizeLine) (r : RelV y v)
    (h : ∀ s', Inv X pins σ (upd H D (.lst (xs ++ [y]))) s' → Q .none s') : wpAny (model X.prog X.w) X.A (call (.builtin "list.append") [.ref D, v]) Q E s := by
  obtain ⟨hz', its, n, ri, e⟩ := I.hok D _ hD
  have hl := ri.length
  refine append_at (hsz := by rw [List.size_toArray]; omega) e fun h' sb ho' => ?_
  refine h { s with heap := h' } (I.write (t' := s.toks) (by rw [hD]; trivial) (.inl rfl) (fun b u hb q => (sb.2 b hb).trans q) ⟨_, ho'⟩ ⟨by rw [List.length_append]; exact hz, its ++ [v], n + 1, ri.append (.cons r .nil), ?_⟩)
  rw [ho']
  simp
def PTs (X : Cx) (ifs : List Expr) (t : TT) : Prop :=
  ∀ (pins : List (Addr × Obj)) (s : Shared) (σ : St) (H : Hp) (Q : Bool → Hp → Prop), Inv X pins σ H s → t σ H Q →
    wpAny (model X.prog X.w) X.A (forIn ifs true fun c r => if r = true then do let ok ← isTrue c X.env (eval c X.env); pure (ForInStep.yield ok) else pure (ForInStep.yield r)) (TP X pins σ Q) X.xe s
def tYes : TT := fun _ H Q => Q true H
theorem pts_nil : PTs X [] tYes := fun _ _ _ H _ I h => wpAny_tests_nil ⟨H, I, h⟩
theorem pts_one {c : Expr} {t : TT} (h : PT X c t) : PTs X [c] t := fun pins s σ H Q I hw => wpAny_tests_one (h pins s σ H Q I hw)
end
theorem thnF {α : Type} {t : Sem α} {Q Q' : α → Shared → Prop} {M : Model} {A : Around} {E : Value → Shared → Prop} {s : Shared} (h : wpAny M A t Q (fun _ _ => False) s) (hQ : ∀ a s, Q a s → Q' a s) : wpAny M A t Q' E s := wpAny_mono h hQ fun _ _ z => False.elim z
theorem compLoop_any {prog : Program} {w : World} {A : Around} {R : Result → Shared → Prop} {s : Shared} {elt target iter : Expr} {ifs : List Expr} {scope : Scope} {pos : Pos} {it acc : Value} {env : Env} (I : Nat → Shared → Prop)
    (turn : ∀ n s, I n s → wpAny (model prog w) A (pyNext it) (fun r s₁ => match r with
      | none => R (.ok .next) s₁
      | some v => wpAny (model prog w) A (letOwnedTupleGo target it v) (fun _ s₁' => wpAny (model prog w) A (assign target env v) (fun _ s₂ =>
          wpAny (model prog w) A (forIn ifs true fun c r => if r = true then do let ok ← isTrue c env (eval c env); pure (ForInStep.yield ok) else pure (ForInStep.yield r)) (fun ok s₃ =>
            if ok = true then wpAny (model prog w) A (eval elt env) (fun x s₄ =>
              wpAny (model prog w) A (call (.builtin "list.append") [acc, x]) (fun _ s₅ => ∃ m, m < n ∧ I m s₅) (notedBy (model prog w) A env fun e s' => R (.error e) s') s₄) (notedBy (model prog w) A env fun e s' => R (.error e) s') s₃
            else ∃ m, m < n ∧ I m s₃) (notedBy (model prog w) A env fun e s' => R (.error e) s') s₂) (notedBy (model prog w) A env fun e s' => R (.error e) s') s₁') (notedBy (model prog w) A env fun e s' => R (.error e) s') s₁) (notedBy (model prog w) A env fun e s' => R (.error e) s') s)
    (n : Nat) (h : I n s) :
    codeAny (model prog w) A (.compLoop (.ListComp elt [⟨target, iter, ifs, 0⟩] scope pos) 0 it acc env) R s := by
  refine codeAny_loop rfl I (fun n s hI => ?_) n h
  show wpAny _ A ((compTurn (.ListComp elt [⟨target, iter, ifs, 0⟩] scope pos) 0 it acc env).onRaise (fun x => do noteFrame x env; theTreesLotGoes x)) _ _ s
  refine wpAny_noted ?_
  rw [compTurn_list]
  refine wpAny_bind (wpAny_standAt (wpAny_bind (wpAny_mono (turn n s hI) (fun r s₁ h₁ => ?_) fun _ _ h' => h')))
  cases r with
  | none => exact wpAny_pure h₁
  | some v =>
    refine wpAny_bind (wpAny_mono h₁ (fun _ s₁' h₁' => ?_) fun _ _ h' => h')
    refine wpAny_bind (wpAny_mono h₁' (fun _ s₂ h₂ => wpAny_bind (wpAny_mono h₂ (fun ok s₃ h₃ => ?_) fun _ _ h' => h')) fun _ _ h' => h')
    cases ok with
    | false => exact wpAny_pure ⟨rfl, h₃⟩
    | true =>
      exact wpAny_bind (wpAny_bind (wpAny_mono h₃ (fun x s₄ h₄ => wpAny_bind (wpAny_mono h₄ (fun _ s₅ h₅ => wpAny_pure (wpAny_pure ⟨rfl, h₅⟩)) fun _ _ h' => h')) fun _ _ h' => h'))
section
variable {X : Cx}
def tLc (wi : TI) (g : TG) (tt : TT) (te : TE) (vs : List Nat) : TE := fun σ H Q => wi σ H fun J H1 => ∀ D, H1 D = none → ∃ W : Nat → Nat → Hp → Prop, (∃ m, W 0 m (upd H1 D (.lst []))) ∧ ∀ i m H, W i m H →
  (J.stop i H ∧ Q (.ref D) H) ∨ (J.go i H ∧ ∃ Nx : Hp → Prop, (∀ H', Nx H' → ∃ m', m' < m ∧ W (i + 1) m' H') ∧ ∀ x H', J.yld i H x H' → g x (wipe σ vs) H' fun σ2 H2 => wipe σ2 vs = wipe σ vs ∧ tt σ2 H2 fun b H3 =>
    if b = true then te σ2 H3 fun y H4 => ∃ acc, H4 D = some (.lst acc) ∧ acc.length < sizeLine ∧ Nx (upd H4 D (.lst (acc ++ [y]))) else Nx H3)
theorem lc_core {pins : List (Addr × Obj)} {s : Shared} {σ : St} {H : Hp} {Q : VK} {elt tg iter : Expr} {ifs : List Expr} {scope : Scope} {own : List (Str × Nat)} {pos pos' : Pos} {wi : TI} {g : TG} {tt : TT} {te : TE} {use : Option (Value → Sem Unit)} {Qf : Value → Shared → Prop}
    (hc : X.calm = true) (hN : X.N.Nodup) (I : Inv X pins σ H s) (hi : PI X tg iter wi) (ok : BlkOk X.N X.env.scope scope own)
    (hg : ∀ (s : Shared) (H : Hp) (C : Addr) (cl : List (Str × Addr)) (fp : List Addr), PG (X.blk s H scope (compEnvC scope cl C X.env) fp) tg g) (ht : ∀ (s : Shared) (H : Hp) (C : Addr) (cl : List (Str × Addr)) (fp : List Addr), PTs (X.blk s H scope (compEnvC scope cl C X.env) fp) ifs tt)
    (he : ∀ (s : Shared) (H : Hp) (C : Addr) (cl : List (Str × Addr)) (fp : List Addr), PE (X.blk s H scope (compEnvC scope cl C X.env) fp) elt te) (hs : ∀ x, foldedSetIterable iter X.env x = pure x)
    (h : tLc wi g tt te (own.map (·.2)) σ H Q)
    (hRR : ∀ D C s' m H', Inv X pins σ H' s' → Q (.ref D) H' → s'.heap.Ns C m → FpOk X pins H' C → compPost (model X.prog X.w) X.A X.xe use Qf (.ref D) C (.ok .next) s') :
    wpAny (model X.prog X.w) X.A (comprehension (.ListComp elt [⟨tg, iter, ifs, 0⟩] scope pos) scope X.env pos' (newList []) false (eval iter X.env) use) Qf X.xe s := by
  have hfree : ∀ y ∈ scope.names, y.2 = .free → ∃ c, X.env.cells.lookup y.1 = some c := fun y hy e => by
    rcases ok.free y hy e with k | k
    · exact I.ok.has _ (.inl k)
    · exact I.ok.has _ (.inr k)
  refine wpAny_comprehension_free (use := use) rfl hs (closure_ok hfree) ok.kind (fun y hy e => by rw [ok.uniq y hy, e])
    (thn (hi pins s σ H _ I h) fun xv s1 hx => thn hx fun itv s2 h2 => ?_)
  obtain ⟨it, fp, tn, J, H2, e, I2, T, st2, f2, q⟩ := h2
  subst e
  refine wpAny_newObj_type (newEnv_comp ?_) (by show 0 ≤ sizeLine; decide)
  generalize hD : s2.heap.objs.size = D
  have hDn : H2 D = none := I2.hok.fresh (Nat.le_of_eq hD)
  obtain ⟨W, ⟨m0, w0⟩, turn⟩ := q D hDn
  generalize hs3 : ({ s2 with heap := s2.heap.push { cls := .type "list", data := .seq ([] : List Value).toArray } } : Shared) = s3
  have I3 : Inv X pins σ (upd H2 D (.lst [])) s3 := by
    rw [← hs3]
    refine I2.laid (t' := s2.toks) (fun b o e => Heap.get?_push_of_some _ e) (Nat.le_of_eq hD) ⟨Nat.zero_le _, [], 0, .nil, ?_⟩
    rw [← hD]
    exact Heap.get?_push_size _ rfl
  have h3 : s3.heap = s2.heap.push { cls := .type "list", data := .seq ([] : List Value).toArray } := by rw [← hs3]
  have sz : ∀ b ∈ fp, b < s2.heap.objs.size := fun b hb => by
    obtain ⟨o, e, _⟩ := T.obj _ _ st2 b hb
    exact Heap.lt_size e
  have f3 : ∀ b ∈ fp, FpOk X pins (upd H2 D (.lst [])) b ∧ b < s3.heap.objs.size := fun b hb => by
    have hlt := sz b hb
    refine ⟨⟨?_, (f2 b hb).2⟩, by rw [h3, Heap.size_push]; exact Nat.lt_succ_of_lt hlt⟩
    rw [upd_ne (by rw [← hD]; exact Nat.ne_of_lt hlt)]
    exact (f2 b hb).1
  have st3 : tn 0 s3.heap := T.keep _ _ _ st2 fun b _ o e => by rw [h3]; exact Heap.get?_push_of_some _ e
  have I4 := block_start I3 ok hN f3
  have pg := hg s3 (upd H2 D (.lst [])) s3.heap.objs.size (cellsFrom (s3.heap.objs.size + 1) scope.names (cloFrom X.env.cells scope.names [])) fp
  have pt := ht s3 (upd H2 D (.lst [])) s3.heap.objs.size (cellsFrom (s3.heap.objs.size + 1) scope.names (cloFrom X.env.cells scope.names [])) fp
  have pe := he s3 (upd H2 D (.lst [])) s3.heap.objs.size (cellsFrom (s3.heap.objs.size + 1) scope.names (cloFrom X.env.cells scope.names [])) fp
  show codeAny _ _ (.compStart (.ListComp elt [⟨tg, iter, ifs, 0⟩] scope pos) 0 (.ref it) (.ref D) (compEnvC scope (cellsFrom (s3.heap.objs.size + 1) scope.names (cloFrom X.env.cells scope.names [])) s3.heap.objs.size X.env)) (compPost (model X.prog X.w) X.A X.xe use Qf (.ref D) s3.heap.objs.size) { s3 with heap := pushCells (s3.heap.push { cls := .type "dict", data := .dict #[] }) scope.names }
  have nfp : ∀ b ∈ fp, (upd H2 D (.lst [])) b = none := fun b hb => (f3 b hb).1.1
  generalize hce : compEnvC scope (cellsFrom (s3.heap.objs.size + 1) scope.names (cloFrom X.env.cells scope.names [])) s3.heap.objs.size X.env = ce at I4 pg pt pe ⊢
  have cL : ce.locals = s3.heap.objs.size := by subst hce; rfl
  generalize hH3 : upd H2 D (.lst []) = H3 at I3 I4 pg pt pe w0 nfp f3
  generalize hs4 : ({ s3 with heap := pushCells (s3.heap.push { cls := .type "dict", data := .dict #[] }) scope.names } : Shared) = s4 at I4 ⊢
  have st4 : tn 0 s4.heap := T.keep _ _ _ st3 fun b _ o e => by rw [← hs4]; exact pushCells_keeps _ _ _ _ (Heap.get?_push_of_some _ e)
  have stat : ∀ {σ' : St} {H' : Hp} {s' : Shared}, Inv (X.blk s3 H3 scope ce fp) [] σ' H' s' → (∀ b ∈ fp, H' b = none) → ∀ b ∈ fp, FpOk (X.blk s3 H3 scope ce fp) [] H' b := fun {σ' H' s'} I' hn b hb =>
    ⟨hn b hb, (I'.ok.exf b hb).1, I'.ok.exfs b hb, .inl hb, fun x c e => (I'.ok.exf b hb).2 x c e, fun p hp => absurd (show p ∈ ([] : List (Addr × Obj)) ++ [] from hp) (by simp)⟩
  have loop : codeAny (model X.prog X.w) X.A (.compLoop (.ListComp elt [⟨tg, iter, ifs, 0⟩] scope pos) 0 (.ref it) (.ref D) ce) (compPost (model X.prog X.w) X.A X.xe use Qf (.ref D) s3.heap.objs.size) s4 := by
    refine compLoop_any (fun n s' => ∃ i H', Inv (X.blk s3 H3 scope ce fp) [] (wipe σ (own.map (·.2))) H' s' ∧ tn i s'.heap ∧ (∀ b ∈ fp, H' b = none) ∧ W i n H') ?_ m0 ⟨0, H3, I4, st4, nfp, w0⟩
    rintro n s5 ⟨i, H5, I5, st5, n5, w5⟩
    rcases turn i n H5 w5 with ⟨stop, qq⟩ | ⟨go, Nx, hNx, step⟩
    · have td := T.done (X.blk s3 H3 scope ce fp) rfl rfl rfl hc i [] s5 _ H5 (fun _ _ => False) I5 (stat I5 n5) st5 stop
      refine thnF td fun r s6 ⟨hr, I6⟩ => ?_
      subst hr
      have I7 : Inv X pins σ H5 s6 := I3.call' (ch := fp) I6.os I6.base I6.hok I6.bare fun b hb => ⟨(f3 b hb).1.2.2.2.1, (f3 b hb).1.2.1, (f3 b hb).1.2.2.2.2.1, (f3 b hb).1.2.2.2.2.2⟩
      have nC : H5 s3.heap.objs.size = none := by
        have z : H5 ce.locals = none := I6.free
        rw [cL] at z
        exact z
      obtain ⟨m, hn, _⟩ := I6.loc
      have hn : s6.heap.Ns ce.locals m := hn
      rw [cL] at hn
      exact hRR D s3.heap.objs.size s6 m H5 I7 qq hn (I3.fpOk (Nat.le_refl _) nC)
    · have ti := T.item (X.blk s3 H3 scope ce fp) rfl rfl rfl hc i [] s5 _ H5 (fun _ _ => False) I5 (stat I5 n5) st5 go
      refine thnF ti fun r s6 ⟨u, hr, h6⟩ => ?_
      subst hr
      refine thnF h6 fun _ s7 ⟨x, H7, I7, r7, y7, st7, n7⟩ => ?_
      have I7' := I7.pinned (stat I7 n7) (T.obj _ _ st7)
      refine thnF (pg _ s7 _ H7 x u _ I7' r7 (step x H7 y7)) fun _ s8 ⟨σ8, H8, I8, hw8, q8⟩ => ?_
      refine thnF (pt _ s8 σ8 H8 _ I8 q8) fun b s9 ⟨H9, I9, q9⟩ => ?_
      have fin : ∀ {s' : Shared} {H' : Hp}, Inv (X.blk s3 H3 scope ce fp) ([] ++ pinsAt fp s7.heap) σ8 H' s' → Nx H' → ∃ m, m < n ∧ ∃ i H', Inv (X.blk s3 H3 scope ce fp) [] (wipe σ (own.map (·.2))) H' s' ∧ tn i s'.heap ∧ (∀ b ∈ fp, H' b = none) ∧ W i m H' := fun {s' H'} I' nx => by
        obtain ⟨m', hm, w'⟩ := hNx H' nx
        have pin' : ∀ b ∈ fp, ∀ o, s7.heap.get? b = some o → s'.heap.get? b = some o ∧ H' b = none := fun b hb o e =>
          let z := I'.pin (b, o) (List.mem_append_right _ (List.mem_append_right _ (mem_pinsAt hb e)))
          ⟨z.1, z.2.1⟩
        have hl : (wipe σ (own.map (·.2))).length = σ8.length := by rw [← hw8, wipe_length]
        refine ⟨m', hm, i + 1, H', (I'.unpinned (pins := [])).weak hl (fun j v e => ?_), T.keep _ _ _ st7 fun b hb o e => (pin' b hb o e).1, fun b hb => ?_, w'⟩
        · rw [← hw8] at e
          exact (wipe_some e).1
        · obtain ⟨o, e, _⟩ := T.obj _ _ st7 b hb
          exact (pin' b hb o e).2
      cases b with
      | false =>
        simp only [Bool.false_eq_true, if_false] at q9 ⊢
        exact fin I9 q9
      | true =>
        simp only [if_true] at q9 ⊢
        refine thnF (pe _ s9 σ8 H9 _ I9 q9) fun z s10 ⟨yv, H10, I10, r10, acc, hD10, hz10, nx⟩ => ?_
        exact app_ok (X := X.blk s3 H3 scope ce fp) I10 hD10 hz10 r10 fun s11 I11 => fin I11 nx
  exact codeAny_compStart_list loop (T.self X.A 0 _ _ _ st4 loop)
theorem pe_lc {elt tg iter : Expr} {ifs : List Expr} {scope : Scope} {own : List (Str × Nat)} {pos : Pos} {wi : TI} {g : TG} {tt : TT} {te : TE} (hc : X.calm = true) (hN : X.N.Nodup) (hi : PI X tg iter wi) (ok : BlkOk X.N X.env.scope scope own)
    (hg : ∀ (s : Shared) (H : Hp) (C : Addr) (cl : List (Str × Addr)) (fp : List Addr), PG (X.blk s H scope (compEnvC scope cl C X.env) fp) tg g) (ht : ∀ (s : Shared) (H : Hp) (C : Addr) (cl : List (Str × Addr)) (fp : List Addr), PTs (X.blk s H scope (compEnvC scope cl C X.env) fp) ifs tt)
    (he : ∀ (s : Shared) (H : Hp) (C : Addr) (cl : List (Str × Addr)) (fp : List Addr), PE (X.blk s H scope (compEnvC scope cl C X.env) fp) elt te) (hs : ∀ x, foldedSetIterable iter X.env x = pure x := by intro _; rfl) :
    PE X (.ListComp elt [⟨tg, iter, ifs, 0⟩] scope pos) (tLc wi g tt te (own.map (·.2))) := by
  intro pins s σ H Q I h
  rw [eval_ListComp]
  refine lc_core hc hN I hi ok hg ht he hs h fun D C s' m H' I' q hn f => ⟨m, hn, fun h'' sb => ?_⟩
  obtain ⟨f0, f1, f2, f3, f4, f5⟩ := f
  exact ⟨.ref D, H', I'.turned (t' := s'.toks) (fun b o hb e => (sb.2 b hb).trans e) f0 f1 f3 f4 f5, rfl, q⟩
theorem ps_setLc {i : Nat} {y : Str} {py : Pos} {elt tg iter : Expr} {ifs : List Expr} {scope : Scope} {own : List (Str × Nat)} {pos spos : Pos} {wi : TI} {g : TG} {tt : TT} {te : TE} (hc : X.calm = true) (hN : X.N.Nodup) (hy : X.N[i]? = some y) (hyl : X.env.scope.names.lookup y = some .local)
    (hsw : swapsWith (.ListComp elt [⟨tg, iter, ifs, 0⟩] scope pos) (some (.Name y py)) spos.line X.env = pure true) (hi : PI X tg iter wi) (ok : BlkOk X.N X.env.scope scope own)
    (hg : ∀ (s : Shared) (H : Hp) (C : Addr) (cl : List (Str × Addr)) (fp : List Addr), PG (X.blk s H scope (compEnvC scope cl C X.env) fp) tg g) (ht : ∀ (s : Shared) (H : Hp) (C : Addr) (cl : List (Str × Addr)) (fp : List Addr), PTs (X.blk s H scope (compEnvC scope cl C X.env) fp) ifs tt)
    (he : ∀ (s : Shared) (H : Hp) (C : Addr) (cl : List (Str × Addr)) (fp : List Addr), PE (X.blk s H scope (compEnvC scope cl C X.env) fp) elt te) (hs : ∀ x, foldedSetIterable iter X.env x = pure x := by intro _; rfl) :
    PS X (.Assign [.Name y py] (.ListComp elt [⟨tg, iter, ifs, 0⟩] scope pos) spos) (tAsg (tLc wi g tt te (own.map (·.2))) (gName i)) := by
  intro pins s σ H D I h
  rw [exec_Assign_Name_used _ _ _ _ hsw]
  refine wpAny_bind (wpAny_standAt (wpAny_bind ?_))
  show wpAny _ X.A (do let _ ← comprehension (.ListComp elt [⟨tg, iter, ifs, 0⟩] scope pos) scope X.env (firstIterPos [⟨tg, iter, ifs, 0⟩] pos) (newList []) false (eval iter X.env) (some (assign (.Name y py) X.env))) _ _ s
  have h : tLc wi g tt te (own.map (·.2)) σ H (fun x H1 => gName i x σ H1 D.nx) := h
  refine wpAny_bind (thn (lc_core (Qf := fun _ s' => SP X pins D .next s') hc hN I hi ok hg ht he hs h fun L C s' m H' I' q hn f => ?_) fun _ s' hq => wpAny_pure (wpAny_pure hq))
  show wpAny _ _ (assign (.Name y py) X.env (.ref L)) _ _ _
  refine wpAny_assign_Name (store_ok2 (v := V.ref L) I' hN hy (.inl hyl) rfl (fun s2 I2 ⟨a, sb, ha⟩ => ?_) (.inr hyl))
  obtain ⟨f0, f1, f2, f3, f4, f5⟩ := f
  have haC : C ≠ a := by
    rcases ha with z | z
    · rw [z]; exact f1
    · exact fun e => f4 y a z e.symm
  refine ⟨m, hn.sameBut sb haC, fun h3 sb3 => ?_⟩
  exact ⟨_, H', I2.turned (t' := s2.toks) (fun b o hb e => (sb3.2 b hb).trans e) f0 f1 f3 f4 f5, q⟩
theorem sw_true {elt : Expr} {gs : List Comprehension} {scope : Scope} {pos py : Pos} {y : Str} {l : Nat} {env : Env} (hk : env.scope.kind = .function) (hy : env.scope.names.lookup y = some .local) (hl : (py.line == pos.line) = true)
    (ha : (scope.names.any fun (n, k) => n == y && (k == .local || k == .cell)) = false) : swapsWith (.ListComp elt gs scope pos) (some (.Name y py)) l env = pure true := by
  have ky : env.kindOf y = some .local := hy
  have hb : env.blockKind = .function := by unfold Env.blockKind; rw [hk]; rfl
  unfold swapsWith
  simp only [hb, ky, ha, Expr.pos, hl]
  rfl
end
theorem lc_range {lo : Int} {n : Nat} {g : TG} {tt : TT} {te : TE} {vs : List Nat} {σ : St} {H1 : Hp} {D : Addr} {Qd : Hp → Prop} (Pv : Nat → Hp → Prop) (h0 : Pv 0 (upd H1 D (.lst [])))
    (hs : ∀ i H, i < n → Pv i H → g (.int (lo + i)) (wipe σ vs) H fun σ2 H2 => wipe σ2 vs = wipe σ vs ∧ tt σ2 H2 fun b H3 =>
      if b = true then te σ2 H3 fun y H4 => ∃ acc, H4 D = some (.lst acc) ∧ acc.length < sizeLine ∧ Pv (i + 1) (upd H4 D (.lst (acc ++ [y]))) else Pv (i + 1) H3) (hd : ∀ H, Pv n H → Qd H) :
    ∃ W : Nat → Nat → Hp → Prop, (∃ m, W 0 m (upd H1 D (.lst []))) ∧ ∀ i m H, W i m H →
      ((Itr lo n).stop i H ∧ Qd H) ∨ ((Itr lo n).go i H ∧ ∃ Nx : Hp → Prop, (∀ H', Nx H' → ∃ m', m' < m ∧ W (i + 1) m' H') ∧ ∀ x H', (Itr lo n).yld i H x H' → g x (wipe σ vs) H' fun σ2 H2 => wipe σ2 vs = wipe σ vs ∧ tt σ2 H2 fun b H3 =>
        if b = true then te σ2 H3 fun y H4 => ∃ acc, H4 D = some (.lst acc) ∧ acc.length < sizeLine ∧ Nx (upd H4 D (.lst (acc ++ [y]))) else Nx H3) := by
  refine ⟨fun i m H => m = n - i ∧ i ≤ n ∧ Pv i H, ⟨n, by simp, Nat.zero_le _, h0⟩, ?_⟩
  rintro i m H ⟨rfl, hi, p⟩
  by_cases hlt : i < n
  · refine .inr ⟨hlt, Pv (i + 1), fun H' p' => ⟨n - (i + 1), by omega, rfl, hlt, p'⟩, fun x H' y => ?_⟩
    obtain ⟨e, y⟩ := y
    subst e y
    exact hs i _ hlt p
  · have e : i = n := by omega
    subst e
    exact .inl ⟨Nat.le_refl _, hd H p⟩
theorem lc_list {K : PySem.W.Frag} {a : Addr} {xs : List V} {g : TG} {tt : TT} {te : TE} {vs : List Nat} {σ : St} {H1 : Hp} {D : Addr} {Qd : Hp → Prop} (Pv : Nat → Hp → Prop) (h0 : Pv 0 (upd H1 D (.lst []))) (hl : ∀ i H, i ≤ xs.length → Pv i H → SqL K H a xs)
    (hs : ∀ i x H, xs[i]? = some x → Pv i H → g x (wipe σ vs) H fun σ2 H2 => wipe σ2 vs = wipe σ vs ∧ tt σ2 H2 fun b H3 =>
      if b = true then te σ2 H3 fun y H4 => ∃ acc, H4 D = some (.lst acc) ∧ acc.length < sizeLine ∧ Pv (i + 1) (upd H4 D (.lst (acc ++ [y]))) else Pv (i + 1) H3) (hd : ∀ H, Pv xs.length H → Qd H) :
    ∃ W : Nat → Nat → Hp → Prop, (∃ m, W 0 m (upd H1 D (.lst []))) ∧ ∀ i m H, W i m H →
      ((Itl K a).stop i H ∧ Qd H) ∨ ((Itl K a).go i H ∧ ∃ Nx : Hp → Prop, (∀ H', Nx H' → ∃ m', m' < m ∧ W (i + 1) m' H') ∧ ∀ x H', (Itl K a).yld i H x H' → g x (wipe σ vs) H' fun σ2 H2 => wipe σ2 vs = wipe σ vs ∧ tt σ2 H2 fun b H3 =>
        if b = true then te σ2 H3 fun y H4 => ∃ acc, H4 D = some (.lst acc) ∧ acc.length < sizeLine ∧ Nx (upd H4 D (.lst (acc ++ [y]))) else Nx H3) := by
  refine ⟨fun i m H => m = xs.length - i ∧ i ≤ xs.length ∧ Pv i H, ⟨xs.length, by simp, Nat.zero_le _, h0⟩, ?_⟩
  rintro i m H ⟨rfl, hi, p⟩
  have q := hl i H hi p
  by_cases hlt : i < xs.length
  · refine .inr ⟨⟨xs, xs[i], q, by simp [hlt]⟩, Pv (i + 1), fun H' p' => ⟨xs.length - (i + 1), by omega, rfl, hlt, p'⟩, fun x H' y => ?_⟩
    obtain ⟨e, y⟩ := y
    subst e
    exact hs i x _ (y xs q) p
  · have e : i = xs.length := by omega
    subst e
    exact .inl ⟨⟨xs, q, Nat.le_refl _⟩, hd H p⟩
theorem lc_tup {K : PySem.W.Frag} {a : Addr} {xs : List V} {g : TG} {tt : TT} {te : TE} {vs : List Nat} {σ : St} {H1 : Hp} {D : Addr} {Qd : Hp → Prop} (Pv : Nat → Hp → Prop) (h0 : Pv 0 (upd H1 D (.lst []))) (hl : ∀ i H, i ≤ xs.length → Pv i H → SqT K H a xs)
    (hs : ∀ i x H, xs[i]? = some x → Pv i H → g x (wipe σ vs) H fun σ2 H2 => wipe σ2 vs = wipe σ vs ∧ tt σ2 H2 fun b H3 =>
      if b = true then te σ2 H3 fun y H4 => ∃ acc, H4 D = some (.lst acc) ∧ acc.length < sizeLine ∧ Pv (i + 1) (upd H4 D (.lst (acc ++ [y]))) else Pv (i + 1) H3) (hd : ∀ H, Pv xs.length H → Qd H) :
    ∃ W : Nat → Nat → Hp → Prop, (∃ m, W 0 m (upd H1 D (.lst []))) ∧ ∀ i m H, W i m H →
      ((Itt K a).stop i H ∧ Qd H) ∨ ((Itt K a).go i H ∧ ∃ Nx : Hp → Prop, (∀ H', Nx H' → ∃ m', m' < m ∧ W (i + 1) m' H') ∧ ∀ x H', (Itt K a).yld i H x H' → g x (wipe σ vs) H' fun σ2 H2 => wipe σ2 vs = wipe σ vs ∧ tt σ2 H2 fun b H3 =>
        if b = true then te σ2 H3 fun y H4 => ∃ acc, H4 D = some (.lst acc) ∧ acc.length < sizeLine ∧ Nx (upd H4 D (.lst (acc ++ [y]))) else Nx H3) := by
  refine ⟨fun i m H => m = xs.length - i ∧ i ≤ xs.length ∧ Pv i H, ⟨xs.length, by simp, Nat.zero_le _, h0⟩, ?_⟩
  rintro i m H ⟨rfl, hi, p⟩
  have q := hl i H hi p
  by_cases hlt : i < xs.length
  · refine .inr ⟨⟨xs, xs[i], q, by simp [hlt]⟩, Pv (i + 1), fun H' p' => ⟨xs.length - (i + 1), by omega, rfl, hlt, p'⟩, fun x H' y => ?_⟩
    obtain ⟨e, y⟩ := y
    subst e
    exact hs i x _ (y xs q) p
  · have e : i = xs.length := by omega
    subst e
    exact .inl ⟨⟨xs, q, Nat.le_refl _⟩, hd H p⟩
def blkC (N : List Str) (sc scope : Scope) (own : List (Str × Nat)) : Bool :=
  (match scope.kind with | .function => true | _ => false) && (scope.names.all fun y => decide (scope.names.lookup y.1 = some y.2)) && (own.all fun p => decide (N[p.2]? = some p.1)) &&
    (scope.names.all fun y => match y.2 with
      | .free => (match sc.names.lookup y.1 with | some .cell => true | some .free => true | _ => false)
      | .local => decide (y.1 ∈ own.map (·.1)) || decide (y.1 ∉ N)
      | .cell => decide (y.1 ∈ own.map (·.1)) || decide (y.1 ∉ N)
      | _ => true)
theorem blkOk_by {N : List Str} {sc scope : Scope} {own : List (Str × Nat)} (h : blkC N sc scope own = true) : BlkOk N sc scope own := by
  unfold blkC at h
  simp only [Bool.and_eq_true, List.all_eq_true, decide_eq_true_eq] at h
  obtain ⟨⟨⟨h1, h2⟩, h3⟩, h4⟩ := h
  refine ⟨?_, h2, h3, fun y hy e => ?_, fun y hy e => ?_⟩
  · split at h1
    · assumption
    · cases h1
  · have q := h4 y hy
    simp only [e] at q
    split at q <;> first | exact .inl (by assumption) | exact .inr (by assumption) | cases q
  · have q := h4 y hy
    rcases e with e | e <;> (simp only [e, Bool.or_eq_true, decide_eq_true_eq] at q; exact q)
end L2
namespace L2
open PySem PySem.Spec PyProof.Rows
section
variable {prog : Program} {w : World} {A : Around} {R : Result → Shared → Prop} {s : Shared} {elt t0 i0 t1 i1 : Expr} {ifs0 ifs1 : List Expr} {scope : Scope} {pos : Pos} {it acc : Value} {env : Env}
end
section
variable {X : Cx}
end
end L2
namespace L2
open PySem PySem.Spec PyProof.Rows
section
variable {κ : Type} [DecidableEq κ]
def valV (kvs : List (κ × V)) (k : κ) : Option V := (kvs.find? fun kv => decide (kv.1 = k)).map (·.2)
def putK (kvs : List (κ × V)) (k : κ) (v : V) : List (κ × V) :=
  if (kvs.any fun kv => decide (kv.1 = k)) = true then kvs.map (fun kv => if kv.1 = k then (kv.1, v) else kv) else kvs ++ [(k, v)]
def dropK (kvs : List (κ × V)) (k : κ) : List (κ × V) := kvs.filter fun kv => decide (kv.1 ≠ k)
theorem valV_nil {k : κ} : valV ([] : List (κ × V)) k = none := rfl
theorem valV_pos {p : κ × V} {r : List (κ × V)} {k : κ} (e : p.1 = k) : valV (p :: r) k = some p.2 := by simp [valV, List.find?_cons, e]
theorem valV_neg {p : κ × V} {r : List (κ × V)} {k : κ} (e : ¬ p.1 = k) : valV (p :: r) k = valV r k := by simp [valV, List.find?_cons, e]
theorem valV_any (k : κ) : ∀ kvs : List (κ × V), (kvs.any fun kv => decide (kv.1 = k)) = (valV kvs k).isSome
  | [] => rfl
  | p :: r => by
    rw [List.any_cons]
    by_cases e : p.1 = k
    · simp only [valV_pos e, decide_eq_true e, Bool.true_or, Option.isSome_some]
    · rw [valV_neg e, decide_eq_false e, Bool.false_or]; exact valV_any k r
theorem length_putK (kvs : List (κ × V)) (k : κ) (v : V) : (putK kvs k v).length ≤ kvs.length + 1 := by
  unfold putK
  split
  · rw [List.length_map]; omega
  · rw [List.length_append, List.length_cons, List.length_nil]; omega
theorem RelO.isSome_eq {o : Option V} {u : Option Value} (r : RelO o u) : o.isSome = u.isSome := by
  cases o with
  | none => cases u with
    | none => rfl
    | some _ => exact (show False from r).elim
  | some _ => cases u with
    | none => exact (show False from r).elim
    | some _ => rfl
theorem RelO.getD {o : Option V} {u : Option Value} {d : V} {d' : Value} (r : RelO o u) (rd : RelV d d') : RelV (o.getD d) (u.getD d') := by
  cases o with
  | none => cases u with
    | none => exact rd
    | some _ => exact (show False from r).elim
  | some _ => cases u with
    | none => exact (show False from r).elim
    | some _ => exact r
theorem KV.val {kvs : List (κ × V)} {vs : List (κ × Value)} (r : KV kvs vs) (k : κ) : RelO (valV kvs k) (valueAt vs k) := by
  unfold KV at r
  induction r with
  | nil => exact True.intro
  | @cons p q ps qs h t ih =>
    obtain ⟨h1, h2⟩ := h
    by_cases e : p.1 = k
    · have e' : q.1 = k := h1.symm.trans e
      have b : valueAt (q :: qs) k = some q.2 := by simp [valueAt, List.find?_cons, e']
      rw [valV_pos e, b]; exact h2
    · have e' : ¬ q.1 = k := fun z => e (h1.trans z)
      have b : valueAt (q :: qs) k = valueAt qs k := by simp [valueAt, List.find?_cons, e']
      rw [valV_neg e, b]; exact ih
theorem KV.any {kvs : List (κ × V)} {vs : List (κ × Value)} (r : KV kvs vs) (k : κ) : (kvs.any fun kv => decide (kv.1 = k)) = vs.any fun kv => decide (kv.1 = k) := by
  unfold KV at r
  induction r with
  | nil => rfl
  | cons h t ih => rw [List.any_cons, List.any_cons, ih, h.1]
theorem KV.repl {kvs : List (κ × V)} {vs : List (κ × Value)} (r : KV kvs vs) (k : κ) {y : V} {u : Value} (ry : RelV y u) :
    KV (kvs.map fun kv => if kv.1 = k then (kv.1, y) else kv) (vs.map fun kv => if kv.1 = k then (kv.1, u) else kv) := by
  unfold KV at r ⊢
  induction r with
  | nil => exact .nil
  | @cons p q ps qs h t ih =>
    rw [List.map_cons, List.map_cons]
    refine .cons ?_ ih
    obtain ⟨h1, h2⟩ := h
    by_cases e : p.1 = k
    · rw [if_pos e, if_pos (h1.symm.trans e)]; exact ⟨h1, ry⟩
    · rw [if_neg e, if_neg (fun z => e (h1.trans z))]; exact ⟨h1, h2⟩
theorem KV.put {kvs : List (κ × V)} {vs : List (κ × Value)} (r : KV kvs vs) (k : κ) {y : V} {u : Value} (ry : RelV y u) : KV (putK kvs k y) (stored vs k u) := by
  unfold putK stored
  rw [r.any k]
  by_cases e : (vs.any fun kv => decide (kv.1 = k)) = true
  · rw [if_pos e, if_pos e]; exact r.repl k ry
  · rw [if_neg e, if_neg e]; exact Paired.snoc r ⟨rfl, ry⟩
theorem KV.drop {kvs : List (κ × V)} {vs : List (κ × Value)} (r : KV kvs vs) (k : κ) : KV (dropK kvs k) (without vs k) := by
  unfold KV at r ⊢
  unfold dropK without
  induction r with
  | nil => exact .nil
  | @cons p q ps qs h t ih =>
    obtain ⟨h1, h2⟩ := h
    rw [List.filter_cons, List.filter_cons]
    by_cases e : p.1 = k
    · have a : ¬ decide (p.1 ≠ k) = true := by simp [e]
      have b : ¬ decide (q.1 ≠ k) = true := by simp [h1.symm.trans e]
      rw [if_neg a, if_neg b]; exact ih
    · have e' : ¬ q.1 = k := fun z => e (h1.trans z)
      have a : decide (p.1 ≠ k) = true := by simp [e]
      have b : decide (q.1 ≠ k) = true := by simp [e']
      rw [if_pos a, if_pos b]; exact .cons ⟨h1, h2⟩ ih
theorem KV.keys {kvs : List (κ × V)} {vs : List (κ × Value)} (r : KV kvs vs) : kvs.map (·.1) = vs.map (·.1) := by
  unfold KV at r
  induction r with
  | nil => rfl
  | cons h t ih => rw [List.map_cons, List.map_cons, ih, h.1]
theorem KV.length {kvs : List (κ × V)} {vs : List (κ × Value)} (r : KV kvs vs) : kvs.length = vs.length := Paired.length r
end
theorem kV_is {P : Program} {w : World} {k : Key} {u : Value} (r : RelV (kV k) u) : (mixKind P w).is k u = true := by
  cases k with
  | inl i => obtain ⟨t, e⟩ := (show ∃ t, u = Value.int i t from r); subst e; exact mixKind_int P w i t
  | inr x => cases x with
    | some x => obtain ⟨t, e⟩ := (show ∃ t, u = Value.str x t from r); subst e; exact mixKind_str P w x t
    | none => obtain rfl := (show u = Value.none from r); rfl
theorem items_are {P : Program} {w : World} : ∀ {ks : List Key} {us : List Value}, Vals (ks.map kV) us → ItemsAre (mixKind P w) ks us
  | [], _, r => by rw [List.map_nil] at r; cases r; exact .nil
  | k :: ks, _, r => by
    rw [List.map_cons] at r
    cases r with
    | cons h t => exact .cons (kV_is h) (items_are t)
abbrev KT (H : Hp) : List (List Key × V) → List (List Key × Addr × Value) → Prop := Paired fun p q => p.1 = q.1 ∧ H q.2.1 = some (.tup (p.1.map kV)) ∧ RelV p.2 q.2.2
theorem KT.val {H : Hp} {kvs : List (List Key × V)} {xs : List (List Key × Addr × Value)} (r : KT H kvs xs) (k : List Key) : RelO (valV kvs k) ((atKey xs k).map (·.2)) := by
  induction r with
  | nil => exact True.intro
  | @cons p q ps qs h t ih =>
    obtain ⟨h1, _, h2⟩ := h
    by_cases e : p.1 = k
    · have e' : q.1 = k := h1.symm.trans e
      have b : atKey (q :: qs) k = some q.2 := by simp [atKey, List.find?_cons, e']
      rw [valV_pos e, b]; exact h2
    · have e' : ¬ q.1 = k := fun z => e (h1.trans z)
      have b : atKey (q :: qs) k = atKey qs k := by simp [atKey, List.find?_cons, e']
      rw [valV_neg e, b]; exact ih
theorem KT.repl {H : Hp} {kvs : List (List Key × V)} {xs : List (List Key × Addr × Value)} (r : KT H kvs xs) (k : List Key) {y : V} {u : Value} (ry : RelV y u) :
    KT H (kvs.map fun kv => if kv.1 = k then (kv.1, y) else kv) (xs.map (putAt k u)) := by
  induction r with
  | nil => exact .nil
  | @cons p q ps qs h t ih =>
    rw [List.map_cons, List.map_cons]
    refine .cons ?_ ih
    obtain ⟨h1, h2, h3⟩ := h
    unfold putAt
    by_cases e : p.1 = k
    · rw [if_pos e, if_pos (h1.symm.trans e)]; exact ⟨h1, h2, ry⟩
    · rw [if_neg e, if_neg (fun z => e (h1.trans z))]; exact ⟨h1, h2, h3⟩
theorem KT.put {H : Hp} {kvs : List (List Key × V)} {xs : List (List Key × Addr × Value)} (r : KT H kvs xs) (k : List Key) {b : Addr} {y : V} {u : Value} (hb : H b = some (.tup (k.map kV))) (ry : RelV y u) :
    KT H (putK kvs k y) (storedH xs k b u) := by
  have e : (kvs.any fun kv => decide (kv.1 = k)) = (atKey xs k).isSome := by
    rw [valV_any, (r.val k).isSome_eq, Option.isSome_map]
  unfold putK storedH
  rw [e]
  by_cases q : (atKey xs k).isSome = true
  · rw [if_pos q, if_pos q]; exact r.repl k ry
  · rw [if_neg q, if_neg q]; exact Paired.snoc r ⟨rfl, hb, ry⟩
theorem KT.keeps {H H' : Hp} {kvs : List (List Key × V)} {xs : List (List Key × Addr × Value)} (r : KT H kvs xs) (ht : ∀ b ys, H b = some (.tup ys) → H' b = some (.tup ys)) : KT H' kvs xs :=
  Paired.mapP r fun _ _ z => ⟨z.1, ht _ _ z.2.1, z.2.2⟩
section
variable {P : Program} {w : World} {H : Hp} {h : Heap} {a : Addr}
theorem rd_of {u : HO} (ok : HOk P w H h) (e : Rd H a u) : ObjOk P w H h a u := e.ok ok
theorem dk_rd {kvs : List (Key × V)} (ok : HOk P w H h) (e : Rd H a (.dK kvs)) : kvs.length ≤ sizeLine ∧ (a == sysModules) = false ∧ ∃ vs, KV kvs vs ∧ h.DictOf (mixKind P w) a vs :=
  show ObjOk P w H h a (.dK kvs) from rd_of ok e
theorem dk_of {kvs : List (Key × V)} (ok : HOk P w H h) (e : H a = some (.dK kvs)) : kvs.length ≤ sizeLine ∧ (a == sysModules) = false ∧ ∃ vs, KV kvs vs ∧ h.DictOf (mixKind P w) a vs := dk_rd ok (.inl e)
theorem key_of {ks : List Key} (ok : HOk P w H h) (e : H a = some (.tup (ks.map kV))) : (tupleKind (mixKind P w)).is h ks a := by
  obtain ⟨_, its, r, o, h1, _, h2, n, h3⟩ := (show ObjOk P w H h a (.tup (ks.map kV)) from ok a _ e)
  exact ⟨o, its.toArray, n, h1, h2, h3, by simpa using items_are r⟩
theorem dt_rd {kvs : List (List Key × V)} (ok : HOk P w H h) (e : Rd H a (.dT kvs)) : kvs.length ≤ sizeLine ∧ (a == sysModules) = false ∧
    ∃ xs, KT H kvs xs ∧ h.DictOfH (tupleKind (mixKind P w)) a xs := by
  obtain ⟨z, y, xs, r, o, es, ep, h1, h2, h3, h4, h5⟩ := (show ObjOk P w H h a (.dT kvs) from rd_of ok e)
  refine ⟨z, y, xs, r, o, es, ep, h1, h2, h3, h4, fun x hx => ?_, h5⟩
  have all : ∀ {l : List (List Key × V)} {m : List (List Key × Addr × Value)}, KT H l m → ∀ x ∈ m, (tupleKind (mixKind P w)).is h x.1 x.2.1 := by
    intro l m q
    induction q with
    | nil => intro x hx; exact nomatch hx
    | @cons p q ps qs hq t ih =>
      intro x hx
      rcases List.mem_cons.mp hx with e | hx
      · subst e
        exact key_of ok (by rw [← hq.1]; exact hq.2.1)
      · exact ih x hx
  exact all r x hx
end
def DGet (H : Hp) (a : Addr) (y : V) (r : Option V) : Prop :=
  (∃ kvs k, Rd H a (.dK kvs) ∧ y = kV k ∧ r = valV kvs k) ∨ ∃ kvs k b, Rd H a (.dT kvs) ∧ y = .ref b ∧ H b = some (.tup (k.map kV)) ∧ r = valV kvs k
def DPut (H : Hp) (a : Addr) (y v : V) (H' : Hp) : Prop :=
  (∃ kvs k, H a = some (.dK kvs) ∧ y = kV k ∧ kvs.length < sizeLine ∧ H' = upd H a (.dK (putK kvs k v))) ∨
  ∃ kvs k b, H a = some (.dT kvs) ∧ y = .ref b ∧ H b = some (.tup (k.map kV)) ∧ kvs.length < sizeLine ∧ H' = upd H a (.dT (putK kvs k v))
theorem DGet.k {H : Hp} {a : Addr} {kvs : List (Key × V)} {k : Key} (e : H a = some (.dK kvs)) : DGet H a (kV k) (valV kvs k) := .inl ⟨kvs, k, .inl e, rfl, rfl⟩
theorem DGet.t {H : Hp} {a b : Addr} {kvs : List (List Key × V)} {k : List Key} (e : H a = some (.dT kvs)) (eb : H b = some (.tup (k.map kV))) : DGet H a (.ref b) (valV kvs k) := .inr ⟨kvs, k, b, .inl e, rfl, eb, rfl⟩
theorem DPut.k {H : Hp} {a : Addr} {kvs : List (Key × V)} {k : Key} {v : V} (e : H a = some (.dK kvs)) (hl : kvs.length < sizeLine) : DPut H a (kV k) v (upd H a (.dK (putK kvs k v))) := .inl ⟨kvs, k, e, rfl, hl, rfl⟩
theorem DPut.t {H : Hp} {a b : Addr} {kvs : List (List Key × V)} {k : List Key} {v : V} (e : H a = some (.dT kvs)) (eb : H b = some (.tup (k.map kV))) (hl : kvs.length < sizeLine) :
    DPut H a (.ref b) v (upd H a (.dT (putK kvs k v))) := .inr ⟨kvs, k, b, e, rfl, eb, hl, rfl⟩
section
variable {X : Cx} {pins : List (Addr × Obj)} {σ : St} {H : Hp} {s : Shared} {a : Addr} {y v : V} {u r : Value} {o : Option V} {A : Around} {E : Value → Shared → Prop}
theorem Inv.big (I : Inv X pins σ H s) : sysModules < s.heap.objs.size := by
  have h : mainGlobals < s.heap.objs.size := (I.mod.glob.keeps I.bk).lt
  exact Nat.lt_trans (by decide) h
theorem d_write {h' : Heap} {t' : Nat} {ob : HO} (I : Inv X pins σ H s) (mu : Mut (H a)) (hs : Heap.SameBut a s.heap h') (he : ∃ q, h'.get? a = some q) (new : ObjOk X.prog X.w (upd H a ob) h' a ob) :
    Inv X pins σ (upd H a ob) { s with heap := h', toks := t' } :=
  I.write (x := a) (e := a) mu (.inl rfl) (fun b q hb z => (hs.2 b hb).trans z) he new
theorem dk_new {P : Program} {w : World} {H' : Hp} {h' : Heap} {kvs : List (Key × V)} {vs : List (Key × Value)} (z : kvs.length ≤ sizeLine) (hd : (a == sysModules) = false) (rel : KV kvs vs) (dd : h'.DictOf (mixKind P w) a vs) :
    ObjOk P w H' h' a (.dK kvs) := ⟨z, hd, vs, rel, dd⟩
end
section
variable {X : Cx} {pins : List (Addr × Obj)} {σ : St} {H : Hp} {s : Shared} {a : Addr} {kvs : List (Key × V)} {k : Key} {u : Value} {A : Around} {E : Value → Shared → Prop}
end
section
variable {X : Cx} {o i e value : Expr} {pos pos' tpos : Pos} {td ty tv : TE}
end
theorem dk_empty {P : Program} {w : World} {H : Hp} (h : Heap) (hb : sysModules < h.objs.size) : ObjOk P w H (h.push { cls := .type "dict", data := .dict #[] }) h.objs.size (.dK []) :=
  ⟨Nat.zero_le _, beq_eq_false_iff_ne.mpr (Ne.symm (Nat.ne_of_lt hb)), [], .nil, Heap.DictOf.new h⟩
section
variable {X : Cx} {pos : Pos}
end
def tPairs : List (TE × TE) → St → Hp → (List (V × V) → Hp → Prop) → Prop
  | [], _, H, Q => Q [] H
  | (tk, tv) :: r, σ, H, Q => tk σ H fun x H1 => tv σ H1 fun y H2 => tPairs r σ H2 fun ps H3 => Q ((x, y) :: ps) H3
abbrev VV : List (V × V) → List (Value × Value) → Prop := Paired fun p q => RelV p.1 q.1 ∧ RelV p.2 q.2
def PPs (X : Cx) (pos : Pos) (keys : List (Option Expr)) (values : List Expr) (trs : List (TE × TE)) : Prop :=
  ∀ (pins : List (Addr × Obj)) (s : Shared) (σ : St) (H : Hp) (Q : List (V × V) → Hp → Prop), Inv X pins σ H s → tPairs trs σ H Q →
    wpAny (model X.prog X.w) X.A (evalPairs (pairTrees keys values X.env pos)) (fun vs s' => ∃ ps H', Inv X pins σ H' s' ∧ VV ps vs ∧ Q ps H') X.xe s
theorem pps_nil {X : Cx} {pos : Pos} : PPs X pos [] [] [] := fun pins s σ H Q I h => pairTrees_nil_walk ⟨[], H, I, .nil, h⟩
theorem pps_cons {X : Cx} {pos : Pos} {k v : Expr} {ks : List (Option Expr)} {vs : List Expr} {tk tv : TE} {trs : List (TE × TE)} (hk : PE X k tk) (hv : PE X v tv) (hr : PPs X pos ks vs trs) :
    PPs X pos (some k :: ks) (v :: vs) ((tk, tv) :: trs) := fun pins s σ H Q I h =>
  pairTrees_cons_walk (thn (hk pins s σ H _ I h) fun u s1 ⟨x, H1, I1, rx, q1⟩ => thn (hv pins s1 σ H1 _ I1 q1) fun w2 s2 ⟨y, H2, I2, ry, q2⟩ =>
    thn (hr pins s2 σ H2 _ I2 q2) fun ws s3 ⟨ps, H3, I3, rel, q3⟩ => ⟨(x, y) :: ps, H3, I3, .cons ⟨rx, ry⟩ rel, q3⟩)
def mergeK (kvs more : List (Key × V)) : List (Key × V) := more.foldl (fun acc kv => putK acc kv.1 kv.2) kvs
theorem KV.merge : ∀ {more : List (Key × V)} {rs : List (Key × Value)} {kvs : List (Key × V)} {vs : List (Key × Value)}, KV more rs → KV kvs vs → KV (mergeK kvs more) (merged vs rs) := by
  intro more rs kvs vs r
  unfold KV at r
  induction r generalizing kvs vs with
  | nil => intro q; exact q
  | @cons p q ps qs h t ih =>
    intro r0
    have e : KV (putK kvs p.1 p.2) (stored vs q.1 q.2) := by
      have := r0.put p.1 h.2
      rw [← h.1]; exact this
    exact ih e
theorem length_mergeK : ∀ (more kvs : List (Key × V)), (mergeK kvs more).length ≤ kvs.length + more.length
  | [], kvs => by show kvs.length ≤ kvs.length + 0; omega
  | p :: r, kvs => by
    have h1 := length_mergeK r (putK kvs p.1 p.2)
    have h2 := length_putK kvs p.1 p.2
    show (mergeK (putK kvs p.1 p.2) r).length ≤ _
    rw [List.length_cons]; omega
theorem carries_of {P : Program} {w : World} : ∀ {kvs : List (Key × V)} {ws : List (Value × Value)}, VV (kvs.map fun kv => (kV kv.1, kv.2)) ws → ∃ rs, Carries (mixKind P w) ws rs ∧ KV kvs rs
  | [], _, r => by rw [List.map_nil] at r; cases r; exact ⟨[], True.intro, .nil⟩
  | p :: kvs, _, r => by
    rw [List.map_cons] at r
    cases r with
    | @cons a b as bs h t =>
      obtain ⟨rs, c, q⟩ := carries_of (P := P) (w := w) t
      obtain ⟨b1, b2⟩ := b
      exact ⟨(p.1, b2) :: rs, ⟨kV_is h.1, rfl, c⟩, .cons ⟨rfl, h.2⟩ q⟩
def tDisp (trs : List (TE × TE)) : TE := fun σ H Q => ∀ p, H p = none → tPairs trs σ (upd H p (.dK [])) fun ps H2 => H2 p = some (.dK []) ∧ ∃ kvs : List (Key × V), ps = kvs.map (fun kv => (kV kv.1, kv.2)) ∧ kvs.length ≤ 15 ∧ Q (.ref p) (upd H2 p (.dK (mergeK [] kvs)))
theorem pe_disp {X : Cx} {pos : Pos} {keys : List (Option Expr)} {values : List Expr} {trs : List (TE × TE)} (h : PPs X pos keys values trs) (hall : keys.all (·.isSome) = true) (hl : keys.length = values.length) (h0 : keys ≠ [])
    (h15 : keys.length ≤ 15) : PE X (.Dict keys values pos) (tDisp trs) := by
  intro pins s σ H Q I q
  have hn := I.hok.fresh (Nat.le_refl s.heap.objs.size)
  have I1 := I.laid (a := s.heap.objs.size) (o := .dK []) (h' := s.heap.push { cls := .type "dict", data := .dict #[] }) (t' := s.toks) (fun _ _ q => Heap.get?_push_of_some _ q) (Nat.le_refl _) (dk_empty s.heap I.big)
  refine wpAny_Dict_walk (knd := mixKind X.prog X.w) hall hl h0 h15 (thn (h pins _ σ _ _ I1 (q _ hn)) fun ws s2 ⟨ps, H2, I2, rel, e, kvs, ep, lk, q2⟩ => ?_)
  subst ep
  obtain ⟨rs, c, rk⟩ := carries_of (P := X.prog) (w := X.w) rel
  obtain ⟨z, hd, vs0, r0, dd⟩ := dk_of I2.hok e
  cases r0
  refine ⟨rs, c, dd, fun h' dd' hs => ⟨.ref s.heap.objs.size, _, ?_, rfl, q2⟩⟩
  have hz : (mergeK [] kvs).length ≤ sizeLine := by
    have h1 := length_mergeK kvs []
    rw [List.length_nil] at h1
    rw [sizeLine_eq]; omega
  have he : ∃ q, h'.get? s.heap.objs.size = some q := let ⟨q, _, _, hq, _⟩ := dd'; ⟨q, hq⟩
  exact d_write I2 (by rw [e]; exact True.intro) hs he (dk_new hz hd (rk.merge .nil) dd')
structure M2 (X : Cx) (o : Expr) (m : Str) (apos : Pos) (e f : Expr) (cpos : Pos) : Prop where
  base : attributeBase o m X.env (eval o X.env) = eval o X.env
  few : ((backTo cpos (starEach [e, f] X.env)).all (fun x => !x.1) && (backToKw cpos (keywordEach [] X.env)).all (fun x => x.1.isSome)
    && decide (([e, f] : List Expr).length + ([] : List Keyword).length + (if ([] : List Keyword).isEmpty then 0 else 1) < 30)) = true
  line : (apos.endLine == cpos.line) = true
  trees : backTo cpos (starEach [e, f] X.env) = [(false, eval e X.env), (false, eval f X.env)]
def IsD (H : Hp) (a : Addr) : Prop := (∃ kvs, Rd H a (.dK kvs)) ∨ ∃ kvs, Rd H a (.dT kvs)
theorem isD_at {X : Cx} {pins : List (Addr × Obj)} {σ : St} {H : Hp} {s : Shared} {a : Addr} (I : Inv X pins σ H s) (d : IsD H a) :
    s.TypeIs (.ref a) "dict" ∧ (∀ b, Value.ref a = .ref b → ∃ ob, s.heap.get? b = some ob ∧ ob.dict = none) ∧ (a == sysModules) = false := by
  rcases d with ⟨kvs, e⟩ | ⟨kvs, e⟩
  · obtain ⟨_, hd, vs, _, dd⟩ := dk_rd I.hok e
    refine ⟨dd.typeIs, fun b q => ?_, hd⟩
    cases q
    obtain ⟨ob, _, _, h1, h2, _⟩ := dd
    exact ⟨ob, h1, h2.2.1⟩
  · obtain ⟨_, hd, xs, _, dd⟩ := dt_rd I.hok e
    refine ⟨dd.typeIs, fun b q => ?_, hd⟩
    cases q
    obtain ⟨ob, _, _, h1, h2, _⟩ := dd
    exact ⟨ob, h1, h2.2.1⟩
section
variable {X : Cx} {pins : List (Addr × Obj)} {σ : St} {H : Hp} {s : Shared} {a : Addr} {y d : V} {u r : Value} {o : Option V} {A : Around} {E : Value → Shared → Prop}
theorem d_get2 {Q : Value → Shared → Prop} (hu : A.units + 1 < cLine) (I : Inv X pins σ H s) (g : DGet H a y o) (ry : RelV y u) (rd : RelV d r) (h : ∀ w' s', Inv X pins σ H s' → RelV (o.getD d) w' → Q w' s') :
    wpAny (model X.prog X.w) A (call (.builtin "dict.get") [.ref a, u, r]) Q E s := by
  rcases g with ⟨kvs, k, e, ey, l⟩ | ⟨kvs, k, b, e, ey, eb, l⟩
  · subst ey
    obtain ⟨z, hd, vs, rel, dd⟩ := dk_rd I.hok e
    refine call_meetsIn PySem.F.slot_dict_get dd.typeIs PySem.F.entry_dict_get (PySem.F.args_dict_get_3 _ _ _) (meets_dict_get_default (mixKind X.prog X.w) a (kV_is ry) hd r) ⟨_, dd.mapOf, h _ _ (I.tok _) ?_⟩
    rw [l]
    exact (rel.val k).getD rd
  · subst ey
    cases (show u = Value.ref b from ry)
    obtain ⟨z, hd, xs, rel, dd⟩ := dt_rd I.hok e
    refine call_meetsIn PySem.F.slot_dict_get dd.typeIs PySem.F.entry_dict_get (PySem.F.args_dict_get_3 _ _ _) (meetsH_dict_get_default (tupleKind (mixKind X.prog X.w)) a b hd r) ⟨tupleKind_room_in1 hu, k, xs, key_of I.hok eb, dd, h _ _ (I.tok _) ?_⟩
    rw [l]
    exact (rel.val k).getD rd
end
def tDGet2 (td ty tx : TE) : TE := fun σ H Q => td σ H fun x H1 => ∃ a, x = .ref a ∧ IsD H1 a ∧ ty σ H1 fun y H2 => tx σ H2 fun z H3 => ∃ o, DGet H3 a y o ∧ Q (o.getD z) H3
section
variable {X : Cx} {o e f : Expr} {apos cpos : Pos} {td ty tx : TE}
theorem pe_dget2 (hu : X.A.units + 1 < cLine) (ho : PE X o td) (he : PE X e ty) (hf : PE X f tx) (m : M2 X o "get" apos e f cpos) : PE X (.Call (.Attribute o "get" apos) [e, f] [] cpos) (tDGet2 td ty tx) := by
  intro pins s σ H Q I h
  refine wpAny_Call_method m.base m.few m.line PySem.F.plainAttrs_dict PySem.F.slot_dict_get PySem.F.type_dict_get (thn (ho pins s σ H _ I h) fun u s1 ⟨x, H1, I1, rx, a, ex, d, q1⟩ => ?_)
  subst ex
  obtain rfl : u = Value.ref a := rx
  obtain ⟨t1, t2, _⟩ := isD_at I1 d
  refine ⟨t1, t2, ?_⟩
  rw [m.trees]
  refine Calls.callWith_builtin rfl (Calls.evalArgs_plain (Calls.spliced_cons (thn (he pins s1 σ H1 _ I1 q1) fun iv s2 ⟨y, H2, I2, ry, q2⟩ =>
    Calls.spliced_cons (thn (hf pins s2 σ H2 _ I2 q2) fun fv s3 ⟨z, H3, I3, rz, ov, g, q3⟩ => Calls.spliced_nil ?_))))
  exact d_get2 hu I3 g ry rz fun w' s4 I4 rw' => ⟨_, H3, I4, rw', q3⟩
end
section
variable {X : Cx} {pins : List (Addr × Obj)} {σ : St} {H : Hp} {s : Shared} {a : Addr} {kvs : List (Key × V)} {A : Around} {E : Value → Shared → Prop}
end
section
variable {X : Cx} {pins : List (Addr × Obj)} {σ : St} {H : Hp} {s : Shared} {a : Addr} {y : V} {u : Value} {A : Around} {E : Value → Shared → Prop}
end
end L2
namespace L2
open PySem PySem.Spec PyProof.Rows
section
variable {prog : Program} {w : World} {A : Around} {E : Value → Shared → Prop}
end
section
variable {X : Cx}
end
end L2
namespace L2
open PySem PySem.Spec PyProof.Rows
section
variable {X : Cx} {pins : List (Addr × Obj)} {σ : St} {H : Hp} {s : Shared} {h' : Heap}
end
section
variable {X : Cx}
theorem pi_one {tg : Expr} {pins : List (Addr × Obj)} {σ : St} {H : Hp} {s : Shared} {R : It → Hp → Prop} {J : It} {tn : Nat → Heap → Prop} {tk : Nat} (I : Inv X pins σ H s) (o : Obj)
    (T : Turn X.prog X.w X.K tg J [s.heap.objs.size] s.heap.objs.size tn) (st : tn 0 (s.heap.push o)) (q : R J H) : PIE X pins σ tg R (.ref s.heap.objs.size) { s with heap := s.heap.push o, toks := tk } := by
  refine ⟨s.heap.objs.size, [s.heap.objs.size], tn, J, H, rfl, I.kept fun b ob e => Heap.get?_push_of_some _ e, T, st, fun b hb => ?_, q⟩
  have e : b = s.heap.objs.size := by simpa using hb
  subst e
  exact I.fpOk (Nat.le_refl _) (I.hok.fresh (Nat.le_refl _))
end
def RgC (i j c : Int) (n : Nat) : Prop := c ≠ 0 ∧ c.natAbs < 1073741824 ∧ Builtin.Range.small i j c = true ∧ Builtin.Range.rangeSize i j c = n
theorem RgC.neg {i j : Int} (ha : -(2 ^ 62) ≤ i) (ha' : i < 2 ^ 62) (hb : -(2 ^ 62) ≤ j) (hb' : j < 2 ^ 62) : RgC i j (-1) (i - j).toNat :=
  ⟨by decide, by decide, PySem.W.small_down ha ha' hb hb', PySem.W.rangeSize_downNat i j⟩
section
variable {X : Cx} {tg : Expr}
end
section
variable {X : Cx} {tg : Expr}
end
def Its (x : Str) : It := ⟨fun i _ => i < x.cps.size, fun i H v H' => H' = H ∧ ∃ c, x.cps[i]? = some c ∧ v = .str ⟨#[c]⟩, fun i _ => x.cps.size ≤ i⟩
theorem turn_str {P : Program} {w : World} {K : PySem.W.Frag} {tg : Expr} (it : Addr) (x : Str) (t : Tok) (ty : String) (hty : ty = "str_ascii_iterator" ∨ ty = "str_iterator") :
    Turn P w K tg (Its x) [it] it (fun i h => h.IsStrIter it ty x t i) where
  mem := by simp
  obj := fun i h st b hb => by
    have e : b = it := by simpa using hb
    subst e
    obtain ⟨o, e, c, d⟩ := st
    exact ⟨o, e, fun v z => by rw [d] at z; cases z⟩
  keep := fun i h h' st k => let ⟨o, ho, r⟩ := st; ⟨o, k it (by simp) o ho, r⟩
  item := by
    intro X hP hw hK hc i pins s σ H E I hf st hg
    subst hP hw hK
    obtain ⟨f0, f1, f2, f3, f4, f5⟩ := hf it (by simp)
    have W : Walks X.prog X.w X.A it [it] [it] x.cps.size (SignAt x) (fun i h => h.IsStrIter it ty x t i) := by
      rcases hty with e | e
      · rw [e]; exact Walks.strAscii (I.ok.hd hc) it x t
      · rw [e]; exact Walks.strWide (I.ok.hd hc) it x t
    have hno : ["enumerate", "zip", "dict_itemiterator", "dict_reverseitemiterator", "odict_iterator", "itertools.zip_longest", "itertools.pairwise"].contains ty = false := by
      rcases hty with e | e
      · rw [e]; decide
      · rw [e]; decide
    refine W.item i s _ _ hg st fun v h' tk hv st' kk => ?_
    obtain ⟨c, u, hcx, rfl⟩ := hv
    have I1 : Inv X pins σ H { s with heap := h', toks := tk } := I.turned (fun b o hb e => kk b o (by simpa using hb) e) f0 f1 f3 f4 f5
    obtain ⟨oi, e, cc, dd⟩ := id st'
    exact ⟨_, rfl, go_of (s := { s with heap := h', toks := tk }) e cc dd hno ⟨.str ⟨#[c]⟩, H, I1, ⟨u, rfl⟩, ⟨rfl, c, hcx, rfl⟩, st', fun b hb => (hf b hb).1⟩⟩
  done := by
    intro X hP hw hK hc i pins s σ H E I hf st hg
    subst hP hw hK
    obtain ⟨f0, f1, f2, f3, f4, f5⟩ := hf it (by simp)
    have hx : x.cps[i]? = none := Array.getElem?_eq_none hg
    rcases hty with e | e
    · rw [e] at st
      exact wpAny_pyNext_ascii_end (I.ok.hd hc) st hx fun h' eb => ⟨rfl, I.turned (t' := s.toks) (fun b o hb e => eb b o hb e) f0 f1 f3 f4 f5⟩
    · rw [e] at st
      exact wpAny_pyNext_wide_end (I.ok.hd hc) st hx fun h' eb => ⟨rfl, I.turned (t' := s.toks) (fun b o hb e => eb b o hb e) f0 f1 f3 f4 f5⟩
  self := fun A i s Q E st h => by
    rcases hty with e | e
    · rw [e] at st; exact wpAny_pyIter_striter_ascii st h
    · rw [e] at st; exact wpAny_pyIter_striter_wide st h
def iStr (te : TE) : TI := fun σ H R => te σ H fun v H1 => ∃ x, v = .str x ∧ R (Its x) H1
theorem pi_str {X : Cx} {tg e : Expr} {te : TE} (he : PE X e te) : PI X tg e (iStr te) := by
  intro pins s σ H R I h
  refine thn (he pins s σ H _ I h) fun v s1 ⟨y, H1, I1, r1, x, ex, q⟩ => ?_
  subst ex
  obtain ⟨t, rfl⟩ := r1
  cases ha : x.cps.all (· < 128)
  · exact wpAny_pyIter_wide ha (pi_one (tk := s1.toks) I1 _ (turn_str _ x t "str_iterator" (.inr rfl)) ⟨_, Heap.get?_push_size _ rfl, rfl, rfl⟩ q)
  · exact wpAny_pyIter_ascii ha (pi_one (tk := s1.toks) I1 _ (turn_str _ x t "str_ascii_iterator" (.inl rfl)) ⟨_, Heap.get?_push_size _ rfl, rfl, rfl⟩ q)
section
variable {prog : Program} {w : World} {A : Around} {E : Value → Shared → Prop} {s : Shared}
end
section
variable {X : Cx} {pins : List (Addr × Obj)} {σ : St} {H : Hp} {s : Shared} {d : Addr} {o : Obj}
end
section
variable {P : Program} {w : World} {K : PySem.W.Frag} {tg : Expr} {d : Addr} {o : Obj} {es : Array DictEntry} {ep : Nat}
end
section
variable {X : Cx} {tg e : Expr} {td : TE} {apos cpos : Pos}
end
end L2
section
namespace Bits
open PySem PyProof.Rows
end Bits
end
section
namespace TL
open PySem PySem.Builtin PySem.Builtin.Str PySem.StrLaws
abbrev tl (x : Str) : List Nat := x.cps.toList
theorem len_tl (x : Str) : x.length = (tl x).length := by simp [tl, Str.length]
theorem ext_tl {x y : Str} (h : tl x = tl y) : x = y := Str.ext' (Array.toList_inj.mp h)
theorem tl_append (x y : Str) : tl (x ++ y) = tl x ++ tl y := by
  show (x ++ y).cps.toList = _
  rw [Str.cps_append, Array.toList_append]
theorem map_tl_inj : ∀ {l m : List Str}, l.map tl = m.map tl → l = m
  | [], [], _ => rfl
  | [], _ :: _, h => by simp at h
  | _ :: _, [], h => by simp at h
  | x :: l, y :: m, h => by
    rw [List.map_cons, List.map_cons] at h
    injection h with h1 h2
    rw [ext_tl h1, map_tl_inj h2]
def pre (S l : List Nat) : Bool := l.take S.length == S
def spl (S : List Nat) : Nat → List Nat → List Nat → List (List Nat)
  | _, acc, [] => [acc]
  | 0, acc, c :: r => if pre S (c :: r) = true then acc :: spl S (S.length - 1) [] r else spl S 0 (acc ++ [c]) r
  | k + 1, acc, _ :: r => spl S k acc r
def par (S : List Nat) : List Nat → List Nat → Option (List Nat × List Nat)
  | _, [] => none
  | acc, c :: r => if pre S (c :: r) = true then some (acc, (c :: r).drop S.length) else par S (acc ++ [c]) r
theorem spl_nil (S : List Nat) (k : Nat) (acc : List Nat) : spl S k acc [] = [acc] := by cases k <;> rfl
theorem spl_hit {S acc r : List Nat} {c : Nat} (h : pre S (c :: r) = true) : spl S 0 acc (c :: r) = acc :: spl S (S.length - 1) [] r := by
  show (if pre S (c :: r) = true then acc :: spl S (S.length - 1) [] r else spl S 0 (acc ++ [c]) r) = _
  rw [if_pos h]
theorem spl_miss {S acc r : List Nat} {c : Nat} (h : pre S (c :: r) = false) : spl S 0 acc (c :: r) = spl S 0 (acc ++ [c]) r := by
  show (if pre S (c :: r) = true then acc :: spl S (S.length - 1) [] r else spl S 0 (acc ++ [c]) r) = _
  rw [if_neg (by rw [h]; exact Bool.false_ne_true)]
theorem spl_pass (S : List Nat) : ∀ (k : Nat) (acc l : List Nat), spl S k acc l = spl S 0 acc (l.drop k)
  | 0, _, _ => by rw [List.drop_zero]
  | k + 1, acc, [] => by rw [List.drop_nil, spl_nil, spl_nil]
  | k + 1, acc, c :: r => by
    show spl S k acc r = spl S 0 acc (r.drop k)
    exact spl_pass S k acc r
theorem pre_nil {S : List Nat} (hS : S ≠ []) : pre S [] = false := by
  cases S with
  | nil => exact absurd rfl hS
  | cons s S => rfl
theorem pre_of_head {s c : Nat} (S r : List Nat) (h : c ≠ s) : pre (s :: S) (c :: r) = false := by
  cases hp : pre (s :: S) (c :: r) with
  | false => rfl
  | true =>
    have e : (c :: r).take (s :: S).length = s :: S := eq_of_beq hp
    rw [List.length_cons, List.take_succ_cons] at e
    injection e with e1 e2
    exact absurd e1 h
theorem pre_self (S r : List Nat) : pre S (S ++ r) = true := by
  show ((S ++ r).take S.length == S) = true
  have e : (S ++ r).take S.length = S := List.take_left
  rw [e] <;> exact beq_self_eq_true S
theorem getElem_drop_cons {L : List Nat} {a : Nat} (h : a < L.length) : ∃ c, L.drop a = c :: L.drop (a + 1) := ⟨L[a], List.drop_eq_getElem_cons h⟩
theorem spl_run (S L : List Nat) : ∀ (m a : Nat) (acc : List Nat), a + m ≤ L.length → (∀ k, a ≤ k → k < a + m → pre S (L.drop k) = false) →
    spl S 0 acc (L.drop a) = spl S 0 (acc ++ (L.drop a).take m) (L.drop (a + m))
  | 0, a, acc, _, _ => by rw [List.take_zero, List.append_nil, Nat.add_zero]
  | m + 1, a, acc, h, hn => by
    have hlt : a < L.length := by omega
    obtain ⟨c, e⟩ := getElem_drop_cons hlt
    have h0 := hn a (Nat.le_refl _) (by omega)
    have ih := spl_run S L m (a + 1) (acc ++ [c]) (by omega) (fun k h1 h2 => hn k (by omega) (by omega))
    have e2 : a + 1 + m = a + (m + 1) := by omega
    rw [e2] at ih
    rw [e] at h0
    rw [e, spl_miss h0, ih, List.take_succ_cons, List.append_assoc] <;> rfl
theorem drop_two (L : List Nat) (a b : Nat) : (L.drop a).drop b = L.drop (a + b) := by
  first
    | rw [List.drop_drop]
    | rw [List.drop_drop, Nat.add_comm]
theorem spl_at {S L : List Nat} (hS : S ≠ []) {c : Nat} {acc : List Nat} (h : pre S (L.drop c) = true) : spl S 0 acc (L.drop c) = acc :: spl S 0 [] (L.drop (c + S.length)) := by
  rw [← drop_two]
  cases e : L.drop c with
  | nil => rw [e, pre_nil hS] at h; cases h
  | cons d r =>
    rw [e] at h
    rw [spl_hit h, spl_pass]
    cases S with
    | nil => exact absurd rfl hS
    | cons s S => rfl
theorem at_iff {x y : Str} (hy : tl y ≠ []) (i : Nat) : At x y x.length i ↔ pre (tl y) ((tl x).drop i) = true := by
  have hx := len_tl x
  have hl := len_tl y
  constructor
  · intro h
    have h2 := h.2
    rw [subAt_eq, hl] at h2
    exact h2
  · intro h
    have e : ((tl x).drop i).take (tl y).length = tl y := eq_of_beq h
    have e1 := congrArg List.length e
    rw [List.length_take, List.length_drop] at e1
    have e2 : 0 < (tl y).length := List.length_pos_iff.mpr hy
    refine ⟨by omega, ?_⟩
    rw [subAt_eq, hl]
    exact h
theorem no_at {x y : Str} (hy : tl y ≠ []) {i : Nat} (h : ¬ At x y x.length i) : pre (tl y) ((tl x).drop i) = false := by
  cases hp : pre (tl y) ((tl x).drop i) with
  | false => rfl
  | true => exact absurd ((at_iff hy i).mpr hp) h
theorem len1 {y : Str} (hy : tl y ≠ []) : 1 ≤ y.length := by
  have e2 : 0 < (tl y).length := List.length_pos_iff.mpr hy
  rw [len_tl y]
  exact e2
theorem tl_strSub (x : Str) (i j : Nat) : tl (strSub x i j) = ((tl x).drop i).take (j - i) := strSub_toList x i j
theorem tl_strSub_end (x : Str) (i : Nat) : tl (strSub x i x.length) = (tl x).drop i := by
  rw [tl_strSub, len_tl x]
  exact List.take_of_length_le (by rw [List.length_drop] <;> omega)
theorem parts_spl {x y : Str} (hy : tl y ≠ []) : ∀ (cuts : List Nat) (a f : Nat), a ≤ (tl x).length → ChainG x y x.length a cuts f → (∀ k, f ≤ k → ¬ At x y x.length k) →
    (partsFrom x y.length a cuts).map tl = spl (tl y) 0 [] ((tl x).drop a)
  | [], a, f, ha, h, hn => by
    have e : f = a := h
    subst e
    show [tl (strSub x f x.length)] = _
    have run := spl_run (tl y) (tl x) ((tl x).length - f) f [] (by omega) (fun k h1 _ => no_at hy (hn k h1))
    have e2 : f + ((tl x).length - f) = (tl x).length := by omega
    rw [e2, List.drop_length, spl_nil, List.nil_append, List.take_of_length_le (by rw [List.length_drop] <;> omega)] at run
    rw [run, tl_strSub_end]
  | c :: r, a, f, ha, h, hn => by
    obtain ⟨h1, h2, h3, h4⟩ := h
    have hc : c + y.length ≤ x.length := h2.1
    have hx := len_tl x
    have hl := len_tl y
    have ih := parts_spl hy r (c + y.length) f (by omega) h4 hn
    show tl (strSub x a c) :: (partsFrom x y.length (c + y.length) r).map tl = _
    have run := spl_run (tl y) (tl x) (c - a) a [] (by omega) (fun k k1 k2 => no_at hy (h3 k k1 (by omega)))
    have e2 : a + (c - a) = c := by omega
    rw [e2, List.nil_append, spl_at hy ((at_iff hy c).mp h2)] at run
    rw [run, ih, tl_strSub, hl]
theorem split_spl (x y : Str) (hy : tl y ≠ []) (hk : ¬ Builtin.Str.strKind x < Builtin.Str.strKind y) : (Txt.split x y).map tl = spl (tl y) 0 [] (tl x) := by
  obtain ⟨f, g, hn⟩ := occ_tight x y (len1 hy)
  have key := parts_spl hy _ 0 f (Nat.zero_le _) g hn
  rw [List.drop_zero] at key
  have none_case : occurrences x y 0 x.length (x.length + 1) = [] → [x].map tl = spl (tl y) 0 [] (tl x) := fun ho => by
    rw [ho] at key
    rw [← key]
    show [tl x] = [tl (strSub x 0 x.length)]
    rw [sub_whole]
  unfold Txt.split
  by_cases h1 : (decide (x.length < y.length) || decide (Builtin.Str.strKind x < Builtin.Str.strKind y)) = true
  · rw [if_pos h1]
    have hlt : x.length < y.length := by
      simp only [Bool.or_eq_true, decide_eq_true_eq] at h1
      rcases h1 with h | h
      · exact h
      · exact absurd h hk
    refine none_case ?_
    cases ho : occurrences x y 0 x.length (x.length + 1) with
    | nil => rfl
    | cons c r =>
      rw [ho] at g
      have hc : c + y.length ≤ x.length := g.2.1.1
      omega
  · rw [if_neg h1]
    by_cases h2 : (occurrences x y 0 x.length (x.length + 1)).isEmpty = true
    · rw [if_pos h2]
      exact none_case (List.isEmpty_iff.mp h2)
    · rw [if_neg h2, partsBetween_eq]
      exact key
theorem kind_ok {x y : Str} (h : y.cps.all (· < 256) = true) : ¬ Builtin.Str.strKind x < Builtin.Str.strKind y := by
  have e : Builtin.Str.strKind y = 1 := by unfold PySem.Builtin.Str.strKind; rw [if_pos h]
  rw [e]
  unfold PySem.Builtin.Str.strKind
  split
  · omega
  · split <;> omega
theorem spl_part {S p rest acc : List Nat} (hS : S ≠ []) (h : ∀ i, i < p.length → pre S ((p ++ (S ++ rest)).drop i) = false) :
    spl S 0 acc (p ++ (S ++ rest)) = (acc ++ p) :: spl S 0 [] rest := by
  have run := spl_run S (p ++ (S ++ rest)) p.length 0 acc (by rw [List.length_append]; omega) (fun k _ k2 => h k (by omega))
  have ed : (p ++ (S ++ rest)).drop p.length = S ++ rest := List.drop_left
  rw [List.drop_zero, Nat.zero_add, List.take_left] at run
  rw [run, spl_at hS (by rw [ed]; exact pre_self S rest), ← drop_two, ed, List.drop_left]
theorem spl_last {S p acc : List Nat} (h : ∀ i, i < p.length → pre S (p.drop i) = false) : spl S 0 acc p = [acc ++ p] := by
  have run := spl_run S p p.length 0 acc (by omega) (fun k _ k2 => h k (by omega))
  rw [List.drop_zero, Nat.zero_add, List.drop_length, spl_nil, List.take_length] at run
  exact run
theorem free_of {s : Nat} {S p q : List Nat} (h : s ∉ p) : ∀ i, i < p.length → pre (s :: S) ((p ++ q).drop i) = false := fun i hi => by
  have hlt : i < (p ++ q).length := by rw [List.length_append]; omega
  have e : (p ++ q).drop i = (p ++ q)[i] :: (p ++ q).drop (i + 1) := List.drop_eq_getElem_cons hlt
  rw [e]
  refine pre_of_head _ _ fun z => h ?_
  have e1 : (p ++ q)[i] = p[i] := List.getElem_append_left hi
  rw [← z, e1]
  exact List.getElem_mem hi
theorem spl_part1 {s : Nat} {S p rest acc : List Nat} (h : s ∉ p) : spl (s :: S) 0 acc (p ++ (s :: S ++ rest)) = (acc ++ p) :: spl (s :: S) 0 [] rest :=
  spl_part (by simp) (free_of h)
theorem spl_last1 {s : Nat} {S p acc : List Nat} (h : s ∉ p) : spl (s :: S) 0 acc p = [acc ++ p] := spl_last fun i hi => by
  have z := free_of (S := S) (q := []) h i hi
  rw [List.append_nil] at z
  exact z
def joinL (S : List Nat) : List (List Nat) → List Nat
  | [] => []
  | [p] => p
  | p :: q :: r => p ++ (S ++ joinL S (q :: r))
theorem tl_join (y : Str) : ∀ parts : List Str, tl (Str.join y parts) = joinL (tl y) (parts.map tl)
  | [] => rfl
  | [_] => rfl
  | x :: z :: r => by
    show tl (x ++ y ++ Str.join y (z :: r)) = tl x ++ (tl y ++ joinL (tl y) ((z :: r).map tl))
    rw [tl_append, tl_append, tl_join y (z :: r), List.append_assoc]
theorem spl_join {s : Nat} {S : List Nat} : ∀ {parts : List (List Nat)}, parts ≠ [] → (∀ p ∈ parts, s ∉ p) → spl (s :: S) 0 [] (joinL (s :: S) parts) = parts
  | [], h, _ => absurd rfl h
  | [p], _, hp => by
    show spl (s :: S) 0 [] p = [p]
    rw [spl_last1 (hp p (List.mem_singleton.mpr rfl)), List.nil_append]
  | p :: q :: r, _, hp => by
    show spl (s :: S) 0 [] (p ++ (s :: S ++ joinL (s :: S) (q :: r))) = p :: q :: r
    rw [spl_part1 (hp p (List.mem_cons_self ..)), List.nil_append, spl_join (by simp) fun z hz => hp z (List.mem_cons_of_mem _ hz)]
theorem join_eq (y : Str) (parts : List Str) : Txt.join y parts = Str.join y parts := glued_eq_join y parts
theorem split_join {y : Str} {s : Nat} {S : List Nat} (ey : tl y = s :: S) (hk : y.cps.all (· < 256) = true) {parts : List Str} (hne : parts ≠ []) (hp : ∀ p ∈ parts, s ∉ tl p) :
    Txt.split (Txt.join y parts) y = parts := by
  refine map_tl_inj ?_
  rw [split_spl _ y (by rw [ey]; simp) (kind_ok hk), join_eq, tl_join, ey]
  refine spl_join (fun e => hne (List.map_eq_nil_iff.mp e)) fun p h => ?_
  obtain ⟨z, hz, rfl⟩ := List.mem_map.mp h
  exact hp z hz
end TL
end
namespace L2
open PySem PySem.Spec PyProof.Rows
theorem vals_strs : ∀ l : List (Str × Tok), Vals ((l.map (·.1)).map V.str) (strValues l)
  | [] => .nil
  | p :: r => .cons ⟨p.2, rfl⟩ (vals_strs r)
theorem strs_of_vals : ∀ {ys : List Str} {us : List Value}, Vals (ys.map V.str) us → StrsAre us ys
  | [], _, .nil => .nil
  | y :: ys, _, .cons r t => by
    obtain ⟨k, rfl⟩ := r
    exact .cons y k (strs_of_vals t)
def rNewStrs (ys : List Str) : Hp → VK → Prop := fun H Q => ∀ p, H p = none → Q (.ref p) (upd H p (.lst (ys.map V.str)))
section
variable {X : Cx} {pins : List (Addr × Obj)} {σ : St} {H : Hp} {s : Shared} {Q : VK}
theorem laid_strs {l : List (Str × Tok)} {ys : List Str} {k : Nat} (I : Inv X pins σ H s) (e : l.map (·.1) = ys) (hz : ys.length ≤ sizeLine) (h : rNewStrs ys H Q) :
    EP X pins σ Q (.ref s.heap.objs.size) { s with toks := k, heap := s.heap.push { cls := .type "list", data := .seq (strValues l).toArray } } := by
  have hp := I.hok.fresh (Nat.le_refl _)
  refine ⟨.ref s.heap.objs.size, upd H s.heap.objs.size (.lst (ys.map V.str)), I.laid (fun b u q => Heap.get?_push_of_some _ q) (Nat.le_refl _) ⟨by rw [List.length_map]; exact hz, strValues l, _, ?_, Heap.get?_push_size _ rfl⟩, rfl, h _ hp⟩
  rw [← e]
  exact vals_strs l
end
section
variable {X : Cx}
theorem mt_split : MtR X "str.split" (fun x xs H Q => ∃ a b, x = .str a ∧ xs = [.str b] ∧ (b.length == 0) = false ∧ a.length + 2 ≤ sizeLine ∧ rNewStrs (Txt.split a b) H Q) := by
  intro pins s σ H x xs v us Q I rx rs h
  obtain ⟨a, b, rfl, rfl, hb, hz, h⟩ := h
  obtain ⟨t, rfl⟩ := rx
  cases rs with
  | cons r1 rs =>
    cases rs
    obtain ⟨u, rfl⟩ := r1
    have hl : (Txt.split a b).length ≤ sizeLine := Nat.le_trans (PyProof.Rows.split_le a b) hz
    have hn : (Builtin.Str.partsBetween a (Builtin.Str.occurrences a b 0 a.length (a.length + 1)) b.length).length ≤ sizeLine := by
      have e1 := StrLaws.occ_length_le a b 0 a.length (a.length + 1)
      rw [length_partsBetween]; omega
    cases h1 : (decide (a.length < b.length) || decide (Builtin.Str.strKind a < Builtin.Str.strKind b))
    · cases hf : (Builtin.Str.occurrences a b 0 a.length (a.length + 1)).isEmpty
      · refine call_meets F.slot_str_split (typeIs_str _ _ _) F.entry_str_split (F.args_str_split_2 _ _) (meets_str_split_sep a b t u h1 hb hf (by omega) hn) ?_
        show EP X pins σ Q (.ref s.heap.objs.size) { s with toks := _, heap := s.heap.push { cls := .type "list", data := .seq (strsFrom s.toks (Builtin.Str.partsBetween a (Builtin.Str.occurrences a b 0 a.length (a.length + 1)) b.length)).toArray } }
        rw [strsFrom_eq]
        exact laid_strs (ys := Txt.split a b) I ((numbered_texts _ _).trans ((if_neg (ne_true_of_eq_false h1)).trans (if_neg (ne_true_of_eq_false hf))).symm) hl h
      · refine call_meets F.slot_str_split (typeIs_str _ _ _) F.entry_str_split (F.args_str_split_2 _ _) (meets_str_split_not_found a b t u h1 hb hf) ?_
        exact laid_strs (l := [(a, t)]) (ys := Txt.split a b) (k := s.toks) I ((if_neg (ne_true_of_eq_false h1)).trans (if_pos hf)).symm hl h
    · refine call_meets F.slot_str_split (typeIs_str _ _ _) F.entry_str_split (F.args_str_split_2 _ _) (meets_str_split_cannot_occur a b t u h1) ?_
      exact laid_strs (l := [(a, t)]) (ys := Txt.split a b) (k := s.toks) I (if_pos h1).symm hl h
theorem mt_join : MtR X "str.join" (fun x xs H Q => ∃ a p, ∃ ys : List Str, x = .str a ∧ xs = [.ref p] ∧ (SqL X.K H p (ys.map V.str) ∨ SqT X.K H p (ys.map V.str)) ∧
    (ys.map (·.length)).sum + ys.length * a.length ≤ 16777216 ∧ Q (.str (Txt.join a ys)) H) := by
  intro pins s σ H x xs v us Q I rx rs h
  obtain ⟨a, p, ys, rfl, rfl, hp, hz, h⟩ := h
  obtain ⟨t, rfl⟩ := rx
  cases rs with
  | cons r1 rs =>
    cases rs
    cases r1
    rcases hp with hp | hp
    · obtain ⟨its, r, ⟨o, n, ho, hc, _, hd⟩, _⟩ := I.list hp
      exact PyProof.Rows.join_list (items := its.toArray) ⟨o, ho, hc, n, hd⟩ (by rw [List.toList_toArray]; exact strs_of_vals r) hz fun t' k => ⟨.str _, H, I.tok k, ⟨t', rfl⟩, h⟩
    · obtain ⟨its, r, ht, _⟩ := I.tuple hp
      exact PyProof.Rows.join_tuple (items := its.toArray) ht (by rw [List.toList_toArray]; exact strs_of_vals r) hz fun t' k => ⟨.str _, H, I.tok k, ⟨t', rfl⟩, h⟩
theorem call_int_str : CallR X (.type "int") (fun xs H Q => ∃ a n, xs = [.str a] ∧ PySem.intText? a = some n ∧ a.length ≤ 640 ∧ Q (.int n) H) := by
  intro pins s σ H xs us Q I rs h
  obtain ⟨a, n, rfl, hn, hl, h⟩ := h
  cases rs with
  | cons r1 rs =>
    cases rs
    obtain ⟨t, rfl⟩ := r1
    exact PySem.W.KIN.call_text hn hl ⟨.int n, H, I.tok _, ⟨_, rfl⟩, h⟩
end
section
variable {X : Cx} {o e : Expr} {to te : TE}
def tM1 (r : V → List V → Hp → VK → Prop) (to te : TE) : TE := fun σ H Q => to σ H fun x H1 => (∃ a, x = .str a) ∧ te σ H1 fun y H2 => r x [y] H2 Q
theorem pe_m1 {id : String} {name : Str} {apos pos : Pos} {r : V → List V → Hp → VK → Prop} (slot : Slot "str" name id) (ty : typeOf (.builtin id) = pure (.type "method_descriptor")) (rule : MtR X id r) (ho : PE X o to) (he : PE X e te)
    (hs : starEach [e] X.env = [(false, eval e X.env)] := by rfl) (hbase : attributeBase o name X.env (eval o X.env) = eval o X.env := by rfl) (hline : (apos.endLine == pos.line) = true := by rfl) :
    PE X (.Call (.Attribute o name apos) [e] [] pos) (tM1 r to te) := by
  intro pins s σ H Q I h
  refine PySem.Call_method1 hbase hs hline (thn (ho pins s σ H _ I h) fun v s1 ⟨x, H1, I1, r1, q1⟩ => ?_)
  obtain ⟨⟨a, rfl⟩, q1⟩ := q1
  obtain ⟨t, rfl⟩ := _root_.id r1
  refine ⟨"str", _, F.plainAttrs_str, slot, ty, typeIs_str _ _ _, (fun _ e => nomatch e), Calls.callWith_builtin rfl (Calls.evalArgs_plain (Calls.spliced_cons ?_))⟩
  exact thn (he pins s1 σ H1 _ I1 q1) fun u s2 ⟨y, H2, I2, r2, q2⟩ => Calls.spliced_nil (rule pins s2 σ H2 _ [y] _ [u] Q I2 r1 (.cons r2 .nil) q2)
theorem pe_split {apos pos : Pos} (ho : PE X o to) (he : PE X e te) (hs : starEach [e] X.env = [(false, eval e X.env)] := by rfl) (hbase : attributeBase o "split" X.env (eval o X.env) = eval o X.env := by rfl) (hline : (apos.endLine == pos.line) = true := by rfl) :
    PE X (.Call (.Attribute o "split" apos) [e] [] pos) (tM1 (fun x xs H Q => ∃ a b, x = .str a ∧ xs = [.str b] ∧ (b.length == 0) = false ∧ a.length + 2 ≤ sizeLine ∧ rNewStrs (Txt.split a b) H Q) to te) :=
  pe_m1 F.slot_str_split F.type_str_split mt_split ho he hs hbase hline
theorem pe_join {apos pos : Pos} (ho : PE X o to) (he : PE X e te) (hs : starEach [e] X.env = [(false, eval e X.env)] := by rfl) (hbase : attributeBase o "join" X.env (eval o X.env) = eval o X.env := by rfl) (hline : (apos.endLine == pos.line) = true := by rfl) :
    PE X (.Call (.Attribute o "join" apos) [e] [] pos) (tM1 (fun x xs H Q => ∃ a p, ∃ ys : List Str, x = .str a ∧ xs = [.ref p] ∧ (SqL X.K H p (ys.map V.str) ∨ SqT X.K H p (ys.map V.str)) ∧
      (ys.map (·.length)).sum + ys.length * a.length ≤ 16777216 ∧ Q (.str (Txt.join a ys)) H) to te) :=
  pe_m1 F.slot_str_join F.type_str_join mt_join ho he hs hbase hline
end
end L2
namespace L2
open PySem PySem.Spec PyProof.Rows
section
variable {X : Cx}
theorem op_in_sign : OpR X (compareOp .In) (fun x y H Q => ∃ (c : Nat) (z : Str), x = .str ⟨#[c]⟩ ∧ y = .str z ∧ Q (.bl (decide (c ∈ z.cps.toList))) H) := by
  intro pins s σ H x y v u Q I rx ry h
  obtain ⟨c, z, rfl, rfl, q⟩ := h
  obtain ⟨t, rfl⟩ := rx
  obtain ⟨t', rfl⟩ := ry
  exact PyProof.Rows.in_str (fin_bl I q (PySem.StrLaws.found_one z c).symm)
theorem op_notIn_sign : OpR X (compareOp .NotIn) (fun x y H Q => ∃ (c : Nat) (z : Str), x = .str ⟨#[c]⟩ ∧ y = .str z ∧ Q (.bl (!decide (c ∈ z.cps.toList))) H) := by
  intro pins s σ H x y v u Q I rx ry h
  obtain ⟨c, z, rfl, rfl, q⟩ := h
  obtain ⟨t, rfl⟩ := rx
  obtain ⟨t', rfl⟩ := ry
  exact PyProof.Rows.notIn_str (fin_bl I q (congrArg Bool.not (PySem.StrLaws.found_one z c).symm))
end
theorem IsPart.raw {v : Value} {o : Option Int} (p : IsPart v o) : ∃ l : Option (Int × Tok), v = partValue l ∧ l.map (·.1) = o := by
  cases p with
  | none => exact ⟨none, rfl, rfl⟩
  | int i t => exact ⟨some (i, t), rfl, rfl⟩
def clipS (n d : Nat) : Option Int → Int
  | none => (d : Int)
  | some i => max 0 (min (if i < 0 then i + (n : Int) else i) (n : Int))
theorem clipS_eq (n d : Nat) (o : Option Int) : clipS n d o = ((HT.sIx n d o : Nat) : Int) := by
  cases o with
  | none => rfl
  | some v =>
    show max (0 : Int) (min (if v < 0 then v + (n : Int) else v) (n : Int)) = (((if v < 0 then (v + (n : Int)).toNat else min v.toNat n) : Nat) : Int)
    by_cases hv : v < 0
    · simp only [if_pos hv]
      omega
    · simp only [if_neg hv]
      omega
theorem sidx_clip (a b : Option Int) (n : Nat) : Builtin.Str.strSliceIndices a b 1 n = sliceRange (clipS n 0 a) (clipS n n b) 1 := by
  have h1 : ((1 : Int) > 0) = True := by simp
  cases a <;> cases b <;> first
    | rfl
    | (simp only [Builtin.Str.strSliceIndices, clipS, h1, if_true]; rfl)
    | simp [Builtin.Str.strSliceIndices, clipS]
theorem sidx (a b : Option Int) (n : Nat) : Builtin.Str.strSliceIndices a b 1 n = (List.range (HT.sIx n n b - HT.sIx n 0 a)).map (fun k => HT.sIx n 0 a + k) := by
  rw [sidx_clip, clipS_eq, clipS_eq]
  generalize HT.sIx n 0 a = p
  generalize HT.sIx n n b = q
  simp only [sliceRange, show ((1 : Int) > 0) = True from by simp, if_true]
  by_cases hlt : (p : Int) < q
  · have e3 : (((q : Int) - p + 1 - 1) / 1).toNat = q - p := by first | omega | (simp; done) | (simp; omega)
    simp only [hlt, if_true, e3]
    refine List.map_congr_left fun k _ => ?_
    omega
  · have : q - p = 0 := by omega
    simp [hlt, this]
def cutS (z : Str) (lo hi : Option Int) : Str :=
  ⟨((z.cps.toList.drop (HT.sIx z.length 0 lo)).take (HT.sIx z.length z.length hi - HT.sIx z.length 0 lo)).toArray⟩
theorem sliceText_cut (z : Str) (lo hi : Option Int) : PySem.StrLaws.sliceText z lo hi = cutS z lo hi := by
  have h1 : HT.sIx z.length 0 lo ≤ z.length := HT.sIx_le _ _ (Nat.zero_le _) _
  have h2 : HT.sIx z.length z.length hi ≤ z.length := HT.sIx_le _ _ (Nat.le_refl _) _
  have hp : HT.sIx z.length 0 lo ≤ max (HT.sIx z.length 0 lo) (HT.sIx z.length z.length hi) := Nat.le_max_left _ _
  have hq : max (HT.sIx z.length 0 lo) (HT.sIx z.length z.length hi) ≤ z.length := Nat.max_le.mpr ⟨h1, h2⟩
  have hd : max (HT.sIx z.length 0 lo) (HT.sIx z.length z.length hi) - HT.sIx z.length 0 lo = HT.sIx z.length z.length hi - HT.sIx z.length 0 lo := by omega
  have e : Builtin.Str.strSliceIndices lo hi 1 z.length =
      Builtin.Str.strSliceIndices (some ((HT.sIx z.length 0 lo : Nat) : Int)) (some ((max (HT.sIx z.length 0 lo) (HT.sIx z.length z.length hi) : Nat) : Int)) 1 z.length := by
    rw [PySem.StrLaws.strSliceIndices_plain hp hq, hd, sidx]
  have e2 : PySem.StrLaws.sliceText z lo hi =
      PySem.StrLaws.sliceText z (some ((HT.sIx z.length 0 lo : Nat) : Int)) (some ((max (HT.sIx z.length 0 lo) (HT.sIx z.length z.length hi) : Nat) : Int)) := by
    unfold PySem.StrLaws.sliceText
    rw [e]
  rw [e2, PySem.StrLaws.sliceText_nat z hp hq, hd]
  rfl
theorem cutS_length (z : Str) (lo hi : Option Int) : (cutS z lo hi).length ≤ z.length := by
  show (((z.cps.toList.drop (HT.sIx z.length 0 lo)).take (HT.sIx z.length z.length hi - HT.sIx z.length 0 lo)).toArray).size ≤ z.cps.size
  rw [List.size_toArray, List.length_take, List.length_drop, Array.length_toList]
  omega
def rSlS : V → Option Int → Option Int → Hp → VK → Prop := fun x lo hi H Q => ∃ z, x = .str z ∧ z.length ≤ sizeLine ∧ Q (.str (cutS z lo hi)) H
theorem sl_str {X : Cx} : SlR X rSlS := by
  intro pins s σ H x v vl vu lo hi sl Q I rx hs pl pu h
  obtain ⟨z, rfl, hz, q⟩ := h
  obtain ⟨t, rfl⟩ := rx
  obtain ⟨os, hos, hcs, hds⟩ := hs
  obtain ⟨l, rfl, rfl⟩ := IsPart.raw pl
  obtain ⟨u, rfl, rfl⟩ := IsPart.raw pu
  refine ⟨"str", _, F.slot_str_getitem.lookup, typeIs_str _ _ _, ?_⟩
  refine wpAny_getItem_str_slice (l := l) (u := u) (st := none) ⟨os, hos, hcs, hds⟩ rfl ?_
  have hl : (PySem.StrLaws.sliceText z (l.map (·.1)) (u.map (·.1))).length ≤ sizeLine := by
    rw [sliceText_cut]
    exact Nat.le_trans (cutS_length z _ _) hz
  rw [← sliceText_cut] at q
  unfold PySem.StrLaws.sliceText at q hl
  show Made.post (if ((1 : Int) == 1 && (Builtin.Str.strSliceIndices (l.map (·.1)) (u.map (·.1)) 1 z.length).length == z.length) = true then Made.val (.str z t)
    else Made.str ⟨((Builtin.Str.strSliceIndices (l.map (·.1)) (u.map (·.1)) 1 z.length).filterMap (z.cps[·]?)).toArray⟩) (EP X pins σ Q) s
  by_cases c : ((1 : Int) == 1 && (Builtin.Str.strSliceIndices (l.map (·.1)) (u.map (·.1)) 1 z.length).length == z.length) = true
  · rw [if_pos c] at q ⊢
    exact ⟨.str z, H, I, ⟨t, rfl⟩, q⟩
  · rw [if_neg c] at q hl ⊢
    exact ⟨hl, .str _, H, I.tok _, ⟨_, rfl⟩, q⟩
end L2
namespace Att
open PySem PySem.W PySem.Calls PyProof.Rows
theorem ints_of_wellAll {P : Params} {h : Heap} : ∀ (ns : List Int) (vs : List Value), WellAll P h vs (ns.map WData.int) → IntsAre vs ns := by
  intro ns
  induction ns with
  | nil =>
    intro vs w
    rw [List.map_nil] at w
    cases w
    exact .nil
  | cons n ns ih =>
    intro vs w
    rw [List.map_cons] at w
    cases w with
    | cons a b =>
      cases a
      exact .cons _ _ (ih _ b)
theorem script_of {l : OpenLaw} {n : Nat} (hn : l.most = some n) {P : Params} {h : Heap} {args : List WData} {vals : List Value}
    (hpre : l.row.toRowW.claim.pre args = true) (hwl : WellAll P h vals args) :
    ∃ a vs ns, vals = [Value.ref a] ∧ args = [WData.list (ns.map WData.int)] ∧ h.get? a = some { cls := .type "list", data := .seq vs.toArray } ∧ IntsAre vs ns ∧ ns.length ≤ n := by
  have hsh : WShape.hasAll [] args [.list .int] = true := (pre_splitW hpre).1
  have hc : l.pre.holds [] { args := args } = true := (pre_splitW hpre).2
  obtain ⟨d, r, rfl, h1, h2⟩ := hasAllW_cons hsh
  obtain rfl := hasAllW_nil h2
  obtain ⟨xs, rfl, h3⟩ := hasW_list h1
  obtain ⟨ns, rfl⟩ := items_int h3
  have hlen : ns.length ≤ n := by
    unfold OpenLaw.pre at hc
    have h4 : (WTm.not (.lt (.lit (.int (n : Int))) (.len (.arg 0)))).holds [] { args := [.list (ns.map .int)] } = true := by
      have h4 := (holds_andW hc).1
      rw [hn] at h4
      exact h4
    have h5 := condW_of h4 (w_not (w_lt w_lit (w_len_list (w_arg rfl))))
    rw [List.length_map] at h5
    refine Nat.le_of_not_lt fun q => ?_
    have q' : (n : Int) < ((ns.length : Nat) : Int) := by omega
    first
      | (rw [decide_eq_true q'] at h5; exact absurd h5 (by decide))
      | (simp at h5; omega)
  cases hwl with
  | cons w1 w2 =>
    cases w2
    cases w1 with
    | list ho hall => exact ⟨_, _, ns, rfl, rfl, ho, ints_of_wellAll ns _ hall, hlen⟩
theorem post_true (l : OpenLaw) (args : List WData) : l.row.toRowW.claim.post args (.bool true) args = true :=
  postW_of (r := l.row.toRowW) (X := (true == true))
    (show WShape.has [] (.bool true) .bool = true by first | rfl | decide | simp [WShape.has, WShape.arms, WShape.armsAll])
    (show (WTm.eq .res (.lit (.bool true))).value [] { args := args, res := some (.bool true), after := args } = some (.bool (true == true)) from w_eq_bool (w_res rfl) w_lit) rfl
theorem attach_call {l : OpenLaw} {n : Nat} {q : Program} {loose : List Str} {XP : (Str → Option Value) → Heap → Prop} {YP : World → Heap → Prop} {d : DefRec}
    (hn : l.most = some n) (hdf : d.params.defaults = [])
    (call : ∀ (w : World) (s₀ s₁ : Shared) (mg mb : Str → Option Value) (fa : Addr) (o : Obj) (pm cd doc : Value) (a : Addr) (vs : List Value) (ns : List Int),
      Ground q loose [] XP w s₀ mg mb s₁.heap → YP w s₁.heap →
      s₁.heap.get? fa = some o → o.data = .func (docDef d.name d.params d.body d.scope pm cd doc) → s₁.heap.CodeRec cd d.name → mg d.name = some (.ref fa) →
      s₁.heap.get? a = some { cls := .type "list", data := .seq vs.toArray } → IntsAre vs ns → ns.length ≤ n → s₁.gens = #[] →
      codeAny (model l.prog w) callerA (.call (.ref fa) ⟨[.ref a], []⟩) (fun r s' => r = .ok (.ret (.bool true)) ∧ OldK s₁.heap s'.heap ∧ s'.os = s₁.os ∧ AllBare s'.gens) s₁) :
    WalkO q loose XP YP l.row.toRowW d [] (fun f vs => PySem.call f vs) := by
  intro w s₀ s₁ mg mb G Y fa o pm cd doc dV kV ho hd hcd hD hmg hg args vals as hpre hlay hrd hwl hlo
  obtain rfl : dV = .none := Dflts.none hD hdf
  obtain rfl : kV = .none := Dflts.noKw hD
  obtain ⟨a, vs, ns, rfl, rfl, hobj, hints, hlen⟩ := script_of hn hpre hwl
  refine enter_call (codeAny_mono (call w s₀ s₁ mg mb fa o pm cd doc a vs ns G Y ho (fd_plain hd) hcd hmg hobj hints hlen hg) fun r s' hq => ?_)
  obtain ⟨rfl, h2, h3, h4⟩ := hq
  exact ⟨.inl ⟨.bool true, .bool true, [], rfl, fun _ => rfl, .bool true, post_true l _, fun _ => ⟨List.Pairwise.nil, fun _ hm => (nomatch hm)⟩⟩, h2, h3, h4⟩
section
variable {prog : Program} {w : World} {A : Around} {E : Value → Shared → Prop} {s : Shared} {K : Frag}
end
end Att
namespace L2
open PySem PySem.Spec PyProof.Rows
theorem vals_ints : ∀ {vs : List Value} {ns : List Int}, IntsAre vs ns → Vals (ns.map V.int) vs
  | _, _, .nil => .nil
  | _, _, .cons n t h => .cons ⟨t, rfl⟩ (vals_ints h)
def Only (H : Hp) : Prop := ∀ b, H b = none ∨ ∃ o xs, H b = some (.frz o (.lst xs))
theorem law_call {P : Program} {w : World} {K : PySem.W.Frag} {mg mb : Str → Option Value} {CX : CXT} {k : Nat} {fa a : Addr} {fd : FuncData} {x : Str} {sp : Sp} {s₁ : Shared} {vs : List Value} {ns : List Int}
    (KX : K.In s₁.heap) (hns : s₁.heap.Ns mainGlobals mg) (hb : s₁.heap.Ns builtinsNs mb) (hbb : ∀ x : Str, x ≠ "__name__" → mb x = bootBuiltins x) (hlim : s₁.heap.NoLimit) (hg : s₁.gens = #[])
    (ha : s₁.heap.get? a = some { cls := .type "list", data := .seq vs.toArray }) (hi : IntsAre vs ns) (hl : ns.length ≤ sizeLine) (hr : Room k callerA)
    (F : ∀ base : Heap, K.In base → base.Ns mainGlobals mg → FnOk P w K mg base CX k fa fd [x] sp) (hbind : ∀ (s : Shared) (u : Value), BindsTo s fd ⟨[u], []⟩ [(x, u)])
    (hsp : ∀ H : Hp, Only H → SqL K H a (ns.map V.int) → sp [.ref a] H (fun v _ => v = .bl true) fun _ _ _ => False)
    (hCX : ∀ H e s', CX [] H s₁ (fun _ _ _ => False) e s' → False) :
    codeAny (model P w) callerA (.call (.ref fa) ⟨[.ref a], []⟩) (fun r s' => r = .ok (.ret (.bool true)) ∧ OldK s₁.heap s'.heap ∧ s'.os = s₁.os ∧ AllBare s'.gens) s₁ := by
  have rv := vals_ints hi
  have lenV := hi.length
  have core : ∀ H : Hp, Only H → SqL K H a (ns.map V.int) → HOk P w H s₁.heap → (∀ b, H b ≠ none → b = a) → (H a ≠ none → K.lookup a = none) →
      codeAny (model P w) callerA (.call (.ref fa) ⟨[.ref a], []⟩) (fun r s' => r = .ok (.ret (.bool true)) ∧ OldK s₁.heap s'.heap ∧ s'.os = s₁.os ∧ AllBare s'.gens) s₁ := by
    intro H hO hS hok hA hK
    have base_of : ∀ {b : Addr} {o : Obj}, s₁.heap.get? b = some o → H b = none → (hidT s₁.heap H).get? b = some o := fun e n => hidT_get e n
    have noA : ∀ {b : Addr} {o : Obj} {es : Array DictEntry} {ep : Nat}, s₁.heap.get? b = some o → o.data = .dict es ep → H b = none := fun {b o es ep} e d => by
      cases q : H b with
      | none => rfl
      | some u =>
        have e' : b = a := hA b (by rw [q]; simp)
        subst e'
        rw [ha] at e; cases e
        have d' : Data.seq vs.toArray _ = Data.dict es ep := d
        cases d'
    have nsK : ∀ {b : Addr} {m : Str → Option Value}, s₁.heap.Ns b m → (hidT s₁.heap H).Ns b m := fun {b m} ⟨o, es, ep, e, d, r⟩ => ⟨o, es, ep, base_of e (noA e d), d, r⟩
    have hKb : K.In (hidT s₁.heap H) := fun b o e => base_of (KX b o e) (by
      cases q : H b with
      | none => rfl
      | some u =>
        have e' : b = a := hA b (by rw [q]; simp)
        subst e'
        rw [hK (by rw [q]; simp)] at e; cases e)
    have hM : Mod K mg (hidT s₁.heap H) := ⟨hKb, nsK hns, ⟨mb, nsK hb, hbb⟩, let ⟨mc, h1, h2⟩ := hlim; ⟨mc, nsK h1, h2⟩⟩
    have e0 : Env0 P w K mg (hidT s₁.heap H) callerA [] s₁ H := ⟨rfl, hM, fun b o e => of_hidT e, Nat.le_of_eq (hidT_size _ _), trivial, fun b hb => absurd (show b ∈ ([] : List Addr) from hb) (by simp), hok, .of_eq hg⟩
    refine codeAny_mono ((F _ hKb (nsK hns)).run callerA [] s₁ H ⟨[.ref a], []⟩ [.ref a] [.ref a] _ _ hr e0 (hbind s₁ (.ref a)) (.cons rfl .nil) (hsp H hO hS)) fun r s' h => ?_
    cases r with
    | error e => exact (hCX H e s' h).elim
    | ok fl =>
      cases fl with
      | next => exact False.elim h
      | brk => exact False.elim h
      | cont => exact False.elim h
      | ret u =>
        obtain ⟨v, H', os, bare, un, hok', r', q⟩ := h
        have q' : v = .bl true := q
        subst q'
        obtain rfl : u = Value.bool true := r'
        refine ⟨rfl, OldK.of_keep fun b o e => ?_, os, bare⟩
        cases q : H b with
        | none => exact un.keep b o e q (by intro z; exact absurd (show b ∈ ([] : List Addr) from z) (by simp)) (by simp)
        | some u =>
          rcases hO b with z | ⟨ob, xs, z⟩
          · rw [q] at z; cases z
          · have z2 := un.frzs b ob _ z
            obtain ⟨e1, _⟩ := hok b _ z
            obtain ⟨e2, _⟩ := hok' b _ z2
            rw [e] at e1; cases e1
            exact e2
  cases hk : K.lookup a with
  | some o =>
    have e := KX a o hk
    rw [ha] at e
    cases e
    refine core (fun _ => none) (fun _ => .inl rfl) (.inr ⟨_, vs.toArray, _, hk, rfl, rfl, rfl, by rw [List.size_toArray, lenV]; exact hl, by simpa using rv⟩) (fun b u z => by have z' : (none : Option HO) = some u := z; cases z') (fun b z => absurd rfl z) fun z => absurd rfl z
  | none =>
    refine core (fun b => if b = a then some (.frz { cls := .type "list", data := .seq vs.toArray } (.lst (ns.map V.int))) else none) (fun b => ?_) (.inl (.inr ⟨{ cls := .type "list", data := .seq vs.toArray }, if_pos rfl⟩)) (fun b u z => ?_) (fun b z => ?_) fun _ => hk
    · by_cases hb : b = a
      · exact .inr ⟨_, _, if_pos hb⟩
      · exact .inl (if_neg hb)
    · by_cases hb : b = a
      · have z' := (if_pos hb).symm.trans z
        cases z'
        subst hb
        exact ⟨ha, by rw [List.length_map]; exact hl, vs, _, rv, ha⟩
      · have z' := (if_neg hb).symm.trans z
        cases z'
    · by_cases hb : b = a
      · exact hb
      · exact absurd (if_neg hb) z
end L2
namespace L2
open PySem PySem.Spec PyProof.Rows
theorem walk_of {l : PySem.W.OpenLaw} {n k : Nat} {q : Program} {loose : List Str} {XP : (Str → Option Value) → Heap → Prop} {YP : World → Heap → Prop} {d : DefRec} {K : Params → PySem.W.Frag} {CX : World → CXT} {sp : World → Sp} {x : Str}
    (hn : l.most = some n) (hn2 : n ≤ sizeLine) (hdf : d.params.defaults = []) (hr : Room k callerA)
    (hY : ∀ (w : World) (h : Heap), YP w h → (K w.params).In h)
    (F : ∀ (w : World) (mg : Str → Option Value) (fa : Addr) (h : Heap), (K w.params).In h → h.Ns mainGlobals mg → mg d.name = some (.ref fa) →
      ∃ fd : FuncData, (∀ (s : Shared) (u : Value), BindsTo s fd ⟨[u], []⟩ [(x, u)]) ∧
        ∀ base : Heap, (K w.params).In base → base.Ns mainGlobals mg → FnOk l.prog w (K w.params) mg base (CX w) k fa fd [x] (sp w))
    (hsp : ∀ (w : World) (H : Hp) (a : Addr) (ns : List Int), ns.length ≤ n → Only H → SqL (K w.params) H a (ns.map V.int) → sp w [.ref a] H (fun v _ => v = .bl true) fun _ _ _ => False)
    (hCX : ∀ (w : World) (H : Hp) (s : Shared) (e : Value) (s' : Shared), CX w [] H s (fun _ _ _ => False) e s' → False) :
    PySem.W.WalkO q loose XP YP l.row.toRowW d [] (fun f vs => PySem.call f vs) := by
  refine Att.attach_call hn hdf fun w s₀ s₁ mg mb fa o pm cd doc a vs ns G Y ho hd hcd hmg hobj hints hlen hg => ?_
  have KX := hY w _ Y
  obtain ⟨fd, hb, hF⟩ := F w mg fa _ KX G.T.g hmg
  exact law_call KX G.T.g G.T.b G.T.builtins G.T.nolimit hg hobj hints (Nat.le_trans hlen hn2) hr hF hb (fun H hO hS => hsp w H a ns hlen hO hS) fun H e s' => hCX w H s₁ e s'
end L2
namespace L2
open PySem PySem.Spec PyProof.Rows
def defArgs (s : Stmt) : Arguments := match s with
  | .FunctionDef _ a _ _ _ _ _ _ _ _ => a
  | _ => { posonlyargs := [], args := [], vararg := none, kwonlyargs := [], kw_defaults := [], kwarg := none, defaults := [] }
def defBody (s : Stmt) : List Stmt := match s with
  | .FunctionDef _ _ b _ _ _ _ _ _ _ => b
  | _ => []
def defScope (s : Stmt) : Scope := match s with
  | .FunctionDef _ _ _ _ _ _ sc _ _ _ => sc
  | _ => { kind := .function, names := [], isGenerator := false, isCoroutine := false }
abbrev CX0 : CXT := fun _ _ _ _ _ _ => False
abbrev E0 : XK := fun _ _ _ => False
theorem pass0 {X : Cx} : Passes CX0 X E0 := fun _ _ _ _ _ _ _ h => h.elim
structure Fun (K : PySem.W.Frag) (x qual : Str) (st : Stmt) (f : Addr) (fd : FuncData) : Prop where
  ex : ∃ (oc : Value) (od : Option Addr) (kV doc pm : Value) (an : Option Addr) (cdv ct : Value) (osl : Array (Option Value)),
    fd = PySem.W.fnOf x qual (defArgs st) (defBody st) (defScope st) .none kV doc pm an cdv ct ∧ K.lookup f = some ⟨oc, od, .func fd, osl⟩ ∧ PySem.W.codeIn K cdv qual = true
  kp : PySem.W.keepIn K (.ref f) = true
section
variable {P : Program} {w : World} {K : PySem.W.Frag} {mg : Str → Option Value} {base : Heap}
theorem Fun.ok {x qual : Str} {st : Stmt} {f : Addr} {fd : FuncData} {N ps : List Str} {k : Nat} {sp : Sp} (F : Fun K x qual st f fd) (S : FnScope N ps (defScope st)) (len : ∀ vs H Q E, sp vs H Q E → vs.length = ps.length)
    (hbody : ∀ (cdv : Value) (A : Around) (outer : List Env) (s : Shared) (H : Hp) (vs : List V) (Q : VK) (E : XK), Room k (A.deeper (envOfC qual (defScope st) s.heap.objs.size f cdv)) → sp vs H Q E →
      ∃ t, PSs (cxOf CX0 P w K mg base N qual (defScope st) f cdv A outer s H E).nox (defBody st) t ∧ t { nx := fun _ H' => Q .non H', rt := Q } (start N vs) H) : FnOk P w K mg base CX0 (k + 1) f fd ps sp := by
  obtain ⟨oc, od, kV, doc, pm, an, cdv, ct, osl, rfl, lk, hcd⟩ := F.ex
  refine fn_of lk hcd S len fun A outer s H vs Q E hr hsp => ?_
  obtain ⟨t, h, q⟩ := hbody cdv A outer s H vs Q E hr hsp
  exact ⟨t, h.nox, q⟩
theorem Fun.binds {x qual : Str} {st : Stmt} {f : Addr} {fd : FuncData} {ps : List Str} (F : Fun K x qual st f fd)
    (h : ∀ (kV doc pm : Value) (an : Option Addr) (cdv ct : Value) (us : List Value), us.length = ps.length → bindArgs (PySem.W.fnOf x qual (defArgs st) (defBody st) (defScope st) .none kV doc pm an cdv ct) ⟨us, []⟩ = pure (ps.zip us)) : Binds K fd ps [] := by
  obtain ⟨oc, od, kV, doc, pm, an, cdv, ct, osl, rfl, lk, hcd⟩ := F.ex
  exact .all (h kV doc pm an cdv ct)
theorem fun_mk {x qual : Str} {st : Stmt} {f : Addr} {oc : Value} {od an : Option Addr} {osl : Array (Option Value)} {kV doc pm cdv ct : Value} (l : K.lookup f = some ⟨oc, od, .func (PySem.W.fnOf x qual (defArgs st) (defBody st) (defScope st) .none kV doc pm an cdv ct), osl⟩)
    (c : PySem.W.codeIn K cdv qual = true) (k : PySem.W.keepIn K (.ref f) = true) : Fun K x qual st f (PySem.W.fnOf x qual (defArgs st) (defBody st) (defScope st) .none kV doc pm an cdv ct) := ⟨⟨oc, od, kV, doc, pm, an, cdv, ct, osl, rfl, l, c⟩, k⟩
end
theorem hu_of {A : Around} {k : Nat} (hr : Room k A) : A.units + 1 < cLine := Nat.lt_of_le_of_lt (Nat.add_le_add_left (by decide : 1 ≤ 64) _) hr.units
theorem small1000 {n : Nat} (h : n ≤ 1000) : n < sizeLine := Nat.lt_of_le_of_lt h (by decide)
section
variable {X : Cx}
theorem pv (i : Nat) {x : Str} {pos : Pos} (hN : X.N[i]? = some x := by rfl) (hv : Vis X.env.scope x := by first | exact Or.inl rfl | exact Or.inr (Or.inl rfl) | exact Or.inr (Or.inr rfl)) (hd : (x == ("__debug__" : Str)) = false := by decide)
    (hcd : (x == ("__classdict__" : Str)) = false := by decide) : PE X (.Name x pos) (tVar i) := pe_var hN hv hd hcd
end
theorem ite2 {c A B : Prop} [Decidable c] (h1 : c → A) (h2 : ¬ c → B) : if c then A else B := by
  by_cases h : c
  · rw [if_pos h]
    exact h1 h
  · rw [if_neg h]
    exact h2 h
def Same (H H' : Hp) : Prop := ∀ b o, H b = some o → H' b = some o
theorem Same.refl (H : Hp) : Same H H := fun _ _ h => h
theorem Same.trans {H H1 H2 : Hp} (a : Same H H1) (b : Same H1 H2) : Same H H2 := fun c o h => b c o (a c o h)
theorem Same.free {H H' : Hp} (e : Same H H') {l : Addr} (h : H' l = Option.none) : H l = Option.none := by
  cases q : H l with
  | none => rfl
  | some o =>
    rw [e l o q] at h
    cases h
theorem Same.seq {K : PySem.W.Frag} {H H' : Hp} {a : Addr} {xs : List V} (e : Same H H') (h : SqL K H a xs) : SqL K H' a xs := by
  rcases h with (h | ⟨o, h⟩) | h
  · exact .inl (.inl (e _ _ h))
  · exact .inl (.inr ⟨o, e _ _ h⟩)
  · exact .inr h
section
variable {κ : Type} [DecidableEq κ]
end
end L2
set_option Elab.async false
set_option linter.all false
set_option maxRecDepth 100000
namespace L2
open PySem PySem.Spec PyProof.Rows
inductive Kd where
  | int | bool | non | str | tup | lst
  deriving DecidableEq
def Kd.nm : Kd → String
  | .int => "int" | .bool => "bool" | .non => "NoneType" | .str => "str" | .tup => "tuple" | .lst => "list"
def isiT : Kd → Kd → Bool
  | .int, .int => true | .bool, .int => true | .bool, .bool => true | .str, .str => true | .tup, .tup => true | .lst, .lst => true | .non, .non => true
  | _, _ => false
def KindV (K : PySem.W.Frag) (H : Hp) : V → Kd → Prop
  | .int _, k => k = .int
  | .bl _, k => k = .bool
  | .non, k => k = .non
  | .str _, k => k = .str
  | .ref p, k => (k = .tup ∧ ∃ xs, SqT K H p xs) ∨ (k = .lst ∧ ∃ xs, SqL K H p xs)
  | _, _ => False
def rIsi (K : PySem.W.Frag) (T : Kd) : List V → Hp → VK → Prop := fun vs H Q => ∃ x k, vs = [x, .ty T.nm] ∧ KindV K H x k ∧ Q (.bl (isiT k T)) H
section
variable {X : Cx}
theorem isi_tup {pins : List (Addr × Obj)} {σ : St} {H : Hp} {s : Shared} {p : Addr} {xs : List V} (I : Inv X pins σ H s) (h : SqT X.K H p xs) : ∃ o, s.heap.get? p = some o ∧ o.cls = .type "tuple" := by
  obtain ⟨_, _, ⟨o, ho, hc, _⟩, _⟩ := I.tuple h
  exact ⟨o, ho, hc⟩
theorem isi_lst {pins : List (Addr × Obj)} {σ : St} {H : Hp} {s : Shared} {p : Addr} {xs : List V} (I : Inv X pins σ H s) (h : SqL X.K H p xs) : ∃ o, s.heap.get? p = some o ∧ o.cls = .type "list" := by
  obtain ⟨_, _, ⟨o, n, ho, hc, _⟩, _⟩ := I.list h
  exact ⟨o, ho, hc⟩
theorem call_isi_int : CallR X (.builtin "isinstance") (rIsi X.K .int) := by
  intro pins s σ H xs us Q I r h
  obtain ⟨x, k, rfl, hk, q⟩ := h
  obtain ⟨u, v, rfl, ru, rv⟩ := r.two
  cases rv
  have fin : ∀ t', EP X pins σ Q (.bool (isiT k .int)) { s with toks := t' } := fun t' => ⟨.bl _, H, I.tok t', rfl, q⟩
  cases x with
  | int i => obtain ⟨t, rfl⟩ := ru; cases (show k = .int from hk); exact IsiPair.int_int (fin _)
  | bl b => cases ru; cases (show k = .bool from hk); exact IsiPair.bool_int (fin _)
  | non => cases ru; cases (show k = .non from hk); exact IsiPair.NoneType_int (fin _)
  | str z => obtain ⟨t, rfl⟩ := ru; cases (show k = .str from hk); exact IsiPair.str_int (fin _)
  | ref p =>
    cases ru
    rcases hk with ⟨rfl, ys, hs⟩ | ⟨rfl, ys, hs⟩
    · obtain ⟨o, ho, hc⟩ := isi_tup I hs; exact IsiPair.tuple_int ho hc (fin _)
    · obtain ⟨o, ho, hc⟩ := isi_lst I hs; exact IsiPair.list_int ho hc (fin _)
  | _ => exact False.elim hk
theorem call_isi_bool : CallR X (.builtin "isinstance") (rIsi X.K .bool) := by
  intro pins s σ H xs us Q I r h
  obtain ⟨x, k, rfl, hk, q⟩ := h
  obtain ⟨u, v, rfl, ru, rv⟩ := r.two
  cases rv
  have fin : ∀ t', EP X pins σ Q (.bool (isiT k .bool)) { s with toks := t' } := fun t' => ⟨.bl _, H, I.tok t', rfl, q⟩
  cases x with
  | int i => obtain ⟨t, rfl⟩ := ru; cases (show k = .int from hk); exact IsiPair.int_bool (fin _)
  | bl b => cases ru; cases (show k = .bool from hk); exact IsiPair.bool_bool (fin _)
  | non => cases ru; cases (show k = .non from hk); exact IsiPair.NoneType_bool (fin _)
  | str z => obtain ⟨t, rfl⟩ := ru; cases (show k = .str from hk); exact IsiPair.str_bool (fin _)
  | ref p =>
    cases ru
    rcases hk with ⟨rfl, ys, hs⟩ | ⟨rfl, ys, hs⟩
    · obtain ⟨o, ho, hc⟩ := isi_tup I hs; exact IsiPair.tuple_bool ho hc (fin _)
    · obtain ⟨o, ho, hc⟩ := isi_lst I hs; exact IsiPair.list_bool ho hc (fin _)
  | _ => exact False.elim hk
theorem call_isi_tup : CallR X (.builtin "isinstance") (rIsi X.K .tup) := by
  intro pins s σ H xs us Q I r h
  obtain ⟨x, k, rfl, hk, q⟩ := h
  obtain ⟨u, v, rfl, ru, rv⟩ := r.two
  cases rv
  have fin : ∀ t', EP X pins σ Q (.bool (isiT k .tup)) { s with toks := t' } := fun t' => ⟨.bl _, H, I.tok t', rfl, q⟩
  cases x with
  | int i => obtain ⟨t, rfl⟩ := ru; cases (show k = .int from hk); exact IsiPair.int_tuple (fin _)
  | bl b => cases ru; cases (show k = .bool from hk); exact IsiPair.bool_tuple (fin _)
  | non => cases ru; cases (show k = .non from hk); exact IsiPair.NoneType_tuple (fin _)
  | str z => obtain ⟨t, rfl⟩ := ru; cases (show k = .str from hk); exact IsiPair.str_tuple (fin _)
  | ref p =>
    cases ru
    rcases hk with ⟨rfl, ys, hs⟩ | ⟨rfl, ys, hs⟩
    · obtain ⟨o, ho, hc⟩ := isi_tup I hs; exact IsiPair.tuple_tuple ho hc (fin _)
    · obtain ⟨o, ho, hc⟩ := isi_lst I hs; exact IsiPair.list_tuple ho hc (fin _)
  | _ => exact False.elim hk
section
variable {prog : Program} {w : World} {A : Around} {E : Value → Shared → Prop} {s : Shared}
open AutoSeq1 (wpAny_loadPart') in
end
theorem op_mulK : OpR X (binaryOp .Mult) (rI IntMulOk fun i j => .int (i * j)) := opI fun _ _ _ _ _ _ _ hc q => mul_int q hc
theorem big60 : IntMulOk (10 ^ 60) (10 ^ 60) := by unfold IntMulOk; decide +kernel
end
end L2
set_option Elab.async false
set_option linter.all false
set_option maxRecDepth 100000
namespace L2
open PySem PySem.Spec PyProof.Rows
structure Fn (P : Program) (w : World) (K : PySem.W.Frag) (mg : Str → Option Value) (base : Heap) (x : Str) (ps : List Str) (k : Nat) (sp : Sp) : Prop where
  ex : ∃ f fd, FnOk P w K mg base CX0 k f fd ps sp ∧ Binds K fd ps [] ∧ PySem.W.keepIn K (.ref f) = true ∧ mg x = some (.ref f)
section
variable {X : Cx} {x : Str} {ps : List Str} {k j : Nat} {sp : Sp} {e : Expr} {es : List Expr} {t : TA} {p pos : Pos}
theorem pe_callF (F : Fn X.prog X.w X.K X.mg X.base x ps k sp) (hr : Room j X.A) (hk : k ≤ j) (ha : PA X (e :: es) t) (hg : Gl X x := by rfl) (hdb : (x == ("__debug__" : Str)) = false := by decide)
    (he : starEach (e :: es) X.env = (false, eval e X.env) :: starEach es X.env := by rfl) (hpl : (backTo pos (starEach es X.env)).any (·.1) = false := by rfl) : PE X (.Call (.Name x p) (e :: es) [] pos) (tCall sp [] E0 t) := by
  obtain ⟨f, fd, G, b, kp, m⟩ := F.ex
  exact pe_call G (hr.mono hk) hg m kp b .nil pass0 ha hdb he hpl
end
section
variable {X : Cx}
theorem pe_ty {x : Str} {n : String} {pos : Pos} (hg : Gl X x) (hm : X.mg x = none) (hv : bootBuiltins x = some (.type n)) (hn : x ≠ "__name__" := by decide) (hd : (x == ("__debug__" : Str)) = false := by decide) : PE X (.Name x pos) (tC (.ty n)) :=
  pe_bltn hg hm hv (v := .ty n) rfl hn hd
end
structure Bi (mg : Str → Option Value) : Prop where
  len_ : mg "len" = none
  range_ : mg "range" = none
  list_ : mg "list" = none
  tuple_ : mg "tuple" = none
  min_ : mg "min" = none
  int_ : mg "int" = none
  bool_ : mg "bool" = none
  isinstance_ : mg "isinstance" = none
  set_ : mg "set" = none
  all_ : mg "all" = none
  enumerate_ : mg "enumerate" = none
theorem bt_len : bootBuiltins "len" = some (.builtin "len") := by decide +kernel
theorem bt_tuple : bootBuiltins "tuple" = some (.type "tuple") := by decide +kernel
theorem bt_min : bootBuiltins "min" = some (.builtin "min") := by decide +kernel
theorem bt_int : bootBuiltins "int" = some (.type "int") := by decide +kernel
theorem bt_bool : bootBuiltins "bool" = some (.type "bool") := by decide +kernel
theorem bt_isinstance : bootBuiltins "isinstance" = some (.builtin "isinstance") := by decide +kernel
theorem bt_all : bootBuiltins "all" = some (.builtin "all") := by decide +kernel
theorem dp_ints {K : PySem.W.Frag} {H : Hp} : ∀ ns : List Int, DpAll K H (ns.map V.int) (ns.map PyData.int)
  | [] => .nil
  | n :: r => .cons (.int n) (dp_ints r)
section
variable {X : Cx}
end
end L2
set_option Elab.async false
set_option linter.all false
set_option maxRecDepth 100000
set_option maxHeartbeats 600000
namespace Hs
open PySem L2
def top (i : Nat) : Stmt := PySem.Challenge.pw_halfseams_k44_deeds_as_texts.main.body.getD i (.Pass ⟨0, 0, 0, 0⟩)
abbrev sWhole : Stmt := top 15
abbrev s_is_deed : Stmt := top 19
abbrev s_numbers_text : Stmt := top 23
abbrev s_deed_text : Stmt := top 24
abbrev s_read_deed : Stmt := top 25
abbrev s_read_number : Stmt := top 26
abbrev s_deed_in : Stmt := top 27
abbrev s__law_told_text : Stmt := top 29
abbrev s__law_read_deed : Stmt := top 30
abbrev sBag : Stmt := top 31
abbrev sTake : Stmt := top 32
abbrev s__law_kinds : Stmt := top 33
abbrev s__law_words : Stmt := top 34
abbrev s__law_number : Stmt := top 35
abbrev sBent : Stmt := top 36
abbrev sLaw : Stmt := top 37
theorem itP {c : Bool} {A B : Prop} (h : c = true) (a : A) : if c = true then A else B := by rw [if_pos h]; exact a
theorem itN {c : Bool} {A B : Prop} (h : c = false) (b : B) : if c = true then A else B := by rw [if_neg (by rw [h]; exact Bool.false_ne_true)]; exact b
theorem at0 {α : Type} (a : α) (r : List α) : atI (a :: r) 0 = some a := atI_nat (j := 0) rfl
theorem at1 {α : Type} (a b : α) (r : List α) : atI (a :: b :: r) 1 = some b := atI_nat (j := 1) rfl
theorem atN {α : Type} {xs : List α} {i : Int} {v : α} (h0 : 0 ≤ i) (h : xs[i.toNat]? = some v) : atI xs i = some v := by
  rw [show i = ((i.toNat : Nat) : Int) by omega]; exact atI_nat h
theorem lt63 {n : Nat} (h : n ≤ 1000) : n ≤ sizeLine := Nat.le_of_lt (small1000 h)
section
variable {P : Program} {w : World} {K : PySem.W.Frag} {mg : Str → Option Value} {base : Heap} {f : Addr} {fd : FuncData}
def Only1 (b : Addr) (H H' : Hp) : Prop := ∀ c, c ≠ b → H' c = H c
theorem only1_upd {b : Addr} {H : Hp} {o : HO} : Only1 b H (upd H b o) := fun _ hc => upd_ne hc
def spTake : Sp := fun vs H Q _ => ∃ (b : Addr) (x y many : Int), vs = [.ref b, .int many] ∧ H b = some (.lst [.int x, .int y]) ∧ 0 < many ∧ many < 1073741824 ∧
  ∀ (r : Int) (H' : Hp) (x' y' : Int), 0 ≤ r → r < many → H' b = some (.lst [.int x', .int y']) → Only1 b H H' → Q (.int r) H'
theorem scTake : FnScope ["bag", "many", "found"] ["bag", "many"] (defScope sTake) := ⟨rfl, rfl, rfl, by decide +kernel, rfl, by decide +kernel, by decide +kernel⟩
theorem ok_take (F : Fun K "_law_take" "_law_take" sTake f fd) : FnOk P w K mg base CX0 1 f fd ["bag", "many"] spTake := by
  refine F.ok scTake (fun vs H Q E h => ?_) (fun cdv A outer s H vs Q E hr h => ?_)
  · obtain ⟨b, x, y, many, rfl, _⟩ := h; rfl
  obtain ⟨b, x, y, many, rfl, hb, h0, h1, q⟩ := h
  refine ⟨_, (pss_cons (ps_if (pt_cmpR op_gt (pe_ix ix_list (pv 0) pe_int (fun _ _ => rfl)) pe_int (nomark _))
   (pss_cons (ps_set (i := 2) scTake.nd rfl (Or.inl rfl) (pe_op op_mod (pe_ix ix_list (pv 0) pe_int (fun _ _ => rfl)) (pv 1)))
   (pss_cons (ps_asg (pe_op op_fdiv (pe_ix ix_list (pv 0) pe_int (fun _ _ => rfl)) (pv 1)) (pg_sub (pv 0) pe_int set_list))
   (pss_one (ps_ret (pv 2)))))
   pss_nil)
   (pss_cons (ps_asg (pe_op op_mod (pe_op op_mul (pe_ix ix_list (pv 0) pe_int (fun _ _ => rfl)) pe_int) pe_int) (pg_sub (pv 0) pe_int set_list))
   (pss_one (ps_ret (pe_op op_mod (pe_op op_fdiv (pe_op op_mod (pe_op op_mul (pe_ix ix_list (pv 0) pe_int (fun _ _ => rfl)) (pe_ix ix_list (pv 0) pe_int (fun _ _ => rfl))) pe_int) pe_int) (pv 1)))))), ?_⟩
  refine ⟨_, rfl, b, _, _, _, rfl, rfl, SqL.of hb, at0 _ _, _, _, rfl, rfl, _, rfl, ite2 (fun _ => ?_) (fun _ => ?_)⟩
  · refine ⟨_, rfl, b, _, _, _, rfl, rfl, SqL.of hb, at0 _ _, _, rfl, _, _, rfl, rfl, h0, ?_⟩
    refine ⟨_, rfl, b, _, _, _, rfl, rfl, SqL.of hb, at0 _ _, _, rfl, _, _, rfl, rfl, ⟨h0, h1⟩, _, rfl, b, _, _, 0, rfl, rfl, hb, rfl, ?_⟩
    exact ⟨_, rfl, q _ _ _ _ (Int.emod_nonneg _ (by omega)) (Int.emod_lt_of_pos _ h0) upd_same only1_upd⟩
  · refine ⟨_, rfl, b, _, _, _, rfl, rfl, SqL.of hb, at1 _ _ _, _, _, rfl, rfl, .inr ⟨by decide, by decide⟩, _, _, rfl, rfl, (by show (0 : Int) < 2147483647; decide), _, rfl, b, _, _, 1, rfl, rfl, hb, rfl, ?_⟩
    have z0 : 0 ≤ y * 48271 % 2147483647 := Int.emod_nonneg _ (by decide)
    have z1 : y * 48271 % 2147483647 < 2147483647 := Int.emod_lt_of_pos _ (by decide)
    refine ⟨_, rfl, b, _, _, _, rfl, rfl, SqL.of upd_same, at1 _ _ _, _, rfl, b, _, _, _, rfl, rfl, SqL.of upd_same, at1 _ _ _, _, _, rfl, rfl, .inl ⟨by omega, by omega⟩, _, _, rfl, rfl, (by show (0 : Int) < 2147483629; decide), _, _, rfl, rfl, ⟨by decide, by decide⟩, _, rfl, _, _, rfl, rfl, h0, ?_⟩
    exact q _ _ _ _ (Int.emod_nonneg _ (by omega)) (Int.emod_lt_of_pos _ h0) upd_same only1_upd
def spBag (K : PySem.W.Frag) : Sp := fun vs H Q _ => ∃ (a : Addr) (ns : List Int) (k : Int), vs = [.ref a, .int k] ∧ SqL K H a (ns.map V.int) ∧ ns.length ≤ 63 ∧ 0 ≤ k ∧
  ∀ (p : Addr) (x y : Int), H p = none → Q (.ref p) (upd H p (.lst [.int x, .int y]))
theorem scBag : FnScope ["script", "k", "cell"] ["script", "k"] (defScope sBag) := ⟨rfl, rfl, rfl, by decide +kernel, rfl, by decide +kernel, by decide +kernel⟩
theorem big_pos : (0 : Int) < 10 ^ (60 : Int).toNat * 10 ^ (60 : Int).toNat := by decide +kernel
theorem ok_bag (B : Bi mg) (F : Fun K "_law_bag" "_law_bag" sBag f fd) : FnOk P w K mg base CX0 1 f fd ["script", "k"] (spBag K) := by
  refine F.ok scBag (fun vs H Q E h => ?_) (fun cdv A outer s H vs Q E hr h => ?_)
  · obtain ⟨a, ns, k, rfl, _⟩ := h; rfl
  obtain ⟨a, ns, k, rfl, hS, h63, h0, q⟩ := h
  refine ⟨_, (pss_cons (ps_set (i := 2) scBag.nd rfl (Or.inl rfl) pe_int)
   (pss_cons (ps_if (pt_cmpR op_lt (pv 1) (pe_callB call_len_seq rfl B.len_ bt_len (pa_cons (pv 0) pa_nil)) (nomark _))
   (pss_one (ps_set (i := 2) scBag.nd rfl (Or.inl rfl) (pe_op op_mod (pe_ix ix_list (pv 0) (pv 1) (fun _ _ => rfl)) (pe_op op_mulK (pe_op op_pow pe_int pe_int) (pe_op op_pow pe_int pe_int)))))
   pss_nil)
   (pss_cons (ps_if (pt_cmpR op_lt (pv 2) (pe_op op_pow pe_int pe_int) (nomark _))
   (pss_one (ps_ret (pe_lst (pa_cons pe_int (pa_cons (pe_op op_add pe_int (pe_op op_mod (pe_op op_add (pe_op op_mul (pv 2) pe_int) (pe_op op_mul pe_int (pv 1))) pe_int)) pa_nil)))))
   pss_nil)
   (pss_one (ps_ret (pe_lst (pa_cons (pv 2) (pa_cons (pe_op op_add pe_int (pe_op op_mod (pe_op op_add (pv 2) (pv 1)) pe_int)) pa_nil)))))))), ?_⟩
  have hl : (ns.map V.int).length = ns.length := List.length_map _
  refine ⟨_, rfl, _, rfl, a, _, rfl, .inl hS, _, _, rfl, rfl, _, rfl, ite2 (fun c => ?_) (fun c => ?_)⟩
  · have c' : k < ((ns.map V.int).length : Int) := of_decide_eq_true c
    rw [hl] at c'
    have hk : k.toNat < ns.length := by omega
    refine ⟨_, rfl, _, rfl, a, _, _, .int ns[k.toNat], rfl, rfl, hS, atN h0 (by rw [List.getElem?_map, List.getElem?_eq_getElem hk] <;> rfl), _, _, rfl, rfl, ⟨by decide, by decide, by decide⟩, _, _, rfl, rfl, ⟨by decide, by decide, by decide⟩, _, _, rfl, rfl, big60, _, _, rfl, rfl, big_pos, ?_⟩
    refine ⟨_, rfl, _, _, rfl, rfl, ⟨by decide, by decide, by decide⟩, _, _, rfl, rfl, _, rfl, ite2 (fun c => ?_) (fun c => ?_)⟩
    · refine ⟨_, rfl, _, _, rfl, rfl, .inr ⟨by decide, by decide⟩, _, rfl, _, _, rfl, rfl, .inl ⟨by decide, by decide⟩, _, _, rfl, rfl, _, _, rfl, rfl, (by show (0 : Int) < 2147483646; decide), _, _, rfl, rfl, (by show 2 ≤ sizeLine; decide), fun p hp => q p _ _ hp⟩
    · refine ⟨_, rfl, _, rfl, _, rfl, _, _, rfl, rfl, _, _, rfl, rfl, (by show (0 : Int) < 2147483646; decide), _, _, rfl, rfl, (by show 2 ≤ sizeLine; decide), fun p hp => q p _ _ hp⟩
  · refine ⟨_, rfl, _, _, rfl, rfl, ⟨by decide, by decide, by decide⟩, _, _, rfl, rfl, _, rfl, ite2 (fun c => ?_) (fun c => ?_)⟩
    · refine ⟨_, rfl, _, _, rfl, rfl, .inr ⟨by decide, by decide⟩, _, rfl, _, _, rfl, rfl, .inl ⟨by decide, by decide⟩, _, _, rfl, rfl, _, _, rfl, rfl, (by show (0 : Int) < 2147483646; decide), _, _, rfl, rfl, (by show 2 ≤ sizeLine; decide), fun p hp => q p _ _ hp⟩
    · refine ⟨_, rfl, _, rfl, _, rfl, _, _, rfl, rfl, _, _, rfl, rfl, (by show (0 : Int) < 2147483646; decide), _, _, rfl, rfl, (by show 2 ≤ sizeLine; decide), fun p hp => q p _ _ hp⟩
end
end Hs
set_option Elab.async false
set_option linter.all false
set_option maxRecDepth 100000
set_option maxHeartbeats 600000
namespace Hs
open PySem L2
theorem same_new {H : Hp} {p : Addr} (h : H p = none) (o : HO) : Same H (upd H p o) := fun b u q => by rw [upd_ne (ne_of_none q h)]; exact q
theorem _root_.L2.Same.seqT {K : PySem.W.Frag} {H H' : Hp} {a : Addr} {xs : List V} (e : Same H H') (h : SqT K H a xs) : SqT K H' a xs := by
  rcases h with (h | ⟨o, h⟩) | h
  · exact .inl (.inl (e _ _ h))
  · exact .inl (.inr ⟨o, e _ _ h⟩)
  · exact .inr h
end Hs
set_option linter.all false
namespace Hs
def lk (l : List Int) (x : Int) : Int := l.getD x.toNat 0
theorem lk_get {l : List Int} {x : Int} (h : x.toNat < l.length) : l[x.toNat]? = some (lk l x) := by
  unfold lk; rw [List.getD_eq_getElem?_getD, List.getElem?_eq_getElem h]; rfl
theorem lk_set {l : List Int} {j : Nat} {v x : Int} (h : j < l.length) : lk (l.set j v) x = if x.toNat = j then v else lk l x := by
  unfold lk
  rw [List.getD_eq_getElem?_getD, List.getElem?_set, List.getD_eq_getElem?_getD]
  by_cases e : j = x.toNat
  · rw [if_pos e, if_pos h, if_pos e.symm]; rfl
  · rw [if_neg e, if_neg (fun z => e z.symm)]
structure Ord (n : Nat) (o : List Int) : Prop where
  len : o.length = n
  nd : o.Nodup
  mem : ∀ x : Int, x ∈ o ↔ 0 ≤ x ∧ x < n
theorem Ord.nil : Ord 0 [] := ⟨rfl, List.nodup_nil, fun x => ⟨fun h => (by cases h), fun h => (by omega)⟩⟩
theorem Ord.put {n : Nat} {o : List Int} (h : Ord n o) (r : Nat) : Ord (n + 1) (o.take r ++ (n : Int) :: o.drop r) := by
  have hp : (o.take r ++ (n : Int) :: o.drop r).Perm ((n : Int) :: o) := by
    have := (List.perm_middle (a := (n : Int)) (l₁ := o.take r) (l₂ := o.drop r))
    rwa [List.take_append_drop] at this
  refine ⟨by rw [hp.length_eq, List.length_cons, h.len], hp.nodup_iff.mpr (List.nodup_cons.mpr ⟨fun z => ?_, h.nd⟩), fun x => ?_⟩
  · have := (h.mem _).mp z; omega
  · rw [hp.mem_iff, List.mem_cons, h.mem]; omega
structure Sewn (n : Nat) (done : List Int) (on : List Int) : Prop where
  len : on.length = n
  into : ∀ x ∈ done, lk on x ∈ done
  inj : ∀ x ∈ done, ∀ y ∈ done, lk on x = lk on y → x = y
  sur : ∀ y ∈ done, ∃ x ∈ done, lk on x = y
theorem Sewn.nil {n : Nat} {on : List Int} (h : on.length = n) : Sewn n [] on := ⟨h, (fun x hx => by cases hx), (fun x hx => by cases hx), (fun x hx => by cases hx)⟩
def prv (s j : Nat) : Nat := if j = 0 then s - 1 else j - 1
structure Sewing (n : Nat) (patch : List Int) (on0 : List Int) (i : Nat) (on : List Int) : Prop where
  len : on.length = n
  did : ∀ j, j < i → ∀ x, patch[prv patch.length j]? = some x → ∀ y, patch[j]? = some y → lk on x = y
  out : ∀ x, 0 ≤ x → x ∉ patch → lk on x = lk on0 x
theorem Sewing.start {n : Nat} {patch on0 : List Int} (h : on0.length = n) : Sewing n patch on0 0 on0 := ⟨h, fun j hj => absurd hj (Nat.not_lt_zero _), fun _ _ _ => rfl⟩
theorem nd_at {l : List Int} (hN : l.Nodup) {i j : Nat} {x : Int} (a : l[i]? = some x) (b : l[j]? = some x) : i = j := by
  obtain ⟨h1, e1⟩ := List.getElem?_eq_some_iff.mp a
  obtain ⟨h2, e2⟩ := List.getElem?_eq_some_iff.mp b
  exact (List.getElem_inj hN).mp (e1.trans e2.symm)
theorem prv_inj {s i j : Nat} (hi : i < s) (hj : j < s) (h : prv s i = prv s j) : i = j := by unfold prv at h; split at h <;> split at h <;> omega
theorem prv_lt {s j : Nat} (hj : j < s) : prv s j < s := by unfold prv; split <;> omega
theorem Sewing.turn {n : Nat} {patch on0 on : List Int} {i : Nat} {x y : Int} (S : Sewing n patch on0 i on) (nd : patch.Nodup) (hr : ∀ z ∈ patch, 0 ≤ z ∧ z < n) (hi : i < patch.length) (hx : patch[prv patch.length i]? = some x) (hy : patch[i]? = some y) :
    Sewing n patch on0 (i + 1) (on.set x.toNat y) := by
  have hxm := hr x (List.mem_of_getElem? hx)
  have hxl : x.toNat < on.length := by rw [S.len]; omega
  refine ⟨by rw [List.length_set, S.len], fun j hj u hu v hv => ?_, fun z hz hn => ?_⟩
  · have hum := hr u (List.mem_of_getElem? hu)
    have hjl : j < patch.length := (List.getElem?_eq_some_iff.mp hv).1
    rw [lk_set hxl]
    by_cases e : u.toNat = x.toNat
    · have eu : u = x := by omega
      subst eu
      have := prv_inj hjl hi (nd_at nd hu hx)
      subst this
      rw [if_pos rfl]
      rw [hy] at hv
      exact Option.some.inj hv
    · rw [if_neg e]
      refine S.did j ?_ u hu v hv
      rcases Nat.lt_or_ge j i with h | h
      · exact h
      · have : j = i := by omega
        subst this
        rw [hx] at hu
        exact absurd (congrArg Int.toNat (Option.some.inj hu).symm) e
  · rw [lk_set hxl, if_neg (fun e => hn ?_)]
    · exact S.out z hz hn
    · have : z = x := by omega
      rw [this]; exact List.mem_of_getElem? hx
theorem Sewn.more {n : Nat} {done patch on0 on : List Int} (D : Sewn n done on0) (S : Sewing n patch on0 patch.length on) (nd : (done ++ patch).Nodup) (hr : ∀ z ∈ done ++ patch, 0 ≤ z ∧ z < n) : Sewn n (done ++ patch) on := by
  obtain ⟨nd1, nd2, nd3⟩ := List.nodup_append.mp nd
  have old : ∀ x ∈ done, lk on x = lk on0 x := fun x hx => S.out x (hr x (List.mem_append_left _ hx)).1 fun z => nd3 x hx x z rfl
  have new : ∀ x ∈ patch, ∃ j, j < patch.length ∧ patch[prv patch.length j]? = some x ∧ patch[j]? = some (lk on x) := fun x hx => by
    obtain ⟨k, hk, e⟩ := List.getElem_of_mem hx
    obtain ⟨j, hj, ej⟩ : ∃ j, j < patch.length ∧ prv patch.length j = k := by
      by_cases z : k + 1 = patch.length
      · exact ⟨0, by omega, by unfold prv; rw [if_pos rfl]; omega⟩
      · exact ⟨k + 1, by omega, by unfold prv; rw [if_neg (by omega)]; omega⟩
    have h1 : patch[prv patch.length j]? = some x := by rw [ej, List.getElem?_eq_getElem hk, e]
    have h2 : patch[j]? = some patch[j] := List.getElem?_eq_getElem hj
    refine ⟨j, hj, h1, ?_⟩
    rw [S.did j hj x h1 _ h2]; exact h2
  refine ⟨S.len, fun x hx => ?_, fun x hx y hy e => ?_, fun y hy => ?_⟩
  rotate_left 2
  · rcases List.mem_append.mp hy with h | h
    · obtain ⟨x, hx, e⟩ := D.sur y h
      exact ⟨x, List.mem_append_left _ hx, by rw [old x hx]; exact e⟩
    · obtain ⟨j, hj, e⟩ := List.getElem_of_mem h
      have hpl := prv_lt hj
      have hp : patch[prv patch.length j]? = some patch[prv patch.length j] := List.getElem?_eq_getElem hpl
      exact ⟨patch[prv patch.length j], List.mem_append_right _ (List.getElem_mem _), S.did j hj _ hp y (by rw [List.getElem?_eq_getElem hj, e])⟩
  · rcases List.mem_append.mp hx with h | h
    · rw [old x h]; exact List.mem_append_left _ (D.into x h)
    · obtain ⟨j, _, _, h2⟩ := new x h
      exact List.mem_append_right _ (List.mem_of_getElem? h2)
  · rcases List.mem_append.mp hx with h | h <;> rcases List.mem_append.mp hy with g | g
    · rw [old x h, old y g] at e; exact D.inj x h y g e
    · obtain ⟨j, _, _, h2⟩ := new y g
      rw [old x h] at e
      exact absurd rfl (nd3 _ (D.into x h) _ (e ▸ List.mem_of_getElem? h2))
    · obtain ⟨j, _, _, h2⟩ := new x h
      rw [old y g] at e
      exact absurd rfl (nd3 _ (D.into y g) _ (e ▸ List.mem_of_getElem? h2))
    · obtain ⟨j, _, h1, h2⟩ := new x h
      obtain ⟨k, _, g1, g2⟩ := new y g
      rw [e] at h2
      have := nd_at nd2 h2 g2
      subst this
      rw [h1] at g1
      exact Option.some.inj g1
structure Mated (n : Nat) (ms : List (Option Int)) : Prop where
  len : ms.length = n
  ok : ∀ (h : Nat) (m : Int), ms[h]? = some (some m) → 0 ≤ m ∧ m < n ∧ m ≠ h ∧ ms[m.toNat]? = some (some (h : Int))
theorem Mated.start (n : Nat) : Mated n (List.replicate n none) := ⟨List.length_replicate, fun h m e => by
  rw [List.getElem?_replicate] at e
  split at e
  · cases e
  · cases e⟩
structure SkinOk (on : List Int) (ms : List (Option Int)) : Prop where
  pos : 1 ≤ on.length
  le : on.length ≤ 400
  len : ms.length = on.length
  rng : ∀ x ∈ on, 0 ≤ x ∧ x < on.length
  nd : on.Nodup
  sur : ∀ y : Int, 0 ≤ y → y < on.length → y ∈ on
  ok : ∀ (h : Nat) (m : Int), ms[h]? = some (some m) → 0 ≤ m ∧ m < on.length ∧ m ≠ h ∧ ms[m.toNat]? = some (some (h : Int))
end Hs
set_option Elab.async false
set_option linter.all false
set_option maxRecDepth 100000
set_option maxHeartbeats 4000000
namespace L2
open PySem PySem.Spec PyProof.Rows
section
variable {prog : Program} {w : World} {A : Around} {E : Value → Shared → Prop} {s : Shared}
theorem tup_whole {t sl : Addr} {items : Array Value} {vl vu : Value} {lo hi : Option Int} {Q : Value → Shared → Prop} (ht : IsTup s.heap t items) (hs : s.heap.IsSliceOf sl vl vu .none) (pl : IsPart vl lo) (pu : IsPart vu hi)
    (hw : HT.sIx items.size 0 lo = 0 ∧ HT.sIx items.size items.size hi = items.size) (h : Q (.ref t) s) : wpAny (model prog w) A (getItem (.ref t) (.ref sl)) Q E s := by
  obtain ⟨os, hos, hcs, hds⟩ := id hs
  have hTs : s.TypeIs (.ref sl) "slice" := ⟨os, hos, hcs⟩
  unfold getItem
  try with_reducible refine wpAny_holding ?_
  first | refine wpAny_bind (wpAny_pure ?_) | skip
  refine wpAny_bind (wpAny_sequenceKey ht.typeIs (by decide) ?_)
  refine wpAny_bind (wpAny_callSpecial?_slot (name := Str.ofString "__getitem__") ht.typeIs PyProof.Rows.slot_tuple_getitem (wpAny_call_entry PyProof.Rows.slot_tuple_getitem ht.typeIs entry_tuple_getitem ?_ (args_tuple_getitem _ _)))
  show wpAny _ _ (Builtin.Tuple.tupleItemsOf (.ref t) >>= _) _ _ s
  refine wpAny_bind (tupleItemsOf_ ht ?_)
  refine wpAny_bind (wpAny_typeOf hTs ?_)
  rw [if_pos (by decide)]
  refine wpAny_bind (HT.sliceApplied_gen hs pl pu ?_)
  have hyes : (((HT.sIx items.size 0 lo : Nat) : Int) == 0 && (1 : Int) == 1 && (HT.sIx items.size items.size hi - HT.sIx items.size 0 lo) == items.size) = true := by
    rw [hw.1, hw.2]; simp
  show wpAny _ _ (if (((HT.sIx items.size 0 lo : Nat) : Int) == 0 && (1 : Int) == 1 && (HT.sIx items.size items.size hi - HT.sIx items.size 0 lo) == items.size) = true then _ else _) _ _ s
  rw [if_pos hyes]
  unfold Builtin.Tuple.tupleIsExact
  refine wpAny_bind (wpAny_bind (wpAny_typeOf ht.typeIs (wpAny_pure ?_)))
  rw [if_pos (by decide)]
  repeat (first | refine wpAny_pure ?_ | refine wpAny_rule ?_ | refine wpAny_bind ?_)
  exact ⟨_, rfl, wpAny_pure h⟩
open AutoSeq1 (wpAny_loadPart') in
open AutoSeq1 (wpAny_loadPart') in
end
section
variable {X : Cx}
theorem cut_whole {xs : List V} {lo hi : Option Int} (h : HT.sIx xs.length 0 lo = 0 ∧ HT.sIx xs.length xs.length hi = xs.length) : cutV xs lo hi = xs := by
  unfold cutV; rw [h.1, h.2, List.drop_zero, Nat.sub_zero, List.take_of_length_le (Nat.le_refl _)]
def rSlW (K : PySem.W.Frag) : V → Option Int → Option Int → Hp → VK → Prop := fun x lo hi H Q => ∃ a xs, x = .ref a ∧ SqT K H a xs ∧ ∀ p H', Same H H' → SqT K H' p (cutV xs lo hi) → Q (.ref p) H'
theorem sl_tupW : SlR X (rSlW X.K) := by
  intro pins s σ H x v vl vu lo hi sl Q I rx hs pl pu h
  obtain ⟨a, xs, rfl, hx, q⟩ := h
  by_cases hw : HT.sIx xs.length 0 lo = 0 ∧ HT.sIx xs.length xs.length hi = xs.length
  · cases rx
    obtain ⟨its, r, ht, hz⟩ := I.tuple hx
    have hlen : its.toArray.size = xs.length := by rw [List.size_toArray]; exact r.length.symm
    refine ⟨"tuple", _, PyProof.Rows.slot_tuple_getitem.lookup, ht.typeIs, tup_whole ht hs pl pu (by rw [hlen]; exact hw) ⟨.ref a, H, I, rfl, q a H (Same.refl H) (by rw [cut_whole hw]; exact hx)⟩⟩
  · exact sl_tup pins s σ H (.ref a) v vl vu lo hi sl Q I rx hs pl pu ⟨a, xs, rfl, hx, hw, fun p hp => q p _ (fun b u z => by rw [upd_ne (ne_of_none z hp)]; exact z) (SqT.of upd_same)⟩
variable {K : PySem.W.Frag}
theorem ix_listK (hK : X.K = K) : IxR X (rIxL K) := by subst hK; exact ix_list
end
end L2
set_option Elab.async false
set_option linter.all false
set_option maxRecDepth 100000
set_option maxHeartbeats 4000000
namespace L2
open PySem PySem.Spec PyProof.Rows
mutual
theorem Dp.same {K : PySem.W.Frag} {H H' : Hp} (s : Same H H') : ∀ (d : PyData) (v : V), Dp K H v d → Dp K H' v d
  | .none, _, h => by cases h; exact .non
  | .bool b, _, h => by cases h; exact .bl b
  | .int i, _, h => by cases h; exact .int i
  | .str x, _, h => by cases h; exact .str x
  | .list ds, _, h => by
    cases h with
    | lst hs ha => exact .lst (s.seq hs) (DpAll.same s ds _ ha)
  | .tuple ds, _, h => by
    cases h with
    | tup hs ha =>
      refine .tup ?_ (DpAll.same s ds _ ha)
      rcases hs with (h | ⟨o, h⟩) | h
      · exact .inl (.inl (s _ _ h))
      · exact .inl (.inr ⟨o, s _ _ h⟩)
      · exact .inr h
  | .dict _, _, h => by cases h
theorem DpAll.same {K : PySem.W.Frag} {H H' : Hp} (s : Same H H') : ∀ (ds : List PyData) (vs : List V), DpAll K H vs ds → DpAll K H' vs ds
  | [], _, h => by cases h; exact .nil
  | d :: ds, _, h => by
    cases h with
    | cons h1 h2 => exact .cons (Dp.same s d _ h1) (DpAll.same s ds _ h2)
end
section
variable {K : PySem.W.Frag} {H H' : Hp}
theorem DpAll.len : ∀ {vs : List V} {ds : List PyData}, DpAll K H vs ds → vs.length = ds.length
  | _, _, .nil => rfl
  | _, _, .cons _ t => by rw [List.length_cons, List.length_cons, DpAll.len t]
theorem DpAll.get : ∀ {vs : List V} {ds : List PyData} {i : Nat} {v : V}, DpAll K H vs ds → vs[i]? = some v → ∃ d, ds[i]? = some d ∧ Dp K H v d
  | _, _, _, _, .nil, e => by simp at e
  | _, _, 0, _, .cons r _, e => by simp at e; subst e; exact ⟨_, rfl, r⟩
  | _, _, i + 1, v, .cons _ t, e => by
    obtain ⟨d, h1, h2⟩ := DpAll.get (i := i) (v := v) t (by simpa using e)
    exact ⟨d, by simpa using h1, h2⟩
theorem DpAll.take : ∀ {vs : List V} {ds : List PyData} (n : Nat), DpAll K H vs ds → DpAll K H (vs.take n) (ds.take n)
  | _, _, 0, _ => .nil
  | _, _, _ + 1, .nil => .nil
  | _, _, n + 1, .cons r t => .cons r (DpAll.take n t)
theorem DpAll.drop : ∀ {vs : List V} {ds : List PyData} (n : Nat), DpAll K H vs ds → DpAll K H (vs.drop n) (ds.drop n)
  | _, _, 0, r => r
  | _, _, _ + 1, .nil => .nil
  | _, _, n + 1, .cons _ t => DpAll.drop n t
theorem DpAll.app : ∀ {vs ws : List V} {ds es : List PyData}, DpAll K H vs ds → DpAll K H ws es → DpAll K H (vs ++ ws) (ds ++ es)
  | _, _, _, _, .nil, s => s
  | _, _, _, _, .cons r t, s => .cons r (DpAll.app t s)
def kdD : PyData → Kd
  | .none => .non | .bool _ => .bool | .int _ => .int | .str _ => .str | .list _ => .lst | .tuple _ => .tup | .dict _ => .non
theorem Dp.kind {v : V} {d : PyData} (h : Dp K H v d) : KindV K H v (kdD d) := by
  cases h with
  | non => rfl
  | bl _ => rfl
  | int _ => rfl
  | str _ => rfl
  | lst hs _ => exact .inr ⟨rfl, _, hs⟩
  | tup hs _ => exact .inl ⟨rfl, _, hs⟩
end
mutual
def wd : PyData → Nat
  | .tuple ds => max ds.length (wdAll ds)
  | .list ds => max ds.length (wdAll ds)
  | _ => 0
def wdAll : List PyData → Nat
  | [] => 0
  | d :: r => max (wd d) (wdAll r)
end
structure Gd (k : Nat) (d : PyData) : Prop where
  lay : d.canLay0 = true
  dp : d.depth ≤ k
  wide : wd d ≤ 400 + k
theorem Gd.mono {j k : Nat} {d : PyData} (g : Gd j d) (h : j ≤ k) : Gd k d := ⟨g.lay, Nat.le_trans g.dp h, Nat.le_trans g.wide (by omega)⟩
def GdA (k : Nat) (ds : List PyData) : Prop := ∀ d ∈ ds, Gd k d
theorem gdA_lay {k : Nat} : ∀ {ds : List PyData}, GdA k ds → PyData.canLayAll0 ds = true
  | [], _ => by simp [PyData.canLayAll0]
  | d :: r, g => by
    rw [PyData.canLayAll0, (g d (by simp)).lay, gdA_lay (fun x hx => g x (by simp [hx]))]; rfl
theorem gdA_dp {k : Nat} : ∀ {ds : List PyData}, GdA k ds → PyData.depthAll ds ≤ k
  | [], _ => by simp [PyData.depthAll]
  | d :: r, g => by
    have h1 := (g d (by simp)).dp
    have h2 := gdA_dp (k := k) (ds := r) (fun x hx => g x (by simp [hx]))
    rw [PyData.depthAll]; omega
theorem gdA_wd {k : Nat} : ∀ {ds : List PyData}, GdA k ds → wdAll ds ≤ 400 + k
  | [], _ => by simp [wdAll]
  | d :: r, g => by
    have h1 := (g d (by simp)).wide
    have h2 := gdA_wd (k := k) (ds := r) (fun x hx => g x (by simp [hx]))
    rw [wdAll]; omega
theorem Gd.tup {k : Nat} {ds : List PyData} (g : GdA k ds) (h : ds.length ≤ 401 + k) : Gd (k + 1) (.tuple ds) :=
  ⟨by rw [PyData.canLay0]; exact gdA_lay g, by have := gdA_dp g; rw [PyData.depth]; omega, by have := gdA_wd g; rw [wd]; omega⟩
theorem Gd.lst {k : Nat} {ds : List PyData} (g : GdA k ds) (h : ds.length ≤ 401 + k) : Gd (k + 1) (.list ds) :=
  ⟨by rw [PyData.canLay0]; exact gdA_lay g, by have := gdA_dp g; rw [PyData.depth]; omega, by have := gdA_wd g; rw [wd]; omega⟩
theorem lay_all : ∀ {ds : List PyData}, PyData.canLayAll0 ds = true → ∀ d ∈ ds, d.canLay0 = true
  | d :: r, h, x, hx => by
    rw [PyData.canLayAll0, Bool.and_eq_true] at h
    rcases List.mem_cons.mp hx with rfl | hx
    · exact h.1
    · exact lay_all h.2 x hx
theorem dp_all : ∀ {ds : List PyData}, ∀ d ∈ ds, d.depth ≤ PyData.depthAll ds
  | d :: r, x, hx => by
    rw [PyData.depthAll]
    rcases List.mem_cons.mp hx with rfl | hx
    · omega
    · have := dp_all x hx; omega
theorem wd_all : ∀ {ds : List PyData}, ∀ d ∈ ds, wd d ≤ wdAll ds
  | d :: r, x, hx => by
    rw [wdAll]
    rcases List.mem_cons.mp hx with rfl | hx
    · omega
    · have := wd_all x hx; omega
theorem Gd.parts {k : Nat} {ds : List PyData} (g : Gd k (.tuple ds)) : GdA k ds ∧ ds.length ≤ 400 + k := by
  obtain ⟨h1, h2, h3⟩ := g
  rw [PyData.canLay0] at h1
  rw [PyData.depth] at h2
  rw [wd] at h3
  refine ⟨fun d hd => ⟨lay_all h1 d hd, ?_, ?_⟩, by omega⟩
  · have := dp_all d hd; omega
  · have := wd_all d hd; omega
theorem Gd.shaped {k : Nat} {d : PyData} (g : Gd k d) (h : k ≤ 64) : SeqAt.shaped d = true := by
  unfold SeqAt.shaped
  rw [Bool.and_eq_true]
  exact ⟨g.lay, decide_eq_true (Nat.le_trans g.dp h)⟩
def nwr (H H' : Hp) : Hp := fun a => if (H a).isSome = true then none else H' a
theorem nwr_some {H H' : Hp} {a : Addr} {o : HO} (h : nwr H H' a = some o) : H a = none ∧ H' a = some o := by
  unfold nwr at h
  split at h
  · cases h
  · rename_i n
    refine ⟨?_, h⟩
    cases q : H a with
    | none => rfl
    | some u => rw [q] at n; exact absurd rfl n
theorem nwr_of {H H' : Hp} {a : Addr} {o : HO} (h : H a = none) (h' : H' a = some o) : nwr H H' a = some o := by
  unfold nwr; rw [h, if_neg (by simp)]; exact h'
theorem nwr_on {H H1 H2 : Hp} (s : Same H1 H2) : Same (nwr H H1) (nwr H H2) := fun a o h => nwr_of (nwr_some h).1 (s _ _ (nwr_some h).2)
theorem nwr_in {H H1 H2 : Hp} (s : Same H H1) : Same (nwr H1 H2) (nwr H H2) := fun a o h => nwr_of (s.free (nwr_some h).1) (nwr_some h).2
theorem nwr_same {H H1 : Hp} : Same (nwr H H1) H1 := fun a o h => (nwr_some h).2
def Lit (K : PySem.W.Frag) (t : TE) (d : PyData) : Prop := ∀ (σ : St) (H : Hp) (Q : VK), (∀ v H', Same H H' → Dp K (nwr H H') v d → Q v H') → t σ H Q
def LitA (K : PySem.W.Frag) (t : TA) (ds : List PyData) : Prop := ∀ (σ : St) (H : Hp) (Q : List V → Hp → Prop), (∀ vs H', Same H H' → DpAll K (nwr H H') vs ds → Q vs H') → t σ H Q
theorem same_put {H : Hp} {p : Addr} (h : H p = none) (o : HO) : Same H (upd H p o) := fun b u q => by rw [upd_ne (ne_of_none q h)]; exact q
section
variable {K : PySem.W.Frag}
theorem lit_int {i : Int} : Lit K (tC (.int i)) (.int i) := fun _ H _ q => q _ H (Same.refl H) (.int i)
theorem lit_bl {b : Bool} : Lit K (tC (.bl b)) (.bool b) := fun _ H _ q => q _ H (Same.refl H) (.bl b)
theorem lit_non : Lit K (tC .non) .none := fun _ H _ q => q _ H (Same.refl H) .non
theorem lit_str {x : Str} : Lit K (tC (.str x)) (.str x) := fun _ H _ q => q _ H (Same.refl H) (.str x)
theorem lit_neg {i : Int} : Lit K (tUn (rU fun i => .int (-i)) (tC (.int i))) (.int (-i)) := fun _ H _ q => ⟨i, rfl, q _ H (Same.refl H) (.int (-i))⟩
theorem litA_nil : LitA K tNil [] := fun _ H _ q => q [] H (Same.refl H) .nil
theorem litA_cons {t : TE} {ts : TA} {d : PyData} {ds : List PyData} (h1 : Lit K t d) (h2 : LitA K ts ds) : LitA K (tCons t ts) (d :: ds) := fun σ H Q q =>
  h1 σ H _ fun v H1 s1 d1 => h2 σ H1 _ fun vs H2 s2 d2 => q (v :: vs) H2 (s1.trans s2) (.cons (Dp.same (nwr_on s2) _ _ d1) (DpAll.same (nwr_in s1) _ _ d2))
theorem lit_tup {t : TA} {ds : List PyData} (h : LitA K t ds) (hz : ds.length ≤ sizeLine := by decide) : Lit K (tTup t) (.tuple ds) := fun σ H Q q =>
  h σ H _ fun vs H1 s1 d1 => ⟨by rw [d1.len]; exact hz, fun p hp => q _ _ (s1.trans (same_put hp _)) (.tup (SqT.of (nwr_of (s1.free hp) upd_same)) (DpAll.same (nwr_on (same_put hp _)) _ _ d1))⟩
theorem lit_lst {t : TA} {ds : List PyData} (h : LitA K t ds) (hz : ds.length ≤ sizeLine := by decide) : Lit K (tLst t) (.list ds) := fun σ H Q q =>
  h σ H _ fun vs H1 s1 d1 => ⟨by rw [d1.len]; exact hz, fun p hp => q _ _ (s1.trans (same_put hp _)) (.lst (SqL.of (nwr_of (s1.free hp) upd_same)) (DpAll.same (nwr_on (same_put hp _)) _ _ d1))⟩
end
mutual
def litD : Expr → Option PyData
  | .Constant (.int i) _ _ => some (.int i)
  | .Constant (.bool b) _ _ => some (.bool b)
  | .Constant .none _ _ => some .none
  | .Constant (.str x) _ _ => some (.str x)
  | .UnaryOp .USub (.Constant (.int i) _ _) _ => some (.int (-i))
  | .Tuple es _ _ => match litDs es with
    | some ds => if ds.length ≤ 1000 then some (.tuple ds) else none
    | none => none
  | .List es _ => match litDs es with
    | some ds => if ds.length ≤ 1000 then some (.list ds) else none
    | none => none
  | _ => none
def litDs : List Expr → Option (List PyData)
  | [] => some []
  | e :: es => match litD e, litDs es with
    | some d, some ds => some (d :: ds)
    | _, _ => none
end
def tLit (K : PySem.W.Frag) (d : PyData) : TE := fun _ H Q => ∀ v H', Same H H' → Dp K (nwr H H') v d → Q v H'
def tLitA (K : PySem.W.Frag) (ds : List PyData) : TA := fun _ H Q => ∀ vs H', Same H H' → DpAll K (nwr H H') vs ds → Q vs H'
theorem PE.by {X : Cx} {e : Expr} {t u : TE} (h : PE X e t) (i : ∀ σ H Q, u σ H Q → t σ H Q) : PE X e u := fun pins s σ H Q I q => h pins s σ H Q I (i σ H Q q)
theorem PA.by {X : Cx} {e : List Expr} {t u : TA} (h : PA X e t) (i : ∀ σ H Q, u σ H Q → t σ H Q) : PA X e u := fun pos pins s σ H Q I q => h pos pins s σ H Q I (i σ H Q q)
theorem star_lit {e : Expr} {es : List Expr} {env : Env} {d : PyData} (h : litD e = some d) : starEach (e :: es) env = (false, eval e env) :: starEach es env := by
  cases e <;> first | rfl | (simp [litD] at h)
mutual
theorem pe_lit {X : Cx} : ∀ (e : Expr) (d : PyData), litD e = some d → PE X e (tLit X.K d)
  | .Constant (.int i) _ _, d, h => by simp only [litD, Option.some.injEq] at h; subst h; exact pe_int.by fun σ H Q q => lit_int σ H Q q
  | .Constant (.bool b) _ _, d, h => by simp only [litD, Option.some.injEq] at h; subst h; exact pe_bl.by fun σ H Q q => lit_bl σ H Q q
  | .Constant .none _ _, d, h => by simp only [litD, Option.some.injEq] at h; subst h; exact pe_non.by fun σ H Q q => lit_non σ H Q q
  | .Constant (.str x) _ _, d, h => by simp only [litD, Option.some.injEq] at h; subst h; exact pe_str.by fun σ H Q q => lit_str σ H Q q
  | .UnaryOp .USub (.Constant (.int i) _ _) _, d, h => by simp only [litD, Option.some.injEq] at h; subst h; exact (pe_un un_neg pe_int).by fun σ H Q q => lit_neg σ H Q q
  | .Tuple es _ _, d, h => by
    rw [litD] at h
    split at h
    · rename_i ds e1
      split at h
      · rename_i hz
        cases h
        exact (pe_tup (pa_lit es ds e1)).by fun σ H Q q => lit_tup (fun _ _ _ z => z) (Nat.le_of_lt (small1000 hz)) σ H Q q
      · cases h
    · cases h
  | .List es _, d, h => by
    rw [litD] at h
    split at h
    · rename_i ds e1
      split at h
      · rename_i hz
        cases h
        exact (pe_lst (pa_lit es ds e1)).by fun σ H Q q => lit_lst (fun _ _ _ z => z) (Nat.le_of_lt (small1000 hz)) σ H Q q
      · cases h
    · cases h
theorem pa_lit {X : Cx} : ∀ (es : List Expr) (ds : List PyData), litDs es = some ds → PA X es (tLitA X.K ds)
  | [], ds, h => by
    rw [litDs] at h
    cases h
    exact pa_nil.by fun σ H Q q => litA_nil σ H Q q
  | e :: es, ds, h => by
    rw [litDs] at h
    split at h
    · rename_i d ds' e1 e2
      cases h
      exact (pa_cons (pe_lit e d e1) (pa_lit es ds' e2) (star_lit e1)).by fun σ H Q q => litA_cons (fun _ _ _ z => z) (fun _ _ _ z => z) σ H Q q
    · cases h
end
theorem PS.by {X : Cx} {e : Stmt} {t u : TS} (h : PS X e t) (i : ∀ D σ H, u D σ H → t D σ H) : PS X e u := fun pins s σ H D I q => h pins s σ H D I (i D σ H q)
end L2
set_option Elab.async false
set_option linter.all false
set_option maxRecDepth 100000
namespace L2
open PySem PySem.Spec PyProof.Rows
section
variable {X : Cx}
theorem call_isi_str : CallR X (.builtin "isinstance") (rIsi X.K .str) := by
  intro pins s σ H xs us Q I r h
  obtain ⟨x, k, rfl, hk, q⟩ := h
  obtain ⟨u, v, rfl, ru, rv⟩ := r.two
  cases rv
  have fin : ∀ t', EP X pins σ Q (.bool (isiT k .str)) { s with toks := t' } := fun t' => ⟨.bl _, H, I.tok t', rfl, q⟩
  cases x with
  | int i => obtain ⟨t, rfl⟩ := ru; cases (show k = .int from hk); exact IsiPair.int_str (fin _)
  | bl b => cases ru; cases (show k = .bool from hk); exact IsiPair.bool_str (fin _)
  | non => cases ru; cases (show k = .non from hk); exact IsiPair.NoneType_str (fin _)
  | str z => obtain ⟨t, rfl⟩ := ru; cases (show k = .str from hk); exact IsiPair.str_str (fin _)
  | ref p =>
    cases ru
    rcases hk with ⟨rfl, ys, hs⟩ | ⟨rfl, ys, hs⟩
    · obtain ⟨o, ho, hc⟩ := isi_tup I hs; exact IsiPair.tuple_str ho hc (fin _)
    · obtain ⟨o, ho, hc⟩ := isi_lst I hs; exact IsiPair.list_str ho hc (fin _)
  | _ => exact False.elim hk
end
theorem bt_str : bootBuiltins "str" = some (.type "str") := by decide +kernel
section
variable {X : Cx} {x : Str} {ps : List Str} {k j : Nat} {sp : Sp} {p pos : Pos}
theorem pe_callF0 (F : Fn X.prog X.w X.K X.mg X.base x ps k sp) (hr : Room j X.A) (hk : k ≤ j) (hg : Gl X x := by rfl) (hdb : (x == ("__debug__" : Str)) = false := by decide) : PE X (.Call (.Name x p) [] [] pos) (tCall sp [] E0 tNil) := by
  obtain ⟨f, fd, G, b, kp, m⟩ := F.ex
  exact pe_call0 G (hr.mono hk) hg m kp b .nil pass0 hdb
end
theorem in_strs (l : List Str) (b : Str) : inV (.str b) (l.map V.str) = l.contains b := by
  unfold inV
  induction l with
  | nil => rfl
  | cons a r ih =>
    rw [List.map_cons, List.any_cons, ih, List.contains_cons]
    show ((a == b) || _) = ((b == a) || _)
    rw [show (a == b) = (b == a) from by rw [Bool.eq_iff_iff]; simp; exact eq_comm]
theorem flat_strs (l : List Str) : (l.map V.str).all flatV = true := by
  rw [List.all_map]; exact List.all_eq_true.mpr fun _ _ => rfl
end L2
set_option Elab.async false
set_option linter.all false
set_option maxRecDepth 100000
set_option maxHeartbeats 600000
namespace Hs
open PySem L2
def But (b : Addr) (H H' : Hp) : Prop := ∀ c o, c ≠ b → H c = some o → H' c = some o
theorem But.refl (b : Addr) (H : Hp) : But b H H := fun _ _ _ h => h
theorem But.put {b p : Addr} {H H' : Hp} {o : HO} (h : But b H H') (hp : p = b ∨ H p = none) : But b H (upd H' p o) := fun c u hc q => by
  rw [upd_ne (fun z => by
    rcases hp with e | e
    · exact hc (z.trans e)
    · rw [z, e] at q; cases q)]
  exact h c u hc q
theorem But.free {b p : Addr} {H H' : Hp} (h : But b H H') (hp : H' p = none) : p = b ∨ H p = none := by
  by_cases e : p = b
  · exact .inl e
  · right
    cases q : H p with
    | none => rfl
    | some u => rw [h p u e q] at hp; cases hp
theorem But.new {b p : Addr} {H H' : Hp} {o : HO} (h : But b H H') (hp : H' p = none) : But b H (upd H' p o) := h.put (h.free hp)
theorem But.newN {b p : Addr} {H H' : Hp} (h : But b H H') (hp : H' p = none) (hb : H b ≠ none) (hne : p ≠ b) : H p = none := (h.free hp).resolve_left hne
theorem But.one {b : Addr} {H H' H2 : Hp} (h : But b H H') (o : Only1 b H' H2) : But b H H2 := fun c u hc q => (o c hc).trans (h c u hc q)
theorem up {H : Hp} {p a : Addr} {o u : HO} (hp : H p = none) (h : H a = some u) : upd H p o a = some u := by rw [upd_ne (ne_of_none h hp)]; exact h
theorem cut_drop (xs : List V) (i : Int) (h0 : 0 ≤ i) : cutV xs (some i) none = xs.drop i.toNat := by
  obtain ⟨j, rfl⟩ : ∃ j : Nat, i = (j : Int) := ⟨i.toNat, by omega⟩
  unfold cutV
  rw [HT.sIx_none, HT.sIx_nat, Int.toNat_natCast]
  by_cases h : j ≤ xs.length
  · rw [Nat.min_eq_left h, List.take_of_length_le (by rw [List.length_drop]; exact Nat.le_refl _)]
  · rw [Nat.min_eq_right (by omega), List.drop_of_length_le (Nat.le_refl _), List.drop_of_length_le (by omega)]; simp
section
variable {P : Program} {w : World} {K : PySem.W.Frag} {mg : Str → Option Value} {base : Heap} {f : Addr} {fd : FuncData}
def spWhole (K : PySem.W.Frag) : Sp := fun vs H Q _ => ∃ (x : V) (k : Kd), vs = [x] ∧ KindV K H x k ∧ Q (.bl (decide (k = .int))) H
theorem scWhole : FnScope ["thing"] ["thing"] (defScope sWhole) := ⟨rfl, rfl, rfl, by decide +kernel, rfl, by decide +kernel, by decide +kernel⟩
theorem ok_whole (B : Bi mg) (F : Fun K "is_whole" "is_whole" sWhole f fd) : FnOk P w K mg base CX0 1 f fd ["thing"] (spWhole K) := by
  refine F.ok scWhole (fun vs H Q E h => ?_) (fun cdv A outer s H vs Q E hr h => ?_)
  · obtain ⟨x, k, rfl, _⟩ := h; rfl
  obtain ⟨x, k, rfl, hk, q⟩ := h
  refine ⟨_, (pss_one (ps_ret (pe_and (pe_callB call_isi_int rfl B.isinstance_ bt_isinstance (pa_cons (pv 0) (pa_cons (pe_ty rfl B.int_ bt_int) pa_nil))) (pe_one (pe_not (pe_callB call_isi_bool rfl B.isinstance_ bt_isinstance (pa_cons (pv 0) (pa_cons (pe_ty rfl B.bool_ bt_bool) pa_nil)))))))), ?_⟩
  refine ⟨_, rfl, x, k, rfl, hk, _, rfl, ite2 (fun c => ?_) (fun c => ?_)⟩
  · refine ⟨_, rfl, x, k, rfl, hk, _, rfl, ?_⟩
    have e : (!isiT k .bool) = decide (k = .int) := by cases k <;> first | rfl | cases c
    rw [e]; exact q
  · have e : false = decide (k = .int) := by cases k <;> first | rfl | exact absurd rfl c
    rw [e]; exact q
end
end Hs
set_option Elab.async false
set_option maxRecDepth 20000
namespace Hs
open PySem PySem.Spec PyProof.Rows L2
structure Exo (h : Heap) (e : Addr) (cls : Value) (od : Option Addr) (vs : Array Value) : Prop where
  here : ∃ sl, h.get? e = some ⟨cls, od, .fields vs, sl⟩
  ctx : vs[2]? = some .none
def Tra (h : Heap) (e : Addr) (vs : Array Value) : Prop :=
  vs[1]? = some .none ∨ ∃ T oT ts, vs[1]? = some (.ref T) ∧ T ≠ e ∧ h.get? T = some oT ∧ oT.data = .fields ts ∧ ts[3]? = some .none
theorem arr_same {a : Array Value} {i : Nat} {x : Value} (e : a[i]? = some x) : a.setIfInBounds i x = a := by
  apply Array.ext_getElem?
  intro j
  rw [Array.getElem?_setIfInBounds]
  split
  · rename_i hij; subst hij
    rw [e]
    obtain ⟨hl, _⟩ := Array.getElem?_eq_some_iff.mp e
    simp [hl]
  · rfl
theorem obj_same {o : Obj} {ts : Array Value} {i : Nat} {x : Value} (d : o.data = .fields ts) (e : ts[i]? = some x) : o.mapFields (·.setIfInBounds i x) = o := by
  obtain ⟨c, dd, dt, sl⟩ := o
  have d : dt = .fields ts := d
  subst d
  show (⟨c, dd, .fields (ts.setIfInBounds i x), sl⟩ : Obj) = _
  rw [arr_same e]
theorem hupd_same {h : Heap} {T : Addr} {o : Obj} {f : Obj → Obj} (e : h.get? T = some o) (hf : f o = o) (b : Addr) : (h.update T f).get? b = h.get? b := by
  by_cases q : b = T
  · subst q
    rw [Heap.get?_update_self f e (by rw [hf]; exact (Heap.get?_some_iff.mp e).2), hf, e]
  · exact Heap.get?_update_other _ _ (Ne.symm q)
structure Noted (fs : List Addr) (e : Addr) (cls : Value) (od : Option Addr) (h h' : Heap) : Prop where
  keep : ∀ b o, b ≠ e → b ∉ fs → h.get? b = some o → h'.get? b = some o
  slot : ∀ b o, b ∈ fs → h.get? b = some o → ∃ sl, h'.get? b = some { o with slots := sl }
  exo : ∃ vs, Exo h' e cls od vs ∧ Tra h' e vs
section
variable {M : Model} {A : Around} {E : Value → Shared → Prop} {s : Shared}
theorem land_same {e : Addr} {cls : Value} {od : Option Addr} {vs : Array Value} {Q : Unit → Shared → Prop} (x : Exo s.heap e cls od vs) (t : Tra s.heap e vs)
    (h : ∀ h', (∀ b, h'.get? b = s.heap.get? b) → Q () { s with heap := h' }) : wpAny M A (setFlight (.ref e) none) Q E s := by
  obtain ⟨⟨sl, he⟩, hc⟩ := x
  unfold setFlight
  rcases t with h1 | ⟨T, oT, ts, h1, hTe, hT, hdT, h3⟩
  · refine wpAny_bind (wpAny_field he rfl h1 ?_)
    rw [if_neg (by decide)]
    exact wpAny_pure (h s.heap fun _ => rfl)
  · refine wpAny_bind (wpAny_field he rfl h1 ?_)
    rw [if_pos (show (Value.ref T != Value.none) = true from by simp)]
    exact wpAny_setField hT hdT (Array.getElem?_eq_some_iff.mp h3).1 (h _ fun b => hupd_same hT (obj_same hdT h3) b)
theorem entry_land {base : Heap} {env : Env} {outer : List Env} {L e : Addr} {cls head : Value} {od : Option Addr} {vs : Array Value} {hn : Bool} {Q : Unit → Shared → Prop}
    (hfr : A.frames = some (env :: outer)) (hl : s.heap.FunFrames base (env :: outer)) (hf : env.frame = some L) (x : Exo s.heap e cls od vs)
    (h : ∀ h', Noted (frs (env :: outer)) e cls od s.heap h' → Q () { s with heap := h' }) :
    wpAny M A (do let a ← frameOf env; let pl ← entryPlaceOf L hn; let b ← EntryCells.newEntry head a .none (rawInt L) .none pl; setField (.ref e) 1 b)
      (fun _ s' => wpAny M A (setFlight (.ref e) none) Q E s') E s := by
  obtain ⟨⟨sl, he⟩, hc⟩ := x
  have hsz : 2 < vs.size := (Array.getElem?_eq_some_iff.mp hc).1
  have nfr : e ∉ frs (env :: outer) := fun hm => by
    obtain ⟨_, o, ho, hnf⟩ := hl.mem hm
    rw [he] at ho; cases ho
    exact hnf vs rfl
  refine wpAny_bind (wpAny_frameOf_fun hfr hl hf fun g hg => ?_)
  refine wpAny_bind (wpAny_entryPlaceOf fun pl hpl => ?_)
  unfold EntryCells.newEntry newFields
  refine wpAny_bind (wpAny_newObj_type ?_ (hpl.sizeOk5 _ _ _ _ _))
  generalize hnt : ([head, .ref L, .none, rawInt L, .none] ++ (if pl.isEmpty then List.replicate 6 Value.none else pl)).toArray = nt
  have nt3 : 3 < nt.size := by rw [← hnt]; simp only [List.size_toArray, List.length_append, List.length_cons, List.length_nil] <;> omega
  have g1 : g.get? e = some ⟨cls, od, .fields vs, sl⟩ := (hg.2.1 e nfr).trans he
  have g2 := Heap.get?_push_of_some (h := g) { cls := .type "traceback", dict := none, data := .fields nt } g1
  refine wpAny_setField g2 rfl (Nat.lt_of_succ_lt hsz) ?_
  have ne : g.objs.size ≠ e := Nat.ne_of_gt (Heap.lt_size g1)
  have g3 := Heap.get?_update_self (Obj.mapFields (·.setIfInBounds 1 (Value.ref g.objs.size))) g2 rfl
  have t3 := (Heap.get?_update_other (g.push { cls := .type "traceback", dict := none, data := .fields nt }) (Obj.mapFields (·.setIfInBounds 1 (Value.ref g.objs.size))) (Ne.symm ne)).trans (Heap.get?_push_size g rfl)
  unfold setFlight
  have v1 : (vs.setIfInBounds 1 (Value.ref g.objs.size))[1]? = some (.ref g.objs.size) := by
    have z : 1 < vs.size := by omega
    simp [z]
  refine wpAny_bind (wpAny_field (i := 1) g3 (vs := vs.setIfInBounds 1 (.ref g.objs.size)) rfl v1 ?_)
  rw [if_pos (show (Value.ref g.objs.size != Value.none) = true from by simp)]
  refine wpAny_setField t3 rfl nt3 (h _ ?_)
  have same : ∀ b o, b ≠ e → g.get? b = some o → ((((g.push { cls := .type "traceback", dict := none, data := .fields nt }).update e (Obj.mapFields (·.setIfInBounds 1 (Value.ref g.objs.size)))).update g.objs.size (Obj.mapFields (·.setIfInBounds 3 ((none : Option Addr).elim Value.none fun f => rawInt f))))).get? b = some o := fun b o hb q => by
    rw [Heap.get?_update_other _ _ (Nat.ne_of_gt (Heap.lt_size q)), Heap.get?_update_other _ _ (Ne.symm hb)]
    exact Heap.get?_push_of_some _ q
  refine ⟨fun b o h1 h2 q => same b o h1 ((hg.2.1 b h2).trans q), fun b o h1 q => ?_, vs.setIfInBounds 1 (.ref g.objs.size), ⟨⟨sl, ?_⟩, ?_⟩, .inr ⟨g.objs.size, _, nt.setIfInBounds 3 .none, ?_, ne, Heap.get?_update_self _ t3 rfl, rfl, ?_⟩⟩
  · obtain ⟨z, hz⟩ := hg.2.2 b o q
    exact ⟨z, same b _ (fun k => nfr (k ▸ h1)) hz⟩
  · rw [Heap.get?_update_other _ _ ne]; exact g3
  · rw [Array.getElem?_setIfInBounds_ne (by decide)]; exact hc
  · exact v1
  · simp [nt3]
theorem note_land {base : Heap} {env : Env} {outer : List Env} {L e : Addr} {cls : Value} {od : Option Addr} {vs : Array Value} {Q : Unit → Shared → Prop}
    (hfr : A.frames = some (env :: outer)) (hl : s.heap.FunFrames base (env :: outer)) (hf : env.frame = some L) (x : Exo s.heap e cls od vs) (t : Tra s.heap e vs)
    (h : ∀ h', Noted (frs (env :: outer)) e cls od s.heap h' → Q () { s with heap := h' }) :
    wpAny M A (noteFrame (.ref e) env) (fun _ s' => wpAny M A (setFlight (.ref e) none) Q E s') E s := by
  obtain ⟨⟨sl, he⟩, hc⟩ := x
  unfold noteFrame
  simp only [hf]
  rcases t with h1 | ⟨T, oT, ts, h1, hTe, hT, hdT, h3⟩
  · refine wpAny_bind (wpAny_field he rfl h1 ?_)
    rw [if_neg (by decide)]
    exact entry_land hfr hl hf ⟨⟨sl, he⟩, hc⟩ h
  · refine wpAny_bind (wpAny_field he rfl h1 ?_)
    rw [if_pos (show (Value.ref T != Value.none) = true from by simp)]
    refine wpAny_bind (wpAny_field hT hdT h3 ?_)
    rw [if_neg (show ¬ ((Value.none == rawInt L) = true) from by simp [rawInt])]
    refine wpAny_bind (wpAny_setField hT hdT (Array.getElem?_eq_some_iff.mp h3).1 ?_)
    have sm := fun b => hupd_same hT (f := Obj.mapFields (·.setIfInBounds 3 Value.none)) (obj_same hdT h3) b
    refine entry_land (s := { s with heap := s.heap.update T (Obj.mapFields (·.setIfInBounds 3 Value.none)) }) hfr (hl.of_keeps fun b o q _ => ⟨o, (sm b).trans q, rfl⟩) hf ⟨⟨sl, (sm e).trans he⟩, hc⟩ fun h' n => ?_
    exact h h' ⟨fun b o h1 h2 q => n.keep b o h1 h2 ((sm b).trans q), fun b o h1 q => n.slot b o h1 ((sm b).trans q), n.exo⟩
theorem leave_land {base : Heap} {env : Env} {outer : List Env} {L e : Addr} {cls : Value} {od : Option Addr} {vs : Array Value} {Q : Unit → Shared → Prop}
    (hfr : A.frames = some (env :: outer)) (hl : s.heap.FunFrames base (env :: outer)) (hf : env.frame = some L) (x : Exo s.heap e cls od vs) (t : Tra s.heap e vs)
    (h : ∀ h', Noted (frs (env :: outer)) e cls od s.heap h' → Q () { s with heap := h' }) : wpAny M A (leaving env (.ref e)) Q E s := by
  unfold leaving
  exact wpAny_bind (note_land hfr hl hf x t h)
end
end Hs
set_option Elab.async false
set_option linter.all false
set_option maxRecDepth 100000
namespace Hs
open PySem PySem.Spec PyProof.Rows L2
def CXf (P : Program) (w : World) : CXT := fun outer H s E ev s' => ∃ e cls od H' vs, ev = .ref e ∧ s'.os = s.os ∧ AllBare s'.gens ∧ Un (frs outer) [] H H' s.heap s'.heap ∧ HOk P w H' s'.heap ∧
  s.heap.get? e = none ∧ H' e = none ∧ Exo s'.heap e cls od vs ∧ Tra s'.heap e vs ∧ E cls od H'
section
variable {X : Cx} {pins : List (Addr × Obj)} {σ : L2.St} {H H' : Hp} {s s' : Shared} {e : Addr} {cls : Value} {od : Option Addr}
structure Off (X : Cx) (pins : List (Addr × Obj)) (H : Hp) (e : Addr) : Prop where
  free : H e = none
  loc : e ≠ X.env.locals
  old : X.s_0.heap.get? e = none
  cell : ∀ x c, X.env.cells.lookup x = some c → c ≠ e
  pin : ∀ p ∈ X.pn ++ pins, p.1 ≠ e
theorem off_of (I : Inv X pins σ H s) (hx : X.ex = []) (n : s.heap.get? e = none) (hn : H' e = none) : Off X pins H' e := by
  refine ⟨hn, fun z => ?_, ?_, fun x c q z => ?_, fun p hp z => ?_⟩
  · obtain ⟨m, ⟨o, _, _, ho, _⟩, _⟩ := I.loc
    rw [← z, n] at ho; cases ho
  · cases q : X.s_0.heap.get? e with
    | none => rfl
    | some o =>
      obtain ⟨o', z⟩ := I.base.there e o q (by rw [hx]; simp)
      rw [n] at z; cases z
  · obtain ⟨v, o, ho, _⟩ := I.cell x c q
    rw [z, n] at ho; cases ho
  · have := (I.pin p hp).1
    rw [z, n] at this; cases this
theorem noted_inv {h' : Heap} (J : Inv X pins σ H s) (f : Off X pins H e) (n : Noted (frs X.stack) e cls od s.heap h') : Inv X pins σ H { s with heap := h' } := by
  have sne : ∀ b u, H b = some u → b ≠ e := fun b u q z => by rw [z, f.free] at q; cases q
  have snf : ∀ b u, H b = some u → b ∉ frs X.stack := fun b u q z => by rw [J.stkFree b z] at q; cases q
  have any : ∀ b o, b ≠ e → s.heap.get? b = some o → ∃ sl, h'.get? b = some { o with slots := sl } := fun b o hb q => by
    by_cases hf : b ∈ frs X.stack
    · exact n.slot b o hf q
    · exact ⟨o.slots, n.keep b o hb hf q⟩
  have cel : ∀ c v, c ≠ e → s.heap.IsCell c v → Heap.IsCell h' c v := fun c v hc ⟨o, ho, hd⟩ => by
    obtain ⟨sl, z⟩ := any c o hc ho
    exact ⟨_, z, hd⟩
  have old : ∀ b o, X.s_0.heap.get? b = some o → b ≠ e := fun b o q z => by rw [z, f.old] at q; cases q
  refine ⟨J.ok, J.os, J.bare, ⟨fun b o q z hb hx => ?_, fun b o q z hb hx => ?_, J.base.free, fun b o q hx => ?_, J.base.tups, J.base.frzs, J.base.tbls⟩, ?_, fun x c q => ?_, J.free, J.freeC, fun p hp => ?_, fun a o q => ?_, J.len⟩
  · refine n.keep b o (old b o q) (fun w => ?_) (J.base.keep b o q z hb hx)
    rcases List.mem_cons.mp (J.stkSub b w) with w | w
    · have h1 := Heap.lt_size q
      rw [w] at h1
      exact absurd (Nat.lt_of_lt_of_le h1 J.ok.above) (Nat.lt_irrefl _)
    · exact hb w
  · obtain ⟨sl, w⟩ := J.base.slot b o q z hb hx
    obtain ⟨sl', w'⟩ := any b _ (old b o q) w
    exact ⟨sl', w'⟩
  · obtain ⟨o', w⟩ := J.base.there b o q hx
    obtain ⟨sl', w'⟩ := any b _ (old b o q) w
    exact ⟨_, w'⟩
  · obtain ⟨m, ⟨o, es, ep, ho, hd, r⟩, hl⟩ := J.loc
    obtain ⟨sl, z⟩ := any _ o (Ne.symm f.loc) ho
    refine ⟨m, ⟨_, es, ep, z, hd, r⟩, fun i x v h1 h2 h3 => ?_⟩
    obtain ⟨u, ru, lk⟩ := hl i x v h1 h2 h3
    refine ⟨u, ru, ?_⟩
    rcases lk with lk | ⟨k, c, hc, ic⟩
    · exact .inl lk
    · exact .inr ⟨k, c, hc, cel c _ (f.cell x c hc) ic⟩
  · obtain ⟨v, ic⟩ := J.cell x c q
    exact ⟨v, cel c v (f.cell x c q) ic⟩
  · obtain ⟨p1, p2, p3, p4, p5⟩ := J.pin p hp
    refine ⟨n.keep _ _ (f.pin p hp) (fun w => ?_) p1, p2, p3, p4, p5⟩
    rcases List.mem_cons.mp (J.stkSub _ w) with w | w
    · exact p3 w
    · exact p4 w
  · refine (J.hok a o q).stay (fun b u hb r => ?_) (fun _ z => z) fun _ _ z => z
    rcases hb with rfl | hb
    · exact n.keep b u (sne b _ q) (snf b _ q) r
    · exact n.keep b u (sne b _ hb) (snf b _ hb) r
theorem cxf_inv {E : XK} {ev : Value} (I : Inv X pins σ H s) (hx : X.ex = []) (c : CXf X.prog X.w X.stack H s E ev s') :
    ∃ e cls od H' vs, ev = .ref e ∧ Inv X pins σ H' s' ∧ Off X pins H' e ∧ Exo s'.heap e cls od vs ∧ Tra s'.heap e vs ∧ E cls od H' := by
  obtain ⟨e, cls, od, H', vs, rfl, os, bare, un, hok, hlo, hn, x, t, q⟩ := c
  exact ⟨e, cls, od, H', vs, rfl, I.call' (ch := []) os un hok bare (fun b hb => absurd hb (by simp)), off_of I hx hlo hn, x, t, q⟩
def Good (X : Cx) (E : L2.St → XK) : Prop := ∀ (pins : List (Addr × Obj)) (σ : L2.St) (H : Hp) (s : Shared) (ev : Value) (s' : Shared), Inv X pins σ H s → CXf X.prog X.w X.stack H s (E σ) ev s' → X.xe ev s'
end
theorem good_fn {P : Program} {w : World} {K : PySem.W.Frag} {mg : Str → Option Value} {base : Heap} {N : List Str} {qual : Str} {scope : Scope} {f : Addr} {cd : Value} {A : Around} {outer : List Env} {s : Shared} {H : Hp} {E : XK} :
    Good (cxOf (CXf P w) P w K mg base N qual scope f cd A outer s H E) (fun _ => E) := by
  intro pins σ H1 s1 ev s2 I c
  obtain ⟨e, cls, od, H', vs, rfl, J, fp, x, t, q⟩ := cxf_inv I rfl c
  show wpAny _ _ (leaving _ (.ref e)) _ _ s2
  refine leave_land (base := base) J.ok.frames J.stack rfl x t fun h' n => ?_
  have J' := noted_inv J fp n
  obtain ⟨vs', x', t'⟩ := n.exo
  exact ⟨e, cls, od, H', vs', rfl, J'.os, J'.bare, J'.base, J'.hok, fp.old, fp.free, x', t', q⟩
structure FnX (P : Program) (w : World) (K : PySem.W.Frag) (mg : Str → Option Value) (base : Heap) (x : Str) (ps : List Str) (k : Nat) (sp : Sp) : Prop where
  ex : ∃ f fd, FnOk P w K mg base (CXf P w) k f fd ps sp ∧ Binds K fd ps [] ∧ PySem.W.keepIn K (.ref f) = true ∧ mg x = some (.ref f)
section
variable {X : Cx} {x : Str} {ps : List Str} {k j : Nat} {sp : Sp} {e : Expr} {es : List Expr} {t : TA} {p pos : Pos} {E : L2.St → XK}
def tCallX (sp : Sp) (E : L2.St → XK) (t : TA) : TE := fun σ H Q => t σ H fun vs H1 => sp vs H1 Q (E σ)
theorem pe_callX (F : FnX X.prog X.w X.K X.mg X.base x ps k sp) (hr : Room j X.A) (hk : k ≤ j) (G : Good X E) (ha : PA X (e :: es) t) (hg : Gl X x := by rfl) (hdb : (x == ("__debug__" : Str)) = false := by decide)
    (he : starEach (e :: es) X.env = (false, eval e X.env) :: starEach es X.env := by rfl) (hpl : (backTo pos (starEach es X.env)).any (·.1) = false := by rfl) : PE X (.Call (.Name x p) (e :: es) [] pos) (tCallX sp E t) := by
  obtain ⟨f, fd, FO, b, kp, m⟩ := F.ex
  intro pins s σ H Q I h
  refine wpAny_Call_Name_kw (ld_glob I hg m ?_ hdb)
  refine PySem.W.callWith_K (h₀ := X.base) I.ok.mod.kin kp (thn (ha pos pins s σ H _ I h) fun us s1 ⟨vs, H1, I1, r, q⟩ => ⟨I1.kIn, ?_⟩) he hpl
  have hl : us.length = ps.length := by rw [← r.length]; exact FO.len _ _ _ _ q
  have hb := b s1 us I1.kIn (by rw [List.append_nil]; exact hl)
  rw [List.append_nil] at hb
  refine wpAny_call (codeAny_mono (FO.run X.A X.stack s1 H1 ⟨us, []⟩ us vs Q (E σ) (hr.mono hk) I1.env0 hb r q) fun r s' hq => ?_)
  cases r with
  | error e => exact G pins σ H1 s1 e s' I1 hq
  | ok fl =>
    cases fl with
    | ret u => exact I1.after hq
    | next => exact False.elim hq
    | brk => exact False.elim hq
    | cont => exact False.elim hq
end
theorem FunX.ok {P : Program} {w : World} {K : PySem.W.Frag} {mg : Str → Option Value} {base : Heap} {x qual : Str} {st : Stmt} {f : Addr} {fd : FuncData} {N ps : List Str} {k : Nat} {sp : Sp} (F : Fun K x qual st f fd) (S : FnScope N ps (defScope st)) (len : ∀ vs H Q E, sp vs H Q E → vs.length = ps.length)
    (hbody : ∀ (cdv : Value) (A : Around) (outer : List Env) (s : Shared) (H : Hp) (vs : List V) (Q : VK) (E : XK), Room k (A.deeper (envOfC qual (defScope st) s.heap.objs.size f cdv)) → sp vs H Q E →
      Good (cxOf (CXf P w) P w K mg base N qual (defScope st) f cdv A outer s H E) (fun _ => E) →
      ∃ t, PSs (cxOf (CXf P w) P w K mg base N qual (defScope st) f cdv A outer s H E) (defBody st) t ∧ t { nx := fun _ H' => Q .non H', rt := Q } (start N vs) H) : FnOk P w K mg base (CXf P w) (k + 1) f fd ps sp := by
  obtain ⟨oc, od, kV, doc, pm, an, cdv, ct, osl, rfl, lk, hcd⟩ := F.ex
  exact L2.fn_of lk hcd S len fun A outer s H vs Q E hr hsp => hbody cdv A outer s H vs Q E hr hsp good_fn
end Hs
set_option Elab.async false
set_option linter.all false
set_option maxRecDepth 100000
namespace L2
open PySem PySem.Spec PyProof.Rows
section
variable {X : Cx}
theorem line_of {n m k : Nat} (h : n + m ≤ 100) (e : k ≤ n * 2000) : k ≤ sizeLine := by
  rw [sizeLine_eq]; omega
end
end L2
namespace Hs
open PySem PySem.Spec PyProof.Rows L2
theorem objOk_there {P : Program} {w : World} {H : Hp} {h : Heap} {a : Addr} {o : HO} (x : ObjOk P w H h a o) (n : h.get? a = none) : False := by
  cases o with
  | lst xs => obtain ⟨_, _, _, _, e⟩ := x; rw [n] at e; cases e
  | tup xs => obtain ⟨_, _, _, _, e, _⟩ := x; rw [n] at e; cases e
  | dK kvs => obtain ⟨_, _, _, _, o, _, _, e, _⟩ := x; rw [n] at e; cases e
  | dT kvs => obtain ⟨_, _, _, _, o, _, _, e, _⟩ := x; rw [n] at e; cases e
  | set S k => obtain ⟨o, _, _, _, e, _⟩ := x; rw [n] at e; cases e
  | ins C dx fs => obtain ⟨_, _, _, e, _⟩ := x; rw [n] at e; cases e
  | own y => obtain ⟨_, e⟩ := x; rw [n] at e; cases e
  | xd fs => obtain ⟨_, ⟨_, _, _, e, _⟩, _⟩ := x; rw [n] at e; cases e
  | rng lo hi => obtain ⟨_, _, _, e⟩ := x; rw [n] at e; cases e
  | frz ob u => obtain ⟨e, _⟩ := x; rw [n] at e; cases e
  | tbl ps => have e : h.get? a = some _ := x; rw [n] at e; cases e
  | met f y => have e : h.get? a = some _ := x; rw [n] at e; cases e
  | ext φ => obtain ⟨_, ⟨_, e⟩, _⟩ := x; rw [n] at e; cases e
abbrev vbm : List Value := [.type "ValueError", .type "Exception", .type "BaseException", .type "object"]
abbrev OwnE (K : PySem.W.Frag) (C : Addr) : Prop := PySem.W.excIn K C vbm "ValueError.__new__" = true
theorem own_obj {K : PySem.W.Frag} {h : Heap} {C : Addr} {x : Str} {mg : Str → Option Value} (kin : K.In h) (own : OwnE K C) (m : mg x = some (.ref C)) : OwnCls x C vbm "ValueError.__new__" mg h := by
  constructor
  · exact m
  have own : PySem.W.excIn K C vbm "ValueError.__new__" = true := own
  unfold PySem.W.excIn at own
  split at own
  next dct cdt slt look =>
    split at own
    next C2 tl s0 s1 s2 s3 nw s5 mroEq slEq =>
      rw [Bool.and_eq_true, Bool.and_eq_true, Bool.and_eq_true, Bool.and_eq_true, Bool.and_eq_true] at own
      obtain ⟨⟨⟨⟨⟨e1, e2⟩, e3⟩, e4⟩, e5⟩, e6⟩ := own
      have e1 : C2 = C := beq_iff_eq.mp e1
      have e2 : nw = "ValueError.__new__" := beq_iff_eq.mp e2
      have e6 := beq_iff_eq.mp e6
      subst e1 e2
      obtain ⟨nm, bs, mro, ns, qn, hdd, sn, sub, ab, col, del⟩ := cdt
      have e3 : del = false := by simpa using e3
      have mroEq : mro = .ref C2 :: tl := mroEq
      subst e3 mroEq
      obtain rfl : slt = #[s0, s1, s2, s3, some (.builtin "ValueError.__new__"), s5] := by
        cases slt with
        | mk l => exact congrArg Array.mk slEq
      exact ⟨tl, ns, nm, qn, bs, hdd, sn, sub, ab, col, dct, s0, s1, s2, s3, s5, _, kin _ _ look, .of_isNs (PySem.W.isNs_of_in kin e5), PySem.W.nsMap_none_of_in kin e5 e6, PySem.W.tail_of_in kin e4⟩
    next => cases own
  next => cases own
section
variable {X : Cx} {E : L2.St → XK} {C : Addr} {x : Str} {np cpos pos : Pos} {a : Expr} {as : List Expr} {t : TA}
def tRaise (C : Addr) (E : L2.St → XK) (t : TA) : TS := fun _ σ H => t σ H fun vs H1 => vs.length ≤ 100 ∧ E σ (.ref C) none H1
theorem ps_raise (hc : X.calm = true) (own : OwnE X.K C) (hm : X.mg x = some (.ref C)) (G : Good X E) (ha : PA X (a :: as) t) (hg : Gl X x := by rfl) (hdb : (x == ("__debug__" : Str)) = false := by decide)
    (he : starEach (a :: as) X.env = (false, eval a X.env) :: starEach as X.env := by rfl) (hpl : (backTo cpos (starEach as X.env)).any (·.1) = false := by rfl) : PS X (.Raise (some (.Call (.Name x np) (a :: as) [] cpos)) none pos) (tRaise C E t) := by
  intro pins s σ H D I h
  have O := own_obj I.ok.mod.kin own hm
  obtain ⟨tl, N, nm, q, bs, hdct, sn, sub, ab, col, dd, k0, k1, k2, k3, k5, mN, hC, hN, hni, T⟩ := O.obj
  refine wpAny_Raise_call_subT (nm := nm) (q := q) (C := C) (N := N) (bs := bs) (bm := tl)
    (hdct := hdct) (sn := sn) (sub := sub) (ab := ab) (col := col)
    (dd := dd) (k0 := k0) (k1 := k1) (k2 := k2) (k3 := k3) (k5 := k5) PySem.F.excBase_ValueError (mN := mN) (T.hasType PySem.F.excBase_ValueError.hasBase) (I.ok.hd hc) (by rw [he]; show (false || (backTo cpos (starEach as X.env)).any (·.1)) = false; rw [hpl]; rfl) hni (ld_glob I hg hm ⟨rfl, ?_⟩ hdb)
  have hp := ha cpos pins s σ H _ I h
  rw [he] at hp ⊢
  refine Calls.evalArgs_plain (thn hp fun us s2 ⟨vs, H1, I1, r, hz, q⟩ => ⟨rfl, ?_, I1.bk _ _ hC, hN.keeps I1.bk, T.keeps I1.bk, fun h' e hm => ?_⟩)
  · show us.length ≤ sizeLine
    rw [← r.length, sizeLine_eq]; omega
  · obtain ⟨tt, het, htn, _⟩ := hm.there
    have hn : H1 e = none := by
      cases z : H1 e with
      | none => rfl
      | some u =>
        have lt := (I1.hok e u z)
        exact absurd hm.new (by
          intro w
          exact objOk_there lt w)
    exact G pins σ H1 s2 _ _ I1 ⟨e, .ref C, none, H1, _, rfl, rfl, I1.bare, Un.kept hm.keeps, I1.hok.kept hm.keeps, hm.new, hn, ⟨⟨_, het⟩, rfl⟩, .inl rfl, q⟩
end
end Hs
set_option Elab.async false
set_option linter.all false
set_option maxRecDepth 100000
namespace Hs
open PySem PySem.Spec PyProof.Rows L2
def Rec (oe : Obj) (cls : Value) (od : Option Addr) : Prop := ∃ vs sl, oe = ⟨cls, od, .fields vs, sl⟩ ∧ vs[2]? = some .none
abbrev hdl (X : Cx) (e : Addr) (oe : Obj) : Cx := { X with A := X.A.mark (some (.ref e)), calm := false, pn := X.pn ++ [(e, oe)], xe := fun _ _ => False }
abbrev inTry (X : Cx) (pn : List (Addr × Obj)) (xe : Value → Shared → Prop) : Cx := { X with pn := pn, xe := xe }
section
variable {X : Cx} {pins : List (Addr × Obj)} {σ : L2.St} {H : Hp} {s : Shared} {e : Addr} {oe : Obj} {cls : Value} {od : Option Addr}
theorem inv_try (I : L2.Inv X pins σ H s) (xe : Value → Shared → Prop) : L2.Inv (inTry X (X.pn ++ pins) xe) [] σ H s :=
  ⟨⟨I.ok.mod, I.ok.kind, I.ok.glob, I.ok.blt, I.ok.above, I.ok.inj, I.ok.has, I.ok.cab, I.ok.hd, I.ok.frames, I.ok.stk, I.ok.exf, I.ok.bs, I.ok.bsz, I.ok.noex, I.ok.exfs, I.ok.funs, I.ok.frf⟩,
    I.os, I.bare, I.base, I.loc, I.cell, I.free, I.freeC, fun p hp => I.pin p (by simpa using hp), I.hok, I.len⟩
theorem inv_untry {pins1 : List (Addr × Obj)} {xe : Value → Shared → Prop} (I : L2.Inv (inTry X (X.pn ++ pins) xe) pins1 σ H s) : L2.Inv X pins σ H s :=
  ⟨⟨I.ok.mod, I.ok.kind, I.ok.glob, I.ok.blt, I.ok.above, I.ok.inj, I.ok.has, I.ok.cab, I.ok.hd, I.ok.frames, I.ok.stk, I.ok.exf, I.ok.bs, I.ok.bsz, I.ok.noex, I.ok.exfs, I.ok.funs, I.ok.frf⟩,
    I.os, I.bare, I.base, I.loc, I.cell, I.free, I.freeC, fun p hp => I.pin p (List.mem_append_left _ hp), I.hok, I.len⟩
theorem inv_hdl (I : L2.Inv X pins σ H s) (f : Off X pins H e) (he : s.heap.get? e = some oe) (hd : ∃ vs, oe.data = .fields vs) : L2.Inv (hdl X e oe) pins σ H s := by
  refine ⟨⟨I.ok.mod, I.ok.kind, I.ok.glob, I.ok.blt, I.ok.above, I.ok.inj, I.ok.has, I.ok.cab, fun z => (Bool.false_ne_true z).elim, I.ok.frames, I.ok.stk, I.ok.exf, I.ok.bs, I.ok.bsz, I.ok.noex, I.ok.exfs, I.ok.funs, I.ok.frf⟩,
    I.os, I.bare, I.base, I.loc, I.cell, I.free, I.freeC, fun p hp => ?_, I.hok, I.len⟩
  rcases List.mem_append.mp hp with z | z
  · rcases List.mem_append.mp z with z | z
    · exact I.pin p (List.mem_append_left _ z)
    · have z : p = (e, oe) := by simpa using z
      subst z
      refine ⟨he, f.free, f.loc, fun w => ?_, fun v q => ?_⟩
      · obtain ⟨_, o, ho, _⟩ := I.ok.funs.mem w
        have ho : X.s_0.heap.get? e = some o := ho
        rw [f.old] at ho; cases ho
      · obtain ⟨vs, hd⟩ := hd
        have q : oe.data = .cell v := q
        rw [hd] at q; cases q
  · exact I.pin p (List.mem_append_right _ z)
theorem inv_same {h' : Heap} (I : L2.Inv X pins σ H s) (k : ∀ b, h'.get? b = s.heap.get? b) : L2.Inv X pins σ H { s with heap := h' } :=
  I.call' (s' := { s with heap := h' }) (ch := []) rfl (Un.kept fun b o q => (k b).trans q) (I.hok.kept fun b o q => (k b).trans q) I.bare fun b hb => absurd hb (by simp)
theorem inv_gone {i : Nat} {n : Str} {v : Option Value} {m : Str → Option Value} {h' : Heap} {tk : Nat} (hok : X.Ok) (hpn : ∀ p ∈ X.pn, p ∈ (hdl X e oe).pn) (J : L2.Inv (hdl X e oe) pins σ H s) (hN : X.N.Nodup) (hi : X.N[i]? = some n)
    (hm : ∀ (j : Nat) (x : Str) (v : V), X.N[j]? = some x → σ[j]? = some (some v) → Vis X.env.scope x → ∃ u, RelV v u ∧ Look X.env s.heap m x u)
    (hns : h'.Ns X.env.locals (fun x => if x = n then v else m x)) (sb : Heap.SameBut X.env.locals s.heap h') : L2.Inv X pins (σ.set i none) H { s with heap := h', toks := tk } := by
  have fr : H X.env.locals = none := J.free
  have kp : ∀ b o, b ≠ X.env.locals → s.heap.get? b = some o → h'.get? b = some o := fun b o hb q => (sb.2 b hb).trans q
  have lo : ∀ b o, X.s_0.heap.get? b = some o → b ≠ X.env.locals := fun b o q z => by
    have h1 := Heap.lt_size q
    rw [z] at h1
    exact absurd (Nat.lt_of_lt_of_le h1 J.ok.above) (Nat.lt_irrefl _)
  have cne : ∀ x c, X.env.cells.lookup x = some c → c ≠ X.env.locals := J.cne
  refine ⟨hok, J.os, J.bare, ⟨fun b o q z hb hx => kp b o (lo b o q) (J.base.keep b o q z hb hx), fun b o q z hb hx => ?_, J.base.free, fun b o q hx => ?_, J.base.tups, J.base.frzs, J.base.tbls⟩, ⟨_, hns, fun j x u h1 h2 h3 => ?_⟩, fun x c q => ?_, J.free, J.freeC, fun p hp => ?_, fun a o q => ?_, ?_⟩
  · obtain ⟨sl, w⟩ := J.base.slot b o q z hb hx
    exact ⟨sl, kp b _ (lo b o q) w⟩
  · obtain ⟨o', w⟩ := J.base.there b o q hx
    exact ⟨o', kp b _ (lo b o q) w⟩
  · have hji : j ≠ i := fun z => by
      subst z
      by_cases hl : j < σ.length
      · rw [List.getElem?_set_self hl] at h2; cases h2
      · rw [List.getElem?_eq_none (by simpa using hl)] at h2; cases h2
    rw [List.getElem?_set_ne (Ne.symm hji)] at h2
    obtain ⟨w, r, lk⟩ := hm j x u h1 h2 h3
    have hxn : x ≠ n := fun z => hji (nodup_ix hN h1 (by rw [z]; exact hi))
    refine ⟨w, r, ?_⟩
    rcases lk with ⟨k, q⟩ | ⟨k, c, hc, o, ho, hd⟩
    · exact .inl ⟨k, by show (if x = n then v else m x) = _; rw [if_neg hxn]; exact q⟩
    · exact .inr ⟨k, c, hc, o, kp c o (cne x c hc) ho, hd⟩
  · obtain ⟨w, o, ho, hd⟩ := J.cell x c q
    exact ⟨w, o, kp c o (cne x c q) ho, hd⟩
  · have hp' : p ∈ (hdl X e oe).pn ++ pins := by
      rcases List.mem_append.mp hp with z | z
      · exact List.mem_append_left _ (hpn p z)
      · exact List.mem_append_right _ z
    obtain ⟨p1, p2, p3, p4, p5⟩ := J.pin p hp'
    exact ⟨kp _ _ p3 p1, p2, p3, p4, p5⟩
  · refine (J.hok a o q).stay (fun b u hb r => kp b u (fun z => ?_) r) (fun _ z => z) fun _ _ z => z
    rcases hb with hb | hb
    · rw [z] at hb; rw [← hb, fr] at q; cases q
    · rw [z, fr] at hb; cases hb
  · rw [List.length_set]; exact J.len
end
section
variable {X : Cx} {E : L2.St → XK} {S : Addr} {x n : Str} {np hpos pos : Pos} {b0 : Stmt} {body suite : List Stmt} {tb : TS} {th : Addr → Obj → TS} {i : Nat}
def tTry (E : L2.St → XK) (tb : TS) (th : Addr → Obj → TS) (i : Nat) (ok : Value → Bool) : TS := fun D σ H =>
  tb D σ H ∧ ∀ σ' cls od H', E σ' cls od H' → ok cls = true ∧ ∀ e oe, H' e = none → Rec oe cls od →
    th e oe { nx := fun σ2 H2 => D.nx (σ2.set i none) H2, rt := D.rt, bk := fun σ2 H2 => D.bk (σ2.set i none) H2, ct := fun σ2 H2 => D.ct (σ2.set i none) H2 } (σ'.set i (some (.ref e))) H'
theorem ps_try (hex : X.ex = []) (hst : X.stack = X.env :: X.outer) (hfr : X.env.frame = some X.env.locals) (hN : X.N.Nodup) (hi : X.N[i]? = some n) (hn : X.env.scope.names.lookup n = some .local) (hm : X.mg x = some (.ref S))
    (hb : ∀ pn xe, Good (inTry X pn xe) E → PSs (inTry X pn xe) body tb) (hs : ∀ e oe, PSs (hdl X e oe) (b0 :: suite) (th e oe)) (hg : Gl X x := by rfl) (hdb : (x == ("__debug__" : Str)) = false := by decide) :
    PS X (.Try body [.ExceptHandler (some (.Name x np)) (some n) (b0 :: suite) hpos] [] [] pos) (tTry E tb th i fun c => PySem.W.exmOne X.K c (.ref S) == some true) := by
  intro pins s σ H D I h
  obtain ⟨h1, h2⟩ := h
  refine wpAny_Try_except ?_
  let XE : Value → Shared → Prop := fun ev s1 => ∃ e cls od σ' H' vs, ev = .ref e ∧ L2.Inv X pins σ' H' s1 ∧ Off X pins H' e ∧ Exo s1.heap e cls od vs ∧ Tra s1.heap e vs ∧ E σ' cls od H'
  have G : Good (inTry X (X.pn ++ pins) XE) E := fun pins1 σ1 H1 s1 ev s2 I1 c => by
    obtain ⟨e, cls, od, H', vs, rfl, J, f, x, t, q⟩ := cxf_inv I1 hex c
    exact ⟨e, cls, od, σ1, H', vs, rfl, inv_untry J, ⟨f.free, f.loc, f.old, f.cell, fun p hp => f.pin p (List.mem_append_left _ hp)⟩, x, t, q⟩
  refine wpAny_mono (hb _ XE G [] s σ H D (inv_try I XE) h1) (fun f s1 q => ?_) fun ev s1 q => ?_
  · cases f with
    | next => obtain ⟨σ', H', J, q⟩ := q; exact wpAny_execs_nil ⟨σ', H', inv_untry J, q⟩
    | brk => obtain ⟨σ', H', J, q⟩ := q; exact ⟨σ', H', inv_untry J, q⟩
    | cont => obtain ⟨σ', H', J, q⟩ := q; exact ⟨σ', H', inv_untry J, q⟩
    | ret u => obtain ⟨v, σ', H', J, r, q⟩ := q; exact ⟨v, σ', H', inv_untry J, r, q⟩
  · obtain ⟨e, cls, od, σ', H', vs, rfl, J, f, xo, t, q⟩ := q
    obtain ⟨ok, h2⟩ := h2 σ' cls od H' q
    have ok : PySem.W.exmOne X.K cls (.ref S) = some true := beq_iff_eq.mp ok
    have hfs : X.A.frames = some (X.env :: X.outer) := by rw [← hst]; exact J.ok.frames
    have hff : s1.heap.FunFrames X.base (X.env :: X.outer) := by rw [← hst]; exact J.stack
    refine note_land hfs hff hfr xo t fun h' nt => ?_
    rw [← hst] at nt
    have J1 := noted_inv J f nt
    obtain ⟨vs1, xo1, t1⟩ := nt.exo
    obtain ⟨⟨sl, he1⟩, hc1⟩ := id xo1
    have J2 : L2.Inv (hdl X e ⟨cls, od, .fields vs1, sl⟩) pins σ' H' { s1 with heap := h' } := inv_hdl J1 f he1 ⟨_, rfl⟩
    refine wpAny_handleBy_cons (A := X.A) (codeAny_handlers_test (ld_glob J2 hg hm ?_ hdb)) (by intro z; cases z)
    refine PySem.W.exm_one (K := X.K) (cls := cls) J1.kIn ((PySem.W.Looks.ld he1).andThen PySem.W.Looks.now) ok _ _ _ _ (fun _ _ z => z) ?_
    refine codeAny_handlers_suite_as ?_
    refine land_same xo1 t1 fun h3 sm => ?_
    have J3 := inv_same J2 sm
    refine store_ok (X := hdl X e ⟨cls, od, .fields vs1, sl⟩) (v := .ref e) J3 hN hi (.inl hn) rfl (fun s4 J4 => ?_) (.inr hn)
    have P := hs e ⟨cls, od, .fields vs1, sl⟩ pins s4 _ H' _ J4 (h2 e _ f.free ⟨vs1, sl, rfl, hc1⟩)
    refine thnF P fun fl s5 q5 => ?_
    have fin : ∀ {σ5 : L2.St} {H5 : Hp}, L2.Inv (hdl X e ⟨cls, od, .fields vs1, sl⟩) pins σ5 H5 s5 → ∀ Q : Unit → Shared → Prop, (∀ s6, L2.Inv X pins (σ5.set i none) H5 s6 → Q () s6) →
        wpAny (model X.prog X.w) X.A (do bindName X.env n .none; unbindBehindTheSuite X.env n hpos) Q X.xe s5 := fun {σ5 H5} J5 Q k => by
      obtain ⟨m, hn5, hl5⟩ := J5.loc
      refine wpAny_nameGoes_keeps hn hn5 (by rw [show X.env.scope.kind = .function from I.ok.kind]; rfl) fun h6 v hns sb => k _ ?_
      exact inv_gone I.ok (fun p hp => List.mem_append_left _ hp) J5 hN hi hl5 hns sb
    cases fl with
    | next => obtain ⟨σ5, H5, J5, q5⟩ := q5; exact fin J5 _ fun s6 J6 => ⟨_, H5, J6, q5⟩
    | brk => obtain ⟨σ5, H5, J5, q5⟩ := q5; exact fin J5 _ fun s6 J6 => ⟨_, H5, J6, q5⟩
    | cont => obtain ⟨σ5, H5, J5, q5⟩ := q5; exact fin J5 _ fun s6 J6 => ⟨_, H5, J6, q5⟩
    | ret u => obtain ⟨v, σ5, H5, J5, r5, q5⟩ := q5; exact fin J5 _ fun s6 J6 => ⟨v, _, H5, J6, r5, q5⟩
end
end Hs
set_option Elab.async false
set_option linter.all false
set_option maxRecDepth 100000
namespace Hs
open PySem PySem.Spec PyProof.Rows L2
theorem plain_unchain : plainId "proto.unchain" = true := by decide +kernel
theorem entry_unchain : entryFor table "proto.unchain" = some Builtin.«proto.unchain» := entryFor_of_tree (by kernel_rfl)
def Quiet (A : Around) (h : Heap) : Prop := A.handled = none ∨ ∃ e oe cls od, A.handled = some (.ref e) ∧ h.get? e = some oe ∧ Rec oe cls od
section
variable {prog : Program} {w : World} {A : Around} {E : Value → Shared → Prop} {s : Shared}
theorem unchain_none {e h : Addr} {oh : Obj} {vs : Array Value} {Q : Value → Shared → Prop} (ho : s.heap.get? h = some oh) (hd : oh.data = .fields vs) (h2 : vs[2]? = some .none) (k : Q .none s) :
    wpAny (model prog w) A (runValue (.builtin "proto.unchain" ⟨[.ref e, .ref h, .ref h, .bool false], []⟩)) Q E s := by
  refine wpAny_runValue (codeAny_builtin entry_unchain ?_)
  rw [Around.under_plainId plain_unchain _]
  show wpAny _ _ (field (.ref h) 2 >>= _) _ _ s
  refine wpAny_bind (wpAny_field ho hd h2 ?_)
  show wpAny _ _ (if (Value.none == Value.none) = true then _ else _) _ _ s
  rw [if_pos (by decide)]
  exact wpAny_pure k
theorem raise_quiet {α : Type} {ea : Addr} {oe : Obj} {ve : Array Value} {Q : α → Shared → Prop} (qt : Quiet A s.heap) (he : s.heap.get? ea = some oe) (hde : oe.data = .fields ve) (hz : 2 < ve.size) (hx : ∀ e oe cls od, A.handled = some (.ref e) → s.heap.get? e = some oe → Rec oe cls od → e ≠ ea)
    (k : ∀ h' oe', (∀ b, b ≠ ea → h'.get? b = s.heap.get? b) → h'.get? ea = some oe' → oe'.cls = oe.cls → E (.ref ea) { s with heap := h' }) : wpAny (model prog w) A (raiseNew (.ref ea) : Sem α) Q E s := by
  unfold raiseNew
  refine wpAny_bind (wpAny_handled ?_)
  rcases qt with hh | ⟨h, oh, cls, od, hh, ho, rc⟩
  · rw [hh]
    exact wpAny_bind (wpAny_pure (wpAny_throw (k s.heap oe (fun _ _ => rfl) he rfl)))
  · have hne := hx h oh cls od hh ho rc
    obtain ⟨vs, sl, rfl, h2⟩ := rc
    rw [hh]
    dsimp only
    rw [if_pos (show (Value.ref h != Value.ref ea) = true from by simp [hne])]
    refine wpAny_bind (wpAny_holding (unchain_none ho rfl h2 (wpAny_bind ?_)))
    show wpAny _ _ (setField (.ref ea) 2 (.ref h)) _ _ s
    refine wpAny_setField he hde hz (wpAny_throw (k _ _ (fun b hb => Heap.get?_update_other _ _ (Ne.symm hb)) (Heap.get?_update_self _ he (Obj.isFreed_of_fields (Obj.data_mapFields hde _))) (Obj.cls_mapFields _ _)))
theorem range_end_q {it : Addr} {x left step : Int} {Q : Option Value → Shared → Prop} (qt : Quiet A s.heap) (hit : IsRangeIter s.heap it x left step) (hleft : left ≤ 0)
    (k : ∀ h', (∀ b o, s.heap.get? b = some o → h'.get? b = some o) → Q none { s with heap := h' }) : wpAny (model prog w) A (pyNext (.ref it)) Q E s := by
  have ty : s.TypeIs (.ref it) "range_iterator" := ⟨_, hit, rfl⟩
  unfold pyNext
  refine wpAny_bind (wpAny_attempt (wpAny_callSpecial?_slot (name := Str.ofString "__next__") ty F.slot_range_iterator_next (wpAny_call_entry F.slot_range_iterator_next ty F.entry_range_iterator_next ?_ (F.args_range_iterator_next_1 _))))
  show wpAny _ _ (do let a ← field (.ref it) 0; _) _ _ s
  refine wpAny_bind (wpAny_field (x := rawInt x) hit rfl rfl ?_)
  show wpAny _ _ (do let a ← field (.ref it) 1; _) _ _ s
  refine wpAny_bind (wpAny_field (x := rawInt left) hit rfl rfl ?_)
  show wpAny _ _ (do let a ← field (.ref it) 2; _) _ _ s
  refine wpAny_bind (wpAny_field (x := rawInt step) hit rfl rfl ?_)
  show wpAny _ _ (ite (left ≤ 0) _ _) _ _ s
  rw [if_pos hleft]
  refine wpAny_bind (wpAny_rule (wpAny_bind ?_))
  show wpAny _ _ (do let e ← newExc (.type "StopIteration") []; _) _ _ _
  refine wpAny_bind ?_
  simp only [newExc, newTuple]
  refine wpAny_bind (wpAny_newObj_type ?_ (by size_fits))
  refine wpAny_bind (m := firstArgMember _ _) (wpAny_of_eq (a := .none) (by first | rfl | (simp only [firstArgMember]; rfl)) ?_)
  refine wpAny_newObj_type ?_ (by size_fits)
  generalize hT : s.heap.push { cls := .type "tuple", data := .seq ([] : List Value).toArray } = hp1
  have k1 : ∀ b o, s.heap.get? b = some o → hp1.get? b = some o := fun b o q => by rw [← hT]; exact Heap.get?_push_of_some _ q
  have szs : s.heap.objs.size < hp1.objs.size := by rw [← hT, Heap.size_push]; exact Nat.lt_succ_self _
  refine raise_quiet ?_ (Heap.get?_push_size _ rfl) rfl ?_ ?_ ?_
  · rcases qt with q | ⟨e, oe, cls, od, q1, q2, q3⟩
    · exact .inl q
    · exact .inr ⟨e, oe, cls, od, q1, Heap.get?_push_of_some _ (k1 _ _ q2), q3⟩
  · rw [Array.size_append]
    exact Nat.lt_of_lt_of_le (by show 2 < 6; decide) (Nat.le_add_right _ _)
  · intro e oe cls od q1 q2 q3 z
    rcases qt with q | ⟨e', oe', cls', od', w1, w2, w3⟩
    · have q1 : A.handled = _ := q1
      rw [q] at q1; cases q1
    · have q1 : A.handled = _ := q1
      rw [w1] at q1
      have q1 : e' = e := by cases q1; rfl
      subst q1
      have lt := Heap.lt_size w2
      rw [z] at lt
      exact absurd (Nat.lt_trans lt szs) (Nat.lt_irrefl _)
  · intro h' oe' sm ho hc
    refine wpAny_bind (wpAny_isInstance (T := "StopIteration") (b := true) ⟨_, ho, hc⟩ isSubtype_stop ?_)
    refine wpAny_pure (k h' fun b o q => ?_)
    rw [sm b (Nat.ne_of_lt (Nat.lt_trans (Heap.lt_size q) szs))]
    exact Heap.get?_push_of_some _ (k1 b o q)
end
end Hs
set_option Elab.async false
set_option linter.all false
set_option maxRecDepth 100000
namespace L2
open PySem PySem.Spec PyProof.Rows Hs
def QPin (X : Cx) : Prop := ∃ e oe cls od, (X.A.handled = none ∨ X.A.handled = some (.ref e)) ∧ (e, oe) ∈ X.pn ∧ Rec oe cls od
def PIEq (X : Cx) (pins : List (Addr × Obj)) (σ : St) (R : It → Hp → Prop) (itv : Value) (s2 : Shared) : Prop :=
  ∃ (it : Addr) (lo : Int) (n : Nat) (H' : Hp), itv = .ref it ∧ Inv X pins σ H' s2 ∧ IsRangeIter s2.heap it (lo + ((0 : Nat) : Int) * 1) ((n : Int) - ((0 : Nat) : Int)) 1 ∧ FpOk X pins H' it ∧ R (Itr lo n) H'
def PIq (X : Cx) (iter : Expr) (wi : TI) : Prop :=
  ∀ (pins : List (Addr × Obj)) (s : Shared) (σ : St) (H : Hp) (R : It → Hp → Prop), Inv X pins σ H s → wi σ H R →
    wpAny (model X.prog X.w) X.A (eval iter X.env) (fun v s1 => wpAny (model X.prog X.w) X.A (pyIter v) (PIEq X pins σ R) X.xe s1) X.xe s
section
variable {X : Cx}
theorem piq_range1 {a : Expr} {ta : TA} {p pos : Pos} (hm : X.mg "range" = none) (ha : PA X [a] ta) (hg : Gl X "range" := by rfl) (hs : starEach [a] X.env = [(false, eval a X.env)] := by rfl) : PIq X (.Call (.Name "range" p) [a] [] pos) (iRng1 ta) := by
  intro pins s σ H R I h
  refine Call_ (ld_blt I hg hm boot_range (PyProof.Rows.callWith_type1 (thn (ha pos pins s σ H _ I h) fun us s1 ⟨vs, H1, I1, r1, q1⟩ => ?_) hs rfl))
  obtain ⟨j, e, q1, q2, q⟩ := q1
  subst e
  cases r1 with
  | cons r rr =>
    cases rr
    obtain ⟨t, rfl⟩ := r
    refine call_range_1 (wpAny_pyIter_range (IsRange.new ..) (small_one (by omega) (by omega) q1 q2) ?_)
    refine ⟨_, 0, j.toNat, H1, rfl, (I1.kept (t' := s1.toks + 2) fun b o e => Heap.get?_push_of_some _ e).kept (t' := s1.toks + 2) fun b o e => Heap.get?_push_of_some _ e, ?_, ?_, q⟩
    · have e1 : (0 : Int) + ((0 : Nat) : Int) * 1 = 0 := by simp
      have e2 : ((j.toNat : Nat) : Int) - ((0 : Nat) : Int) = Builtin.Range.rangeSize 0 j 1 := by rw [rangeSize_one]; split <;> omega
      rw [e1, e2]
      exact Heap.get?_push_size _ rfl
    · exact (I1.kept (t' := s1.toks + 2) fun b o e => Heap.get?_push_of_some _ e).fpOk (Nat.le_refl _) ((I1.hok.kept fun b o e => Heap.get?_push_of_some _ e).fresh (Nat.le_refl _))
theorem lc_coreQ {pins : List (Addr × Obj)} {s : Shared} {σ : St} {H : Hp} {Q : VK} {elt tg iter : Expr} {ifs : List Expr} {scope : Scope} {own : List (Str × Nat)} {pos pos' : Pos} {wi : TI} {g : TG} {tt : TT} {te : TE} {use : Option (Value → Sem Unit)} {Qf : Value → Shared → Prop}
    (hq : QPin X) (hN : X.N.Nodup) (I : Inv X pins σ H s) (hi : PIq X iter wi) (ok : BlkOk X.N X.env.scope scope own)
    (hg : ∀ (s : Shared) (H : Hp) (C : Addr) (cl : List (Str × Addr)) (fp : List Addr), PG (X.blk s H scope (compEnvC scope cl C X.env) fp) tg g) (ht : ∀ (s : Shared) (H : Hp) (C : Addr) (cl : List (Str × Addr)) (fp : List Addr), PTs (X.blk s H scope (compEnvC scope cl C X.env) fp) ifs tt)
    (he : ∀ (s : Shared) (H : Hp) (C : Addr) (cl : List (Str × Addr)) (fp : List Addr), PE (X.blk s H scope (compEnvC scope cl C X.env) fp) elt te) (hs : ∀ x, foldedSetIterable iter X.env x = pure x)
    (h : tLc wi g tt te (own.map (·.2)) σ H Q)
    (hRR : ∀ D C s' m H', Inv X pins σ H' s' → Q (.ref D) H' → s'.heap.Ns C m → FpOk X pins H' C → compPost (model X.prog X.w) X.A X.xe use Qf (.ref D) C (.ok .next) s') :
    wpAny (model X.prog X.w) X.A (comprehension (.ListComp elt [⟨tg, iter, ifs, 0⟩] scope pos) scope X.env pos' (newList []) false (eval iter X.env) use) Qf X.xe s := by
  have hfree : ∀ y ∈ scope.names, y.2 = .free → ∃ c, X.env.cells.lookup y.1 = some c := fun y hy e => by
    rcases ok.free y hy e with k | k
    · exact I.ok.has _ (.inl k)
    · exact I.ok.has _ (.inr k)
  refine wpAny_comprehension_free (use := use) rfl hs (closure_ok hfree) ok.kind (fun y hy e => by rw [ok.uniq y hy, e])
    (thn (hi pins s σ H _ I h) fun xv s1 hx => thn hx fun itv s2 h2 => ?_)
  obtain ⟨it, lo, nn, H2, e, I2, st2, f20, q⟩ := h2
  subst e
  let fp : List Addr := [it]
  let tn : Nat → Heap → Prop := fun i h => IsRangeIter h it (lo + (i : Nat) * 1) ((nn : Int) - (i : Nat)) 1
  have T := turn_range (P := X.prog) (w := X.w) (K := X.K) (tg := tg) it lo nn
  have st2 : tn 0 s2.heap := st2
  have f2 : ∀ b ∈ fp, FpOk X pins H2 b := fun b hb => by
    have z : b = it := by simpa [fp] using hb
    subst z; exact f20
  refine wpAny_newObj_type (newEnv_comp ?_) (by show 0 ≤ sizeLine; decide)
  generalize hD : s2.heap.objs.size = D
  have hDn : H2 D = none := I2.hok.fresh (Nat.le_of_eq hD)
  obtain ⟨W, ⟨m0, w0⟩, turn⟩ := q D hDn
  generalize hs3 : ({ s2 with heap := s2.heap.push { cls := .type "list", data := .seq ([] : List Value).toArray } } : Shared) = s3
  have I3 : Inv X pins σ (upd H2 D (.lst [])) s3 := by
    rw [← hs3]
    refine I2.laid (t' := s2.toks) (fun b o e => Heap.get?_push_of_some _ e) (Nat.le_of_eq hD) ⟨Nat.zero_le _, [], 0, .nil, ?_⟩
    rw [← hD]
    exact Heap.get?_push_size _ rfl
  have h3 : s3.heap = s2.heap.push { cls := .type "list", data := .seq ([] : List Value).toArray } := by rw [← hs3]
  have sz : ∀ b ∈ fp, b < s2.heap.objs.size := fun b hb => by
    obtain ⟨o, e, _⟩ := T.obj _ _ st2 b hb
    exact Heap.lt_size e
  have f3 : ∀ b ∈ fp, FpOk X pins (upd H2 D (.lst [])) b ∧ b < s3.heap.objs.size := fun b hb => by
    have hlt := sz b hb
    refine ⟨⟨?_, (f2 b hb).2⟩, by rw [h3, Heap.size_push]; exact Nat.lt_succ_of_lt hlt⟩
    rw [upd_ne (by rw [← hD]; exact Nat.ne_of_lt hlt)]
    exact (f2 b hb).1
  have st3 : tn 0 s3.heap := T.keep _ _ _ st2 fun b _ o e => by rw [h3]; exact Heap.get?_push_of_some _ e
  have I4 := block_start I3 ok hN f3
  have pg := hg s3 (upd H2 D (.lst [])) s3.heap.objs.size (cellsFrom (s3.heap.objs.size + 1) scope.names (cloFrom X.env.cells scope.names [])) fp
  have pt := ht s3 (upd H2 D (.lst [])) s3.heap.objs.size (cellsFrom (s3.heap.objs.size + 1) scope.names (cloFrom X.env.cells scope.names [])) fp
  have pe := he s3 (upd H2 D (.lst [])) s3.heap.objs.size (cellsFrom (s3.heap.objs.size + 1) scope.names (cloFrom X.env.cells scope.names [])) fp
  show codeAny _ _ (.compStart (.ListComp elt [⟨tg, iter, ifs, 0⟩] scope pos) 0 (.ref it) (.ref D) (compEnvC scope (cellsFrom (s3.heap.objs.size + 1) scope.names (cloFrom X.env.cells scope.names [])) s3.heap.objs.size X.env)) (compPost (model X.prog X.w) X.A X.xe use Qf (.ref D) s3.heap.objs.size) { s3 with heap := pushCells (s3.heap.push { cls := .type "dict", data := .dict #[] }) scope.names }
  have nfp : ∀ b ∈ fp, (upd H2 D (.lst [])) b = none := fun b hb => (f3 b hb).1.1
  generalize hce : compEnvC scope (cellsFrom (s3.heap.objs.size + 1) scope.names (cloFrom X.env.cells scope.names [])) s3.heap.objs.size X.env = ce at I4 pg pt pe ⊢
  have cL : ce.locals = s3.heap.objs.size := by subst hce; rfl
  generalize hH3 : upd H2 D (.lst []) = H3 at I3 I4 pg pt pe w0 nfp f3
  generalize hs4 : ({ s3 with heap := pushCells (s3.heap.push { cls := .type "dict", data := .dict #[] }) scope.names } : Shared) = s4 at I4 ⊢
  have st4 : tn 0 s4.heap := T.keep _ _ _ st3 fun b _ o e => by rw [← hs4]; exact pushCells_keeps _ _ _ _ (Heap.get?_push_of_some _ e)
  have stat : ∀ {σ' : St} {H' : Hp} {s' : Shared}, Inv (X.blk s3 H3 scope ce fp) [] σ' H' s' → (∀ b ∈ fp, H' b = none) → ∀ b ∈ fp, FpOk (X.blk s3 H3 scope ce fp) [] H' b := fun {σ' H' s'} I' hn b hb =>
    ⟨hn b hb, (I'.ok.exf b hb).1, I'.ok.exfs b hb, .inl hb, fun x c e => (I'.ok.exf b hb).2 x c e, fun p hp => absurd (show p ∈ ([] : List (Addr × Obj)) ++ [] from hp) (by simp)⟩
  have quiet : ∀ {σ' : L2.St} {H' : Hp} {s' : Shared}, L2.Inv (X.blk s3 H3 scope ce fp) [] σ' H' s' → Quiet X.A s'.heap := fun {σ' H' s'} I' => by
    obtain ⟨e, oe, cls, od, ha, hm, rc⟩ := hq
    rcases ha with ha | ha
    · exact .inl ha
    · obtain ⟨p1, p2, p3, p4, _⟩ := I3.pin (e, oe) (List.mem_append_left _ hm)
      refine .inr ⟨e, oe, cls, od, ha, ?_, rc⟩
      refine I'.base.keep e oe p1 p2 (fun z => ?_) (fun z => ?_)
      · rcases List.mem_cons.mp (I3.stkSub e z) with z | z
        · exact p3 z
        · exact p4 z
      · exact (f3 e z).1.2.2.2.2.2 (e, oe) (List.mem_append_left _ hm) rfl
  have loop : codeAny (model X.prog X.w) X.A (.compLoop (.ListComp elt [⟨tg, iter, ifs, 0⟩] scope pos) 0 (.ref it) (.ref D) ce) (compPost (model X.prog X.w) X.A X.xe use Qf (.ref D) s3.heap.objs.size) s4 := by
    refine compLoop_any (fun n s' => ∃ i H', Inv (X.blk s3 H3 scope ce fp) [] (wipe σ (own.map (·.2))) H' s' ∧ tn i s'.heap ∧ (∀ b ∈ fp, H' b = none) ∧ W i n H') ?_ m0 ⟨0, H3, I4, st4, nfp, w0⟩
    rintro n s5 ⟨i, H5, I5, st5, n5, w5⟩
    rcases turn i n H5 w5 with ⟨stop, qq⟩ | ⟨go, Nx, hNx, step⟩
    · have td : wpAny (model X.prog X.w) X.A (pyNext (.ref it)) (fun r s1 => r = none ∧ L2.Inv (X.blk s3 H3 scope ce fp) [] (wipe σ (own.map (·.2))) H5 s1) (fun _ _ => False) s5 := by
        refine range_end_q (quiet I5) st5 (by have : nn ≤ i := stop; omega) fun h' kp => ⟨rfl, ?_⟩
        exact I5.kept (t' := s5.toks) kp
      refine thnF td fun r s6 ⟨hr, I6⟩ => ?_
      subst hr
      have I7 : Inv X pins σ H5 s6 := I3.call' (ch := fp) I6.os I6.base I6.hok I6.bare fun b hb => ⟨(f3 b hb).1.2.2.2.1, (f3 b hb).1.2.1, (f3 b hb).1.2.2.2.2.1, (f3 b hb).1.2.2.2.2.2⟩
      have nC : H5 s3.heap.objs.size = none := by
        have z : H5 ce.locals = none := I6.free
        rw [cL] at z
        exact z
      obtain ⟨m, hn, _⟩ := I6.loc
      have hn : s6.heap.Ns ce.locals m := hn
      rw [cL] at hn
      exact hRR D s3.heap.objs.size s6 m H5 I7 qq hn (I3.fpOk (Nat.le_refl _) nC)
    · have ti : wpAny (model X.prog X.w) X.A (pyNext (.ref it)) (fun r s1 => ∃ u, r = some u ∧ wpAny (model X.prog X.w) X.A (letOwnedTupleGo tg (.ref it) u) (fun _ s2 => ∃ x H', L2.Inv (X.blk s3 H3 scope ce fp) [] (wipe σ (own.map (·.2))) H' s2 ∧ L2.RelV x u ∧ (Itr lo nn).yld i H5 x H' ∧ tn (i + 1) s2.heap ∧ ∀ b ∈ fp, H' b = none) (fun _ _ => False) s1) (fun _ _ => False) s5 := by
        obtain ⟨f0, f1, _, f3', f4, f5⟩ := stat I5 n5 it (by simp [fp])
        refine wpAny_pyNext_range_item st5 (by have : i < nn := go; omega) fun h' st' sb => ⟨_, rfl, ?_⟩
        have I1 : L2.Inv (X.blk s3 H3 scope ce fp) [] (wipe σ (own.map (·.2))) H5 { s5 with heap := h', toks := s5.toks + 1 } := I5.turned (fun b o hb q => (sb.2 b hb).trans q) f0 f1 f3' f4 f5
        refine go_of (s := { s5 with heap := h', toks := s5.toks + 1 }) (n := "range_iterator") st' rfl rfl (by decide) ⟨.int (lo + i), H5, I1, ⟨s5.toks, ?_⟩, ⟨rfl, rfl⟩, ?_, n5⟩
        · rw [Int.mul_one]
        · show IsRangeIter h' it (lo + ((i + 1 : Nat) : Int) * 1) ((nn : Int) - ((i + 1 : Nat) : Int)) 1
          rw [show lo + ((i + 1 : Nat) : Int) * 1 = lo + (i : Int) * 1 + 1 by push_cast; omega, show (nn : Int) - ((i + 1 : Nat) : Int) = (nn : Int) - (i : Int) - 1 by push_cast; omega]
          exact st'
      refine thnF ti fun r s6 ⟨u, hr, h6⟩ => ?_
      subst hr
      refine thnF h6 fun _ s7 ⟨x, H7, I7, r7, y7, st7, n7⟩ => ?_
      have I7' := I7.pinned (stat I7 n7) (T.obj _ _ st7)
      refine thnF (pg _ s7 _ H7 x u _ I7' r7 (step x H7 y7)) fun _ s8 ⟨σ8, H8, I8, hw8, q8⟩ => ?_
      refine thnF (pt _ s8 σ8 H8 _ I8 q8) fun b s9 ⟨H9, I9, q9⟩ => ?_
      have fin : ∀ {s' : Shared} {H' : Hp}, Inv (X.blk s3 H3 scope ce fp) ([] ++ pinsAt fp s7.heap) σ8 H' s' → Nx H' → ∃ m, m < n ∧ ∃ i H', Inv (X.blk s3 H3 scope ce fp) [] (wipe σ (own.map (·.2))) H' s' ∧ tn i s'.heap ∧ (∀ b ∈ fp, H' b = none) ∧ W i m H' := fun {s' H'} I' nx => by
        obtain ⟨m', hm, w'⟩ := hNx H' nx
        have pin' : ∀ b ∈ fp, ∀ o, s7.heap.get? b = some o → s'.heap.get? b = some o ∧ H' b = none := fun b hb o e =>
          let z := I'.pin (b, o) (List.mem_append_right _ (List.mem_append_right _ (mem_pinsAt hb e)))
          ⟨z.1, z.2.1⟩
        have hl : (wipe σ (own.map (·.2))).length = σ8.length := by rw [← hw8, wipe_length]
        refine ⟨m', hm, i + 1, H', (I'.unpinned (pins := [])).weak hl (fun j v e => ?_), T.keep _ _ _ st7 fun b hb o e => (pin' b hb o e).1, fun b hb => ?_, w'⟩
        · rw [← hw8] at e
          exact (wipe_some e).1
        · obtain ⟨o, e, _⟩ := T.obj _ _ st7 b hb
          exact (pin' b hb o e).2
      cases b with
      | false =>
        simp only [Bool.false_eq_true, if_false] at q9 ⊢
        exact fin I9 q9
      | true =>
        simp only [if_true] at q9 ⊢
        refine thnF (pe _ s9 σ8 H9 _ I9 q9) fun z s10 ⟨yv, H10, I10, r10, acc, hD10, hz10, nx⟩ => ?_
        exact app_ok (X := X.blk s3 H3 scope ce fp) I10 hD10 hz10 r10 fun s11 I11 => fin I11 nx
  exact codeAny_compStart_list loop (T.self X.A 0 _ _ _ st4 loop)
theorem pe_lcQ {elt tg iter : Expr} {ifs : List Expr} {scope : Scope} {own : List (Str × Nat)} {pos : Pos} {wi : TI} {g : TG} {tt : TT} {te : TE} (hq : QPin X) (hN : X.N.Nodup) (hi : PIq X iter wi) (ok : BlkOk X.N X.env.scope scope own)
    (hg : ∀ (s : Shared) (H : Hp) (C : Addr) (cl : List (Str × Addr)) (fp : List Addr), PG (X.blk s H scope (compEnvC scope cl C X.env) fp) tg g) (ht : ∀ (s : Shared) (H : Hp) (C : Addr) (cl : List (Str × Addr)) (fp : List Addr), PTs (X.blk s H scope (compEnvC scope cl C X.env) fp) ifs tt)
    (he : ∀ (s : Shared) (H : Hp) (C : Addr) (cl : List (Str × Addr)) (fp : List Addr), PE (X.blk s H scope (compEnvC scope cl C X.env) fp) elt te) (hs : ∀ x, foldedSetIterable iter X.env x = pure x := by intro _; rfl) :
    PE X (.ListComp elt [⟨tg, iter, ifs, 0⟩] scope pos) (tLc wi g tt te (own.map (·.2))) := by
  intro pins s σ H Q I h
  rw [eval_ListComp]
  refine lc_coreQ hq hN I hi ok hg ht he hs h fun D C s' m H' I' q hn f => ⟨m, hn, fun h'' sb => ?_⟩
  obtain ⟨f0, f1, f2, f3, f4, f5⟩ := f
  exact ⟨.ref D, H', I'.turned (t' := s'.toks) (fun b o hb e => (sb.2 b hb).trans e) f0 f1 f3 f4 f5, rfl, q⟩
end
end L2
set_option Elab.async false
set_option linter.all false
set_option maxRecDepth 100000
namespace Hs
open PySem PySem.Spec PySem.Calls PyProof.Rows PySem.W
section
variable {prog : Program} {w : World} {A : Around} {E : Value → Shared → Prop} {h : Heap} {g : Array GenState} {d : Drawn} {t : Nat} {os : OsState} {K : Frag} {a C : Addr} {o : Obj} {odo : Option Obj}
structure ExcGet (K : Frag) (C : Addr) : Prop where
  ga : findIn K (.ref C) "__getattribute__" = some (some (.builtin "BaseException.__getattribute__"))
  gn : findIn K (.ref C) "__getattr__" = some none
  cl : findIn K (.ref C) "__class__" = some (some (.builtin "object.__class__"))
  sp : specialIn K (.builtin "object.__class__") "__get__" = some (some (.builtin "getset_descriptor.__get__"))
  tk : takesIn K (.builtin "object.__class__") = some true
  mr : mroIn K C (.type "object") = some true
  cs : (clsIn K C).isSome = true
  sb : subIn K (.ref C) (.type "BaseException") = some true
theorem find_data {od : Option Obj} {name : Str} {x g : Value} (hc : (clsIn K C).isSome = true) (ha : findIn K (.ref C) name = some (some x)) (hg : specialIn K x "__get__" = some (some g)) (ht : takesIn K x = some true) : findObj K C od name = some (.bind g x) := by
  obtain ⟨cd, hc⟩ := Option.isSome_iff_exists.mp hc
  unfold findObj; rw [hc]
  rw [Option.bind_some, ha]
  rw [Option.bind_some]; simp [hg, ht]
theorem exc_entry {tk : Tok} {Q : Fin → Shared → Prop} (G : ExcGet K C) (X : K.In h) (I : InstAt h a o C odo) (hq : Q (.done (.ret (.ref C))) ⟨h, g, d, t, os⟩) :
    wpAny (model prog w) A (Builtin.«object.__getattribute__» ⟨[.ref a, .str "__class__" tk], []⟩) Q E ⟨h, g, d, t, os⟩ := by
  have L0 := I.type (M := model prog w)
  have L1 := looks_find (M := model prog w) X I (find_data G.cs G.cl G.sp G.tk)
  refine wpAny_bind (wpAny_pure (wpAny_bind (wpAny_pure (wpAny_bind (L0.at (wpAny_bind (L1.at ?_)))))))
  repeat (any_goals (first | assumption | wp_step))
  refine class_get (s := ⟨h, g, d, t, os⟩) X I G.mr ?_
  repeat (any_goals (first | assumption | wp_step))
theorem exc_check {M : Model} {nameV : Value} {Q : Unit → Shared → Prop} (G : ExcGet K C) (X : K.In h) (I : InstAt h a o C odo) (hq : Q () ⟨h, g, d, t, os⟩) : wpAny M A (checkBuiltinCall "BaseException.__getattribute__" ⟨[.ref a, nameV], []⟩) Q E ⟨h, g, d, t, os⟩ := by
  have kd : builtinKind "BaseException.__getattribute__" = some .slot := by decide +kernel
  have sp : splitId "BaseException.__getattribute__" = some ("BaseException", "__getattribute__") := by decide +kernel
  have L0 := I.type (M := M)
  have L1 : Looks M h (isSubtype (.ref C) (.type "BaseException")) true := looks_subIn X G.sb
  have LI : Looks M h (isInstance (.ref a) (.type "BaseException")) true := L0.andThen L1
  have ha := PySem.F.args_bexc_ga (.ref a) nameV
  simp only [checkBuiltinCall, kd, sp]
  refine wpAny_bind (LI.at ?_)
  repeat (first | assumption | wp_step)
theorem exc_class {Q : Option Value → Shared → Prop} (G : ExcGet K C) (X : K.In h) (I : InstAt h a o C odo) (hq : Q (some (.ref C)) ⟨h, g, d, t + 1, os⟩) : wpAny (model prog w) A (getAttr? (.ref a) "__class__") Q E ⟨h, g, d, t, os⟩ := by
  have L0 := I.type (M := model prog w)
  have L1 := looks_findIn (M := model prog w) X G.ga
  have L2 := looks_findIn (M := model prog w) X G.gn
  unfold getAttr? getAttrBy? getAttrBy
  refine wpAny_bind (wpAny_mkText (wpAny_bind (wpAny_attempt (wpAny_holding (wpAny_bind (L0.at (wpAny_bind (L1.at ?_))))))))
  show wpAny _ _ (getAttrByItsOwn (.ref a) _ (.ref C) (.builtin "BaseException.__getattribute__") false false) _ _ _
  have f3 := PySem.F.excAttr_ValueError.ga.bind (.ref a)
  unfold getAttrByItsOwn
  repeat (any_goals (first | assumption | with_reducible refine Looks.at (by assumption) ?_ | wp_step))
  refine codeAny_call_builtin PySem.F.excAttr_ValueError.ga.plain PySem.F.entry_bexc_ga (exc_check G X I (exc_entry G X I ?_))
  show wpAny _ _ (handedOut (.ref C)) _ _ _
  exact handed_on rfl (wpAny_pure hq)
end
section
variable {K : Frag} {a C : Addr} {o : Obj} {odo : Option Obj}
theorem kitx_exc (G : ExcGet K C) : KitX K (.ref a) (.ref C) (fun h => InstAt h a o C odo) where
  ty := fun _ _ _ I => I.type
  it := fun _ _ X _ => by
    obtain ⟨cdc, hcd⟩ := Option.isSome_iff_exists.mp G.cs
    unfold clsIn at hcd
    split at hcd
    next ho =>
      intro A' Q' E' s' k q
      unfold isType loadHead
      exact wpAny_bind (wpAny_loadPart (k _ _ (X _ _ ho)) (wpAny_pure q))
    next => cases hcd
  ne := fun h tp dd its n sl X htp => by
    obtain ⟨cdc, hcd⟩ := Option.isSome_iff_exists.mp G.cs
    refine Bool.eq_false_iff.mpr fun q => ?_
    obtain rfl : C = tp := Value.ref.inj (beq_iff_eq.mp q)
    unfold clsIn at hcd
    split at hcd
    next ho =>
      have z := (X _ _ ho).symm.trans htp
      cases z
    next => cases hcd
  ca := fun {_ _ _ _ _ s} X I k => by
    obtain ⟨h, g, d, t, os⟩ := s
    exact exc_class G X I k
end
end Hs
namespace Hs
open PySem PySem.Spec PyProof.Rows L2
section
variable {X : Cx} {e C : Addr} {oe : Obj} {b : Bool} {cv : V} {cu : Value}
def rIsE (e : Addr) (cv : V) (b : Bool) : List V → Hp → VK → Prop := fun vs H Q => vs = [.ref e, cv] ∧ Q (.bl b) H
theorem call_isE (hp : (e, oe) ∈ X.pn) (rc : Rec oe (.ref C) none) (G : ExcGet X.K C) (hr : L2.RelV cv cu) (hk : PySem.W.kitOne X.K (.ref C) cu = some b) (hcv : ∀ u, L2.RelV cv u → u = cu) : CallR X (.builtin "isinstance") (rIsE e cv b) := by
  intro pins s σ H xs us Q I r h
  obtain ⟨rfl, q⟩ := h
  obtain ⟨u, v, rfl, ru, rv⟩ := r.two
  cases ru
  obtain rfl := hcv v rv
  obtain ⟨he, _⟩ := I.pin (e, oe) (List.mem_append_left _ hp)
  obtain ⟨vs, sl, rfl, _⟩ := rc
  refine PySem.W.kia_one (kitx_exc (o := ⟨.ref C, none, .fields vs, sl⟩) (odo := none) G) I.kIn ⟨he, rfl, rfl, trivial⟩ hk (by intro z; cases z) fun tk => ⟨.bl b, H, I.tok tk, rfl, q⟩
end
abbrev calmed (A : Around) : Around := { A with handled := none }
structure FnH (P : Program) (w : World) (K : PySem.W.Frag) (mg : Str → Option Value) (base : Heap) (x : Str) (k : Nat) (sp : Addr → Obj → Hp → VK → Prop) : Prop where
  ex : ∃ f : Addr, (∀ (A : Around) (outer : List Env) (s : Shared) (H : Hp) (e : Addr) (oe : Obj) (Q : VK), Room k (calmed A) → (A.handled = none ∨ A.handled = some (.ref e)) → Env0 P w K mg base A outer s H → s.heap.get? e = some oe → H e = none → e ∉ frs outer → (∃ vs, oe.data = .fields vs) → sp e oe H Q →
    codeAny (model P w) A (.call (.ref f) ⟨[.ref e], []⟩) (CR CX0 outer P w H s Q E0) s) ∧ PySem.W.keepIn K (.ref f) = true ∧ mg x = some (.ref f)
abbrev cxH (P : Program) (w : World) (K : PySem.W.Frag) (mg : Str → Option Value) (base : Heap) (N : List Str) (qual : Str) (scope : Scope) (f : Addr) (cd : Value) (A : Around) (outer : List Env) (s : Shared) (H : Hp) (e : Addr) (oe : Obj) : Cx :=
  { cxOf CX0 P w K mg base N qual scope f cd A outer s H E0 with calm := false, pn := [(e, oe)], xe := fun _ _ => False }
theorem fnH_of {P : Program} {w : World} {K : PySem.W.Frag} {mg : Str → Option Value} {base : Heap} {x qual : Str} {st : Stmt} {f : Addr} {fd : FuncData} {N : List Str} {k : Nat} {y : Str} {sp : Addr → Obj → Hp → VK → Prop} (F : Fun K x qual st f fd) (S : FnScope N [y] (defScope st)) (b : Binds K fd [y] []) (m : mg x = some (.ref f))
    (hbody : ∀ (cdv : Value) (A : Around) (outer : List Env) (s : Shared) (H : Hp) (e : Addr) (oe : Obj) (Q : VK), Room k (calmed (A.deeper (envOfC qual (defScope st) s.heap.objs.size f cdv))) → (A.handled = none ∨ A.handled = some (.ref e)) → sp e oe H Q →
      ∃ t, PSs (cxH P w K mg base N qual (defScope st) f cdv A outer s H e oe) (defBody st) t ∧ t { nx := fun _ H' => Q .non H', rt := Q } (start N [.ref e]) H) : FnH P w K mg base x (k + 1) sp := by
  refine ⟨f, fun A outer s H e oe Q hr hh e0 he hn hf hd hsp => ?_, F.kp, m⟩
  obtain ⟨oc, od, kV, doc, pm, an, cdv, ct, osl, rfl, lk, hcd⟩ := F.ex
  have KX : K.In s.heap := e0.mod.kin.keeps fun b o e => (e0.bs b o e).1
  have lim : s.heap.NoLimit := e0.mod.nolimit.keeps fun b o e => (e0.bs b o e).1
  have hkind : ∀ z ∈ [y].zip [Value.ref e], (defScope st).names.lookup z.1 = some .local ∨ ((defScope st).names.lookup z.1 = some .cell ∧ ((cellsFrom (s.heap.objs.size + 1) (defScope st).names []).lookup z.1).isSome = true) := fun ⟨n, v⟩ hy => by
    rcases S.par n (List.of_mem_zip hy).1 with q | q
    · exact .inl q
    · exact .inr ⟨q, PySem.W.cellsFrom_some _ _ _ (.inl q)⟩
  have bd := b s [.ref e] KX rfl
  refine codeAny_call_function (show A.depth < recursionLimit by have := hr.dp; simp at this; omega) (KX _ _ lk) rfl S.co S.gen rfl (PySem.W.codeRec_of KX hcd) (bd _ _ _ _ ?_)
  refine wpAny_newFunctionEnv_cells S.kind hkind fun env hev s1 xx => ?_
  subst hev
  refine ⟨lim.keeps xx.toInCall.keep, codeAny_func ?_⟩
  obtain ⟨t, ht, hq⟩ := hbody cdv A outer s H e oe Q (hr.deeper _) hh hsp
  have e0' : Env0 P w K mg base (calmed A) outer s H := ⟨e0.frames, e0.mod, e0.bs, e0.bsz, e0.funs, e0.frf, e0.hok, e0.bare⟩
  have I0 : L2.Inv (cxOf CX0 P w K mg base N qual (defScope st) f cdv (calmed A) outer s H E0) [] (start N [.ref e]) H s1 := inv_start (vs := [.ref e]) S rfl e0' rfl (.cons rfl .nil) xx
  have kp : ∀ b o, s.heap.get? b = some o → s1.heap.get? b = some o := xx.toInCall.keep
  have I : L2.Inv (cxH P w K mg base N qual (defScope st) f cdv A outer s H e oe) [] (start N [.ref e]) H s1 := by
    refine ⟨⟨I0.ok.mod, I0.ok.kind, I0.ok.glob, I0.ok.blt, I0.ok.above, I0.ok.inj, I0.ok.has, I0.ok.cab, fun z => (Bool.false_ne_true z).elim, Around.frames_deeper e0.frames, I0.ok.stk, I0.ok.exf, I0.ok.bs, I0.ok.bsz, I0.ok.noex, I0.ok.exfs, I0.ok.funs, I0.ok.frf⟩,
      I0.os, I0.bare, I0.base, I0.loc, I0.cell, I0.free, I0.freeC, fun p hp => ?_, I0.hok, I0.len⟩
    have hp : p = (e, oe) := by simpa using hp
    subst hp
    refine ⟨kp _ _ he, hn, fun z => ?_, hf, fun v q => ?_⟩
    · have lt := Heap.lt_size he
      have z : e = s.heap.objs.size := z
      rw [z] at lt
      exact absurd lt (Nat.lt_irrefl _)
    · obtain ⟨vs, hd⟩ := hd
      have q : oe.data = .cell v := q
      rw [hd] at q; cases q
  refine wpAny_mono (ht [] s1 (start N [.ref e]) H _ I hq) (fun fl s' hs => ?_) fun ev s' hs => hs.elim
  have fin : ∀ {σ' : L2.St} {H' : Hp} {v : V} {u : Value}, L2.Inv (cxH P w K mg base N qual (defScope st) f cdv A outer s H e oe) [] σ' H' s' → L2.RelV v u → Q v H' → CE outer P w H s Q u s' :=
    fun {σ' H' v u} J rv q => ⟨v, H', J.os, J.bare, J.base, J.hok, rv, q⟩
  cases fl with
  | ret u =>
    obtain ⟨v, σ', H', J, rv, q⟩ := hs
    exact fin J rv q
  | next =>
    obtain ⟨σ', H', J, q⟩ := hs
    exact fin (v := V.non) (u := Value.none) J rfl q
  | brk =>
    obtain ⟨_, _, _, q⟩ := hs
    exact False.elim q
  | cont =>
    obtain ⟨_, _, _, q⟩ := hs
    exact False.elim q
section
variable {X : Cx} {x : Str} {k j : Nat} {sp : Addr → Obj → Hp → VK → Prop} {e : Addr} {oe : Obj} {ar : Expr} {t : TA} {p pos : Pos}
def tCallH (sp : Addr → Obj → Hp → VK → Prop) (e : Addr) (oe : Obj) (t : TA) : TE := fun σ H Q => t σ H fun vs H1 => vs = [.ref e] ∧ sp e oe H1 Q
theorem pe_callH (F : FnH X.prog X.w X.K X.mg X.base x k sp) (hr : Room j (calmed X.A)) (hk : k ≤ j) (hh : X.A.handled = none ∨ X.A.handled = some (.ref e)) (hp : (e, oe) ∈ X.pn) (hd : ∃ vs, oe.data = .fields vs) (ha : PA X [ar] t) (hg : Gl X x := by rfl) (hdb : (x == ("__debug__" : Str)) = false := by decide)
    (he : starEach [ar] X.env = [(false, eval ar X.env)] := by rfl) : PE X (.Call (.Name x p) [ar] [] pos) (tCallH sp e oe t) := by
  obtain ⟨f, FO, kp, m⟩ := F.ex
  intro pins s σ H Q I h
  refine wpAny_Call_Name_kw (ld_glob I hg m ?_ hdb)
  refine PySem.W.callWith_K (h₀ := X.base) I.ok.mod.kin kp (thn (ha pos pins s σ H _ I h) fun us s1 ⟨vs, H1, I1, r, hv, q⟩ => ⟨I1.kIn, ?_⟩) he rfl
  subst hv
  cases r with
  | cons r rr =>
    cases rr
    cases r
    obtain ⟨he1, hn1, hl1, hf1, _⟩ := I1.pin (e, oe) (List.mem_append_left _ hp)
    have nf : e ∉ frs X.stack := fun z => by
      rcases List.mem_cons.mp (I1.stkSub e z) with z | z
      · exact hl1 z
      · exact hf1 z
    refine wpAny_call (codeAny_mono (FO X.A X.stack s1 H1 e oe Q (hr.mono hk) hh I1.env0 he1 hn1 nf hd q) fun r s' hq => ?_)
    cases r with
    | error e => exact False.elim hq
    | ok fl =>
      cases fl with
      | ret u => exact I1.after hq
      | next => exact False.elim hq
      | brk => exact False.elim hq
      | cont => exact False.elim hq
end
end Hs
set_option Elab.async false
set_option linter.all false
set_option maxRecDepth 100000
set_option maxHeartbeats 1000000
namespace Hs
open PySem L2
structure Cls12 (mg : Str → Option Value) (D : Nat → Addr) : Prop where
  m0 : mg "Harm" = some (.ref (D 0))
  m1 : mg "NoHalf" = some (.ref (D 1))
  m2 : mg "NoMarks" = some (.ref (D 2))
  m3 : mg "NoPlain" = some (.ref (D 3))
  m4 : mg "NoRim" = some (.ref (D 4))
  m5 : mg "NoRow" = some (.ref (D 5))
  m6 : mg "NoSkin" = some (.ref (D 6))
  m7 : mg "NoText" = some (.ref (D 7))
  m8 : mg "NothingLeft" = some (.ref (D 8))
  m9 : mg "TooMany" = some (.ref (D 9))
  m10 : mg "Unfit" = some (.ref (D 10))
  m11 : mg "Unlike" = some (.ref (D 11))
  noV : mg "ValueError" = none
structure KindOf (K : PySem.W.Frag) (D : Nat → Addr) (C : Addr) (b : Nat → Bool) : Prop where
  get : ExcGet K C
  k0 : PySem.W.kitOne K (.ref C) (.ref (D 0)) = some (b 0)
  k1 : PySem.W.kitOne K (.ref C) (.ref (D 1)) = some (b 1)
  k2 : PySem.W.kitOne K (.ref C) (.ref (D 2)) = some (b 2)
  k3 : PySem.W.kitOne K (.ref C) (.ref (D 3)) = some (b 3)
  k4 : PySem.W.kitOne K (.ref C) (.ref (D 4)) = some (b 4)
  k5 : PySem.W.kitOne K (.ref C) (.ref (D 5)) = some (b 5)
  k6 : PySem.W.kitOne K (.ref C) (.ref (D 6)) = some (b 6)
  k7 : PySem.W.kitOne K (.ref C) (.ref (D 7)) = some (b 7)
  k8 : PySem.W.kitOne K (.ref C) (.ref (D 8)) = some (b 8)
  k9 : PySem.W.kitOne K (.ref C) (.ref (D 9)) = some (b 9)
  k10 : PySem.W.kitOne K (.ref C) (.ref (D 10)) = some (b 10)
  k11 : PySem.W.kitOne K (.ref C) (.ref (D 11)) = some (b 11)
  kV : PySem.W.kitOne K (.ref C) (.type "ValueError") = some true
def strsD : List Expr → Option (List Str)
  | [] => some []
  | .Constant (.str x) _ _ :: es => (strsD es).map (x :: ·)
  | _ => none
def tStrs (ss : List Str) : TA := fun _ H Q => Q (ss.map V.str) H
theorem pa_strs {X : Cx} : ∀ (es : List Expr) (ss : List Str), strsD es = some ss → PA X es (tStrs ss)
  | [], ss, h => by
    cases h
    exact pa_nil
  | .Constant (.str x) k p :: es, ss, h => by
    obtain ⟨r, hr, rfl⟩ := Option.map_eq_some_iff.mp (show (strsD es).map (x :: ·) = some ss from h)
    exact pa_cons pe_str (pa_strs es r hr)
def tSetS (i : Nat) (ss : List Str) : TS := fun D σ H => ss.length ≤ 1000 ∧ ∀ p, H p = none → D.nx (σ.set i (some (.ref p))) (upd H p (.lst (ss.map V.str)))
theorem ps_setS {X : Cx} {i : Nat} {x : Str} {es : List Expr} {p1 p2 p3 : Pos} (ss : List Str) (hN : X.N.Nodup) (hi : X.N[i]? = some x) (hx : Loc X.env.scope x) (hf : X.fn x = true) (h : strsD es = some ss) : PS X (.Assign [.Name x p1] (.List es p2) p3) (tSetS i ss) := by
  refine (ps_set hN hi hx (pe_lst (pa_strs es ss h)) rfl (.inl hf)).by fun D σ H q => ?_
  exact ⟨by rw [List.length_map]; exact lt63 q.1, fun p hp => q.2 p hp⟩
def tCatS (i : Nat) (ss : List Str) : TS := fun D σ H => ∃ l xs, σ[i]? = some (some (.ref l)) ∧ H l = some (.lst xs) ∧ xs.length + ss.length ≤ 1000 ∧ ∀ q p, H q = none → upd H q (.lst (ss.map V.str)) p = none →
  D.nx (σ.set i (some (.ref p))) (upd (upd H q (.lst (ss.map V.str))) p (.lst (xs ++ ss.map V.str)))
theorem ps_catS {X : Cx} {i : Nat} {x : Str} {es : List Expr} {p1 p2 p3 p4 p5 : Pos} (ss : List Str) (hN : X.N.Nodup) (hi : X.N[i]? = some x) (hx : Loc X.env.scope x) (hf : X.fn x = true) (h : strsD es = some ss) (hd : (x == ("__debug__" : Str)) = false := by decide)
    (hcd : (x == ("__classdict__" : Str)) = false := by decide) : PS X (.Assign [.Name x p1] (.BinOp (.Name x p2) .Add (.List es p3) p4) p5) (tCatS i ss) := by
  refine (ps_set hN hi hx (pe_op op_cat (pe_var hi (hx.elim .inl fun z => .inr (.inl z)) hd hcd) (pe_lst (pa_strs es ss h))) rfl (.inl hf)).by fun D σ H q => ?_
  obtain ⟨l, xs, e1, e2, z, q⟩ := q
  have hl : (ss.map V.str).length = ss.length := List.length_map _
  refine ⟨_, e1, by rw [hl]; exact lt63 (by omega), fun q1 hq1 => ⟨l, q1, xs, _, rfl, rfl, ?_, upd_same, by rw [hl]; exact lt63 z, fun p hp => q q1 p hq1 hp⟩⟩
  rw [upd_ne (ne_of_none e2 hq1)]; exact e2
theorem bt_ValueError : bootBuiltins "ValueError" = some (.type "ValueError") := by decide +kernel
def kW10 : List Str := ["Harm", "NoHalf", "NoMarks", "NoPlain", "NoRim", "NoRow", "NoSkin", "NoText", "NothingLeft", "TooMany"]
def kW3 : List Str := ["Unfit", "Unlike", "+"]
def kWords : List Str := kW10 ++ kW3
def kSome (b : Nat → Bool) : List Bool := [b 0, b 1, b 2, b 3, b 4, b 5, b 6, b 7, b 8, b 9, b 10, b 11, true]
def kPick : List Str → List Bool → List Str
  | w :: ws, b :: bs => if b = true then w :: kPick ws bs else kPick ws bs
  | _, _ => []
theorem kPick_sum : ∀ (ws : List Str) (bs : List Bool), ((kPick ws bs).map (·.length)).sum ≤ (ws.map (·.length)).sum
  | [], bs => by simp [kPick]
  | w :: ws, [] => by simp [kPick]
  | w :: ws, b :: bs => by
    have := kPick_sum ws bs
    unfold kPick
    split <;> simp <;> omega
theorem kPick_len : ∀ (ws : List Str) (bs : List Bool), (kPick ws bs).length ≤ ws.length
  | [], bs => by simp [kPick]
  | w :: ws, [] => by simp [kPick]
  | w :: ws, b :: bs => by
    have := kPick_len ws bs
    unfold kPick
    split <;> simp <;> omega
theorem kPick_step : ∀ (ws : List Str) (bs : List Bool) (i : Nat) (w : Str) (b : Bool), ws[i]? = some w → bs[i]? = some b →
    kPick (ws.take (i + 1)) (bs.take (i + 1)) = kPick (ws.take i) (bs.take i) ++ (if b = true then [w] else [])
  | [], _, i, w, b, h, _ => by simp at h
  | _ :: _, [], i, w, b, _, h => by simp at h
  | v :: ws, c :: bs, 0, w, b, h1, h2 => by
    simp at h1 h2; subst h1; subst h2
    simp [kPick]
  | v :: ws, c :: bs, i + 1, w, b, h1, h2 => by
    have e := kPick_step ws bs i w b (by simpa using h1) (by simpa using h2)
    simp only [List.take_succ_cons] at e ⊢
    simp only [kPick]
    rw [e]
    split <;> simp
def kText (b : Nat → Bool) : Str := Txt.join "" (kPick kWords (kSome b))
section
variable {P : Program} {w : World} {K : PySem.W.Frag} {mg : Str → Option Value} {base : Heap} {f : Addr} {fd : FuncData}
def spKinds (K : PySem.W.Frag) (D : Nat → Addr) : Addr → Obj → Hp → VK → Prop := fun _ oe H Q => ∃ C b, Rec oe (.ref C) none ∧ KindOf K D C b ∧ ∀ H', Same H H' → Q (.str (kText b)) H'
theorem scKinds : FnScope ["e", "some", "words", "k"] ["e"] (defScope s__law_kinds) := ⟨rfl, rfl, rfl, by decide +kernel, rfl, by decide +kernel, by decide +kernel⟩
def listIn : Expr → List Expr
  | .List es _ => es
  | .BinOp _ _ (.List es _) _ => es
  | _ => []
def asgVal : Stmt → Expr
  | .Assign _ e _ => e
  | _ => .Constant .none 0 ⟨0, 0, 0, 0⟩
theorem kW10_ok : strsD (listIn (asgVal ((defBody s__law_kinds).getD 3 (.Pass ⟨0, 0, 0, 0⟩)))) = some kW10 := by kernel_rfl
theorem kW3_ok : strsD (listIn (asgVal ((defBody s__law_kinds).getD 4 (.Pass ⟨0, 0, 0, 0⟩)))) = some kW3 := by kernel_rfl
theorem kS3 : (defBody s__law_kinds).getD 3 (.Pass ⟨0, 0, 0, 0⟩) = .Assign [.Name "words" ⟨106, 4, 106, 9⟩] (.List (listIn (asgVal ((defBody s__law_kinds).getD 3 (.Pass ⟨0, 0, 0, 0⟩)))) ⟨106, 12, 106, 116⟩) ⟨106, 4, 106, 116⟩ := by kernel_rfl
theorem kS4 : (defBody s__law_kinds).getD 4 (.Pass ⟨0, 0, 0, 0⟩) = .Assign [.Name "words" ⟨107, 4, 107, 9⟩] (.BinOp (.Name "words" ⟨107, 12, 107, 17⟩) .Add (.List (listIn (asgVal ((defBody s__law_kinds).getD 4 (.Pass ⟨0, 0, 0, 0⟩)))) ⟨107, 20, 107, 44⟩) ⟨107, 12, 107, 44⟩) ⟨107, 4, 107, 44⟩ := by kernel_rfl
@[irreducible] def stK (i : Nat) : Stmt := (defBody s__law_kinds).getD i (.Pass ⟨0, 0, 0, 0⟩)
theorem st_un {X : Cx} {t : TS} (i : Nat) (h : PS X ((defBody s__law_kinds).getD i (.Pass ⟨0, 0, 0, 0⟩)) t) : PS X (stK i) t := by unfold stK; exact h
theorem body_kinds : defBody s__law_kinds = [stK 0, stK 1, stK 2, stK 3, stK 4, stK 5, stK 6] := by kernel_rfl
theorem ps_w3 {X : Cx} (hN : X.N.Nodup) (hi : X.N[2]? = some (Str.ofString "words")) (hx : Loc X.env.scope (Str.ofString "words")) (hf : X.fn (Str.ofString "words") = true) : PS X (stK 3) (tSetS 2 kW10) := by
  unfold stK
  rw [kS3]
  exact @ps_setS X 2 (Str.ofString "words") (listIn (asgVal ((defBody s__law_kinds).getD 3 (.Pass ⟨0, 0, 0, 0⟩)))) _ _ _ kW10 hN hi hx hf kW10_ok
theorem ps_w4 {X : Cx} (hN : X.N.Nodup) (hi : X.N[2]? = some (Str.ofString "words")) (hx : Loc X.env.scope (Str.ofString "words")) (hf : X.fn (Str.ofString "words") = true) : PS X (stK 4) (tCatS 2 kW3) := by
  unfold stK
  rw [kS4]
  exact @ps_catS X 2 (Str.ofString "words") (listIn (asgVal ((defBody s__law_kinds).getD 4 (.Pass ⟨0, 0, 0, 0⟩)))) _ _ _ _ _ kW3 hN hi hx hf kW3_ok (by decide) (by decide)
theorem ok_kinds {D : Nat → Addr} (B : Bi mg) (M : Cls12 mg D) (F : Fun K "_law_kinds" "_law_kinds" s__law_kinds f fd) (bn : Binds K fd ["e"] []) (m : mg "_law_kinds" = some (.ref f)) : FnH P w K mg base "_law_kinds" 1 (spKinds K D) := by
  refine fnH_of F scKinds bn m fun cdv A outer s H e oe Q hr hq h => ?_
  obtain ⟨C, b, rc, Z, q⟩ := h
  have hp : (e, oe) ∈ (cxH P w K mg base ["e", "some", "words", "k"] "_law_kinds" (defScope s__law_kinds) f cdv A outer s H e oe).pn := List.mem_singleton.mpr rfl
  rw [body_kinds]
  refine ⟨_, (pss_cons (st_un 0 (ps_set (i := 1) scKinds.nd rfl (Or.inr rfl) (pe_lst (pa_cons (pe_callB (call_isE hp rc Z.get (cv := .ref (D 0)) rfl Z.k0 (fun _ r => r)) rfl B.isinstance_ bt_isinstance (pa_cons (pv 0) (pa_cons (pe_glob rfl M.m0 (v := .ref (D 0)) rfl) pa_nil))) (pa_cons (pe_callB (call_isE hp rc Z.get (cv := .ref (D 1)) rfl Z.k1 (fun _ r => r)) rfl B.isinstance_ bt_isinstance (pa_cons (pv 0) (pa_cons (pe_glob rfl M.m1 (v := .ref (D 1)) rfl) pa_nil))) (pa_cons (pe_callB (call_isE hp rc Z.get (cv := .ref (D 2)) rfl Z.k2 (fun _ r => r)) rfl B.isinstance_ bt_isinstance (pa_cons (pv 0) (pa_cons (pe_glob rfl M.m2 (v := .ref (D 2)) rfl) pa_nil))) (pa_cons (pe_callB (call_isE hp rc Z.get (cv := .ref (D 3)) rfl Z.k3 (fun _ r => r)) rfl B.isinstance_ bt_isinstance (pa_cons (pv 0) (pa_cons (pe_glob rfl M.m3 (v := .ref (D 3)) rfl) pa_nil))) pa_nil)))))))
   (pss_cons (st_un 1 (ps_set (i := 1) scKinds.nd rfl (Or.inr rfl) (pe_op op_cat (pv 1) (pe_lst (pa_cons (pe_callB (call_isE hp rc Z.get (cv := .ref (D 4)) rfl Z.k4 (fun _ r => r)) rfl B.isinstance_ bt_isinstance (pa_cons (pv 0) (pa_cons (pe_glob rfl M.m4 (v := .ref (D 4)) rfl) pa_nil))) (pa_cons (pe_callB (call_isE hp rc Z.get (cv := .ref (D 5)) rfl Z.k5 (fun _ r => r)) rfl B.isinstance_ bt_isinstance (pa_cons (pv 0) (pa_cons (pe_glob rfl M.m5 (v := .ref (D 5)) rfl) pa_nil))) (pa_cons (pe_callB (call_isE hp rc Z.get (cv := .ref (D 6)) rfl Z.k6 (fun _ r => r)) rfl B.isinstance_ bt_isinstance (pa_cons (pv 0) (pa_cons (pe_glob rfl M.m6 (v := .ref (D 6)) rfl) pa_nil))) (pa_cons (pe_callB (call_isE hp rc Z.get (cv := .ref (D 7)) rfl Z.k7 (fun _ r => r)) rfl B.isinstance_ bt_isinstance (pa_cons (pv 0) (pa_cons (pe_glob rfl M.m7 (v := .ref (D 7)) rfl) pa_nil))) pa_nil))))))))
   (pss_cons (st_un 2 (ps_set (i := 1) scKinds.nd rfl (Or.inr rfl) (pe_op op_cat (pv 1) (pe_lst (pa_cons (pe_callB (call_isE hp rc Z.get (cv := .ref (D 8)) rfl Z.k8 (fun _ r => r)) rfl B.isinstance_ bt_isinstance (pa_cons (pv 0) (pa_cons (pe_glob rfl M.m8 (v := .ref (D 8)) rfl) pa_nil))) (pa_cons (pe_callB (call_isE hp rc Z.get (cv := .ref (D 9)) rfl Z.k9 (fun _ r => r)) rfl B.isinstance_ bt_isinstance (pa_cons (pv 0) (pa_cons (pe_glob rfl M.m9 (v := .ref (D 9)) rfl) pa_nil))) (pa_cons (pe_callB (call_isE hp rc Z.get (cv := .ref (D 10)) rfl Z.k10 (fun _ r => r)) rfl B.isinstance_ bt_isinstance (pa_cons (pv 0) (pa_cons (pe_glob rfl M.m10 (v := .ref (D 10)) rfl) pa_nil))) (pa_cons (pe_callB (call_isE hp rc Z.get (cv := .ref (D 11)) rfl Z.k11 (fun _ r => r)) rfl B.isinstance_ bt_isinstance (pa_cons (pv 0) (pa_cons (pe_glob rfl M.m11 (v := .ref (D 11)) rfl) pa_nil))) pa_nil))))))))
   (pss_cons (@ps_w3 (cxH P w K mg base ["e", "some", "words", "k"] "_law_kinds" (defScope s__law_kinds) f cdv A outer s H e oe) scKinds.nd rfl (Or.inr rfl) rfl)
   (pss_cons (@ps_w4 (cxH P w K mg base ["e", "some", "words", "k"] "_law_kinds" (defScope s__law_kinds) f cdv A outer s H e oe) scKinds.nd rfl (Or.inr rfl) rfl)
   (pss_cons (st_un 5 (ps_expr (pe_bm PySem.F.plainAttrs_list PySem.F.slot_list_append PySem.F.type_list_append mt_append (pv 1) (pa_cons (pe_callB (call_isE hp rc Z.get (cv := .ty "ValueError") rfl Z.kV (fun _ r => r)) rfl B.isinstance_ bt_isinstance (pa_cons (pv 0) (pa_cons (pe_ty rfl M.noV bt_ValueError) pa_nil))) pa_nil))))
   (pss_one (st_un 6 (ps_ret (pe_join pe_str (pe_lcQ (own := [("k", 3)]) (g := gName 3) ⟨e, oe, _, _, hq, List.mem_singleton.mpr rfl, rc⟩ scKinds.nd (piq_range1 B.range_ (pa_cons pe_int pa_nil)) (blkOk_by (own := [("k", 3)]) (N := ["e", "some", "words", "k"]) (sc := (defScope s__law_kinds)) (by decide +kernel)) (fun _ _ _ _ _ => (pg_name (i := 3) scKinds.nd rfl (Or.inl rfl))) (fun _ _ _ _ _ => (pts_one (pt_val (pe_ix (ix_listK (K := K) rfl) (pv 1) (pv 3) (fun _ _ => rfl))))) (fun _ _ _ _ _ => (pe_ix (ix_listK (K := K) rfl) (pv 2) (pv 3) (fun _ _ => rfl)))))))))))))), ?_⟩
  refine ⟨_, rfl, rfl, _, rfl, rfl, _, rfl, rfl, _, rfl, rfl, (by show 4 ≤ sizeLine; decide), fun p1 h1 => ?_⟩
  have s1 := same_put h1 (.lst [V.bl (b 0), V.bl (b 1), V.bl (b 2), V.bl (b 3)])
  have g1 : upd H p1 (.lst [V.bl (b 0), V.bl (b 1), V.bl (b 2), V.bl (b 3)]) p1 = some (.lst [V.bl (b 0), V.bl (b 1), V.bl (b 2), V.bl (b 3)]) := L2.upd_same
  generalize upd H p1 (.lst [V.bl (b 0), V.bl (b 1), V.bl (b 2), V.bl (b 3)]) = H1 at g1 s1
  refine ⟨_, rfl, _, rfl, rfl, _, rfl, rfl, _, rfl, rfl, _, rfl, rfl, (by show 4 ≤ sizeLine; decide), fun p2 h2 => ⟨p1, p2, _, _, rfl, rfl, by rw [upd_ne (ne_of_none g1 h2)]; exact g1, L2.upd_same, (by show 8 ≤ sizeLine; decide), fun p3 h3 => ?_⟩⟩
  have s3 := (s1.trans (same_put h2 (.lst [V.bl (b 4), V.bl (b 5), V.bl (b 6), V.bl (b 7)]))).trans (same_put h3 (.lst ([V.bl (b 0), V.bl (b 1), V.bl (b 2), V.bl (b 3)] ++ [V.bl (b 4), V.bl (b 5), V.bl (b 6), V.bl (b 7)])))
  have g3 : upd (upd H1 p2 (.lst [V.bl (b 4), V.bl (b 5), V.bl (b 6), V.bl (b 7)])) p3 (.lst ([V.bl (b 0), V.bl (b 1), V.bl (b 2), V.bl (b 3)] ++ [V.bl (b 4), V.bl (b 5), V.bl (b 6), V.bl (b 7)])) p3 = some (.lst [V.bl (b 0), V.bl (b 1), V.bl (b 2), V.bl (b 3), V.bl (b 4), V.bl (b 5), V.bl (b 6), V.bl (b 7)]) := L2.upd_same
  generalize upd (upd H1 p2 (.lst [V.bl (b 4), V.bl (b 5), V.bl (b 6), V.bl (b 7)])) p3 (.lst ([V.bl (b 0), V.bl (b 1), V.bl (b 2), V.bl (b 3)] ++ [V.bl (b 4), V.bl (b 5), V.bl (b 6), V.bl (b 7)])) = H3 at g3 s3
  refine ⟨_, rfl, _, rfl, rfl, _, rfl, rfl, _, rfl, rfl, _, rfl, rfl, (by show 4 ≤ sizeLine; decide), fun p4 h4 => ⟨p3, p4, _, _, rfl, rfl, by rw [upd_ne (ne_of_none g3 h4)]; exact g3, L2.upd_same, (by show 12 ≤ sizeLine; decide), fun p5 h5 => ?_⟩⟩
  have s5 := (s3.trans (same_put h4 (.lst [V.bl (b 8), V.bl (b 9), V.bl (b 10), V.bl (b 11)]))).trans (same_put h5 (.lst ([V.bl (b 0), V.bl (b 1), V.bl (b 2), V.bl (b 3), V.bl (b 4), V.bl (b 5), V.bl (b 6), V.bl (b 7)] ++ [V.bl (b 8), V.bl (b 9), V.bl (b 10), V.bl (b 11)])))
  have f5 : H p5 = none := (s3.trans (same_put h4 _)).free h5
  have g5 : upd (upd H3 p4 (.lst [V.bl (b 8), V.bl (b 9), V.bl (b 10), V.bl (b 11)])) p5 (.lst ([V.bl (b 0), V.bl (b 1), V.bl (b 2), V.bl (b 3), V.bl (b 4), V.bl (b 5), V.bl (b 6), V.bl (b 7)] ++ [V.bl (b 8), V.bl (b 9), V.bl (b 10), V.bl (b 11)])) p5 = some (.lst (([b 0, b 1, b 2, b 3, b 4, b 5, b 6, b 7, b 8, b 9, b 10, b 11]).map V.bl)) := L2.upd_same
  generalize upd (upd H3 p4 (.lst [V.bl (b 8), V.bl (b 9), V.bl (b 10), V.bl (b 11)])) p5 (.lst ([V.bl (b 0), V.bl (b 1), V.bl (b 2), V.bl (b 3), V.bl (b 4), V.bl (b 5), V.bl (b 6), V.bl (b 7)] ++ [V.bl (b 8), V.bl (b 9), V.bl (b 10), V.bl (b 11)])) = H5 at g5 s5
  refine ⟨by decide, fun p6 h6 => ⟨p6, _, rfl, L2.upd_same, by decide, fun p7 p8 h7 h8 => ?_⟩⟩
  have k6 := same_put h6 (.lst (kW10.map V.str))
  have k7 := same_put h7 (.lst (kW3.map V.str))
  have k8 := same_put h8 (.lst (kW10.map V.str ++ kW3.map V.str))
  have s8 := s5.trans (k6.trans (k7.trans k8))
  have g8 := k8 _ _ (k7 _ _ (k6 _ _ g5))
  have w8 : upd (upd (upd H5 p6 (.lst (kW10.map V.str))) p7 (.lst (kW3.map V.str))) p8 (.lst (kW10.map V.str ++ kW3.map V.str)) p8 = some (.lst (kWords.map V.str)) := by rw [L2.upd_same, ← List.map_append]; rfl
  have n58 : p8 ≠ p5 := (ne_of_none (k7 _ _ (k6 _ _ g5)) h8).symm
  generalize upd (upd (upd H5 p6 (.lst (kW10.map V.str))) p7 (.lst (kW3.map V.str))) p8 (.lst (kW10.map V.str ++ kW3.map V.str)) = H8 at s8 g8 w8
  refine ⟨_, rfl, .inl ⟨rfl, _, SqL.of g8⟩, _, rfl, rfl, p5, _, _, rfl, rfl, g8, (by show 12 < sizeLine; decide), ?_⟩
  have s9 : Same H (upd H8 p5 (.lst ((kSome b).map V.bl))) := fun c o q => by rw [upd_ne (ne_of_none q f5)]; exact s8 c o q
  have g9 : upd H8 p5 (.lst ((kSome b).map V.bl)) p5 = some (.lst ((kSome b).map V.bl)) := L2.upd_same
  have w9 : upd H8 p5 (.lst ((kSome b).map V.bl)) p8 = some (.lst (kWords.map V.str)) := by rw [upd_ne n58]; exact w8
  rw [show (([b 0, b 1, b 2, b 3, b 4, b 5, b 6, b 7, b 8, b 9, b 10, b 11]).map V.bl ++ [V.bl true]) = (kSome b).map V.bl from rfl]
  generalize upd H8 p5 (.lst ((kSome b).map V.bl)) = H9 at s9 g9 w9
  refine ⟨⟨_, rfl⟩, 13, rfl, by decide, by decide, fun Dd hD => ?_⟩
  have nD5 : p5 ≠ Dd := ne_of_none g9 hD
  have nD8 : p8 ≠ Dd := ne_of_none w9 hD
  refine lc_range (Pv := fun i H' => Same H H' ∧ H' Dd = some (.lst ((kPick (kWords.take i) ((kSome b).take i)).map V.str)) ∧ H' p5 = some (.lst ((kSome b).map V.bl)) ∧ H' p8 = some (.lst (kWords.map V.str))) ⟨s9.trans (same_put hD _), L2.upd_same, by rw [upd_ne nD5]; exact g9, by rw [upd_ne nD8]; exact w9⟩ (fun i H' hi pv => ?_) (fun H' pv => ?_)
  · obtain ⟨sm, gD, g5', g8'⟩ := pv
    have hi : i < 13 := hi
    have l1 : i < (kSome b).length := hi
    have l2 : i < kWords.length := hi
    have e1 : (kSome b)[i]? = some (kSome b)[i] := List.getElem?_eq_getElem l1
    have e2 : kWords[i]? = some kWords[i] := List.getElem?_eq_getElem l2
    have st := kPick_step kWords (kSome b) i _ _ e2 e1
    refine ⟨rfl, _, rfl, _, rfl, p5, _, _, .bl (kSome b)[i], rfl, rfl, SqL.of g5', atN (by omega) (by rw [show ((0 : Int) + (i : Int)).toNat = i by omega, List.getElem?_map, e1]; rfl), _, rfl, ite2 (fun c => ?_) (fun c => ?_)⟩
    · refine ⟨_, rfl, _, rfl, p8, _, _, .str kWords[i], rfl, rfl, SqL.of g8', atN (by omega) (by rw [show ((0 : Int) + (i : Int)).toNat = i by omega, List.getElem?_map, e2]; rfl), _, gD, ?_, ?_, ?_, ?_, ?_⟩
      · have z1 := kPick_len (kWords.take i) ((kSome b).take i)
        have z2 : (kWords.take i).length ≤ 13 := by rw [List.length_take]; omega
        rw [List.length_map, sizeLine_eq]; omega
      · exact fun c o q => by
          have hc : c ≠ Dd := fun z => by rw [z] at q; rw [s9.free hD] at q; cases q
          rw [upd_ne hc]; exact sm c o q
      · rw [L2.upd_same, st, c]; simp
      · rw [upd_ne nD5]; exact g5'
      · rw [upd_ne nD8]; exact g8'
    · refine ⟨sm, ?_, g5', g8'⟩
      have c' : (kSome b)[i] = false := by simpa using c
      rw [gD, st, c']; simp
  · obtain ⟨sm, gD, _, _⟩ := pv
    refine ⟨_, Dd, kPick kWords (kSome b), rfl, rfl, .inl (SqL.of gD), ?_, q H' sm⟩
    have z := kPick_sum kWords (kSome b)
    have z2 := kPick_len kWords (kSome b)
    have z3 : (kWords.map (·.length)).sum ≤ 100 := by decide
    have z4 : kWords.length = 13 := rfl
    have z5 : (Str.ofString "").length = 0 := rfl
    rw [z5]; omega
end
end Hs
set_option Elab.async false
set_option linter.all false
set_option maxRecDepth 100000
namespace L2
open PySem PySem.Spec PyProof.Rows PySem.SeqAt
section
variable {X : Cx}
end
end L2
set_option Elab.async false
set_option linter.all false
set_option maxRecDepth 100000
namespace Hs
open PySem PySem.Spec PySem.Calls PyProof.Rows PySem.W
section
variable {prog : Program} {w : World} {A : Around} {E : Value → Shared → Prop} {h : Heap} {g : Array GenState} {d : Drawn} {t : Nat} {os : OsState}
variable {nm q : Str} {C N : Addr} {bs bm bmB : List Value} {hdct : Bool} {sn : List Str} {sub : List Value} {ab : Bool} {col : Option Bool} {dd : Option Addr} {k0 k1 k2 k3 k5 : Option Value} {B newId initId : String}
end
section
variable {prog : Program} {w : World} {A : Around} {E : Value → Shared → Prop} {s : Shared} {K : Frag} {C S x : Addr} {name : Str} {v : Value}
end
end Hs
set_option Elab.async false
set_option linter.all false
set_option maxRecDepth 100000
namespace Hs
open PySem PySem.Spec PySem.Calls PyProof.Rows PySem.W
section
variable {prog : Program} {w : World} {M : Model} {A : Around} {E : Value → Shared → Prop} {h : Heap} {g : Array GenState} {d : Drawn} {t : Nat} {os : OsState}
end
end Hs
set_option Elab.async false
set_option linter.all false
set_option maxRecDepth 100000
namespace Hs
open PySem PySem.Spec PySem.Calls PyProof.Rows PySem.W L2
section
variable {M : Model} {prog : Program} {w : World} {A : Around} {E : Value → Shared → Prop} {s : Shared}
end
section
variable {prog : Program} {w : World} {A : Around} {E : Value → Shared → Prop} {s : Shared} {K : Frag} {mg : Str → Option Value} {base : Heap} {C S fI e tt : Addr} {p fld : Str} {pts : List PySem.Expr} {tp : Pos} {v a1 a2 a3 a4 a5 : Value}
end
end Hs
set_option Elab.async false
set_option linter.all false
set_option maxRecDepth 100000
namespace Hs
open PySem PySem.Spec PySem.Calls PyProof.Rows PySem.W
section
variable {prog : Program} {w : World} {A : Around} {E : Value → Shared → Prop} {h : Heap} {g : Array GenState} {d : Drawn} {t : Nat} {os : OsState} {K : Frag} {a C : Addr} {o : Obj} {od : Obj} {f : Str} {v : Value}
theorem lookIn_ns {dx : Addr} {m : Str → Option Value} (hn : h.Ns1 dx m) (ho : h.get? dx = some od) (hv : m f = some v) : lookIn f od = some (some v) := by
  obtain ⟨o, es, ep, e, hd, _, _, hf⟩ := hn
  cases e.symm.trans ho
  unfold lookIn
  rw [hd]
  have q := (hf f).trans hv
  unfold nsFind findBy at q
  rw [← Array.find?_toList] at q
  dsimp only
  cases z : es.toList.find? (·.key.isStr f) with
  | none => rw [z] at q; cases q
  | some en => rw [z] at q; exact congrArg _ q
end
end Hs
namespace Hs
open PySem PySem.Spec PyProof.Rows L2
def XO (e C : Addr) (od : Option Addr) : HO := .ext fun h => ∃ vs sl, h.get? e = some ⟨.ref C, od, .fields vs, sl⟩
section
variable {X : Cx} {e C S fI : Addr} {b : Bool} {cv : V} {cu : Value} {od : Option Addr} {x f p fld : Str} {np cpos pos : Pos} {a : Expr} {ta : TE} {t : TA} {j : Nat} {pts : List Expr} {tp : Pos}
def Kept (H : Hp) (e C : Addr) (od : Option Addr) : Prop := H e = some (XO e C od) ∧ (od = none ∨ ∃ dx fs, od = some dx ∧ H dx = some (.xd fs))
theorem Kept.same {H H' : Hp} (k : Kept H e C od) (s : Same H H') : Kept H' e C od := ⟨s _ _ k.1, k.2.imp id fun ⟨dx, fs, a, b⟩ => ⟨dx, fs, a, s _ _ b⟩⟩
end
theorem un_laidN {fs ex : List Addr} {H : Hp} {h h' : Heap} {a : Addr} {o : HO} (k : ∀ b u, h.get? b = some u → h'.get? b = some u) (hg : h.get? a = none) (hn : H a = none) : Un fs ex H (upd H a o) h h' where
  keep := fun b u q _ _ _ => k b u q
  slot := fun b u q _ _ _ => ⟨u.slots, k b u q⟩
  free := fun b u q n _ => by rw [upd_ne (fun z => by rw [z, hg] at q; cases q)]; exact n
  there := fun b u q _ => ⟨u, k b u q⟩
  tups := fun b xs q => by rw [upd_ne (ne_of_none q hn)]; exact q
  frzs := fun b u xs q => by rw [upd_ne (ne_of_none q hn)]; exact q
  tbls := fun b ps q => ⟨#[], by rw [upd_ne (ne_of_none q hn), q]; simp⟩
theorem hok_laidN {P : Program} {w : World} {H : Hp} {h h' : Heap} {a : Addr} {o : HO} (x : HOk P w H h) (k : ∀ b u, h.get? b = some u → h'.get? b = some u) (hn : H a = none) (new : ObjOk P w (upd H a o) h' a o) : HOk P w (upd H a o) h' := fun b u e => by
  by_cases hb : b = a
  · subst hb; rw [upd_same] at e; cases e; exact new
  · rw [upd_ne hb] at e
    exact (x b u e).stay (fun c v _ q => k c v q) (fun c q => by rw [upd_ne (ne_of_none q hn)]; exact q) fun c xs q => by rw [upd_ne (ne_of_none q hn)]; exact q
section
variable {X : Cx} {e C S fI : Addr} {b : Bool} {cv : V} {cu : Value} {od : Option Addr} {x f p fld : Str} {np cpos pos : Pos} {a : Expr} {ta : TE} {t : TA} {j : Nat} {pts : List Expr} {tp : Pos}
end
end Hs
set_option Elab.async false
set_option linter.all false
set_option maxRecDepth 100000
set_option maxHeartbeats 1000000
namespace L2
open PySem PySem.Spec PyProof.Rows
theorem lc_str {x : Str} {g : TG} {tt : TT} {te : TE} {vs : List Nat} {σ : St} {H1 : Hp} {D : Addr} {Qd : Hp → Prop} (Pv : Nat → Hp → Prop) (h0 : Pv 0 (upd H1 D (.lst [])))
    (hs : ∀ i c H, x.cps[i]? = some c → Pv i H → g (.str ⟨#[c]⟩) (wipe σ vs) H fun σ2 H2 => wipe σ2 vs = wipe σ vs ∧ tt σ2 H2 fun b H3 =>
      if b = true then te σ2 H3 fun y H4 => ∃ acc, H4 D = some (.lst acc) ∧ acc.length < sizeLine ∧ Pv (i + 1) (upd H4 D (.lst (acc ++ [y]))) else Pv (i + 1) H3) (hd : ∀ H, Pv x.cps.size H → Qd H) :
    ∃ W : Nat → Nat → Hp → Prop, (∃ m, W 0 m (upd H1 D (.lst []))) ∧ ∀ i m H, W i m H →
      ((Its x).stop i H ∧ Qd H) ∨ ((Its x).go i H ∧ ∃ Nx : Hp → Prop, (∀ H', Nx H' → ∃ m', m' < m ∧ W (i + 1) m' H') ∧ ∀ y H', (Its x).yld i H y H' → g y (wipe σ vs) H' fun σ2 H2 => wipe σ2 vs = wipe σ vs ∧ tt σ2 H2 fun b H3 =>
        if b = true then te σ2 H3 fun y H4 => ∃ acc, H4 D = some (.lst acc) ∧ acc.length < sizeLine ∧ Nx (upd H4 D (.lst (acc ++ [y]))) else Nx H3) := by
  refine ⟨fun i m H => m = x.cps.size - i ∧ i ≤ x.cps.size ∧ Pv i H, ⟨x.cps.size, by simp, Nat.zero_le _, h0⟩, ?_⟩
  rintro i m H ⟨rfl, hi, p⟩
  by_cases hlt : i < x.cps.size
  · refine .inr ⟨hlt, Pv (i + 1), fun H' p' => ⟨x.cps.size - (i + 1), by omega, rfl, hlt, p'⟩, fun y H' yl => ?_⟩
    obtain ⟨e, c, hc, ey⟩ := yl
    subst e ey
    exact hs i c _ hc p
  · have e : i = x.cps.size := by omega
    subst e
    exact .inl ⟨Nat.le_refl _, hd H p⟩
section
variable {X : Cx}
end
end L2
set_option Elab.async false
set_option linter.all false
set_option maxRecDepth 100000
set_option maxHeartbeats 2000000
namespace PySem
open PySem.Spec PyProof.Rows L2
theorem Walks.tupleAt {prog : Program} {w : World} {A : Around} (hh : A.handled = none) (I ax : Addr) (hne : ax ≠ I) (items : Array Value) (k : Nat) (hk : k ≤ items.size) :
    Walks prog w A I [I, ax] [I] (items.size - k) (fun i v => items[k + i]? = some v) (fun i h => h.IsTupleIter I ax (k + i) ∧ h.IsTuple ax items) where
  sub := fun b hb => by simp at hb; simp [hb]
  frame := fun _ _ _ st hk => ⟨st.1.at fun o e => hk I (by simp) o e, st.2.at fun o e => hk ax (by simp) o e⟩
  item := fun i s Q E hi st hQ => by
    have hlt : k + i < items.size := by omega
    refine wpAny_pyNext_tuple_item st.1 st.2 (x := items[k + i]) (by simp [hlt]) fun h' hit' hs' => ?_
    exact hQ _ h' s.toks (by simp [hlt]) ⟨hit', st.2.extBut hs'.extBut hne⟩ fun b o hb e => hs'.extBut b o (fun h => hb (by simp [h])) e
  done := fun s Q E st hQ => wpAny_pyNext_tuple_end hh st.1 st.2 (by simp; omega) fun h' he' => hQ h' s.toks fun b o hb e => he' b o (fun h => hb (by simp [h])) e
  self := fun _ _ _ _ st hQ => wpAny_pyIter_tupleiter st.1 hQ
section
variable {prog : Program} {w : World} {A : Around} {E : Value → Shared → Prop} {s : Shared}
theorem unpackItems_star {t : Addr} {x : Value} {rest : List Value} {Q : List Value → Shared → Prop} (hh : A.handled = none) (ht : s.heap.IsTuple t (x :: rest).toArray) (hz : rest.length ≤ sizeLine)
    (hQ : ∀ h' tk l, (∀ b o, s.heap.get? b = some o → h'.get? b = some o) → s.heap.get? l = none → h'.get? l = some { cls := .type "list", data := .seq rest.toArray } → Q [x, .ref l] { s with heap := h', toks := tk }) : wpAny (model prog w) A (unpackItems (.ref t) 2 (some 1)) Q E s := by
  have hlt : t ≠ s.heap.objs.size := by obtain ⟨o, ho, _⟩ := ht; exact Nat.ne_of_lt (Heap.lt_size ho)
  have hlt2 : t < s.heap.objs.size := by obtain ⟨o, ho, _⟩ := ht; exact Heap.lt_size ho
  unfold unpackItems
  refine wpAny_bind ?_
  unfold notIterableAtAll
  refine wpAny_bind (wpAny_specialOf ht.typeIs F.slot_tuple_iter.lookup ?_)
  refine wpAny_pure ?_
  simp only [Bool.false_eq_true, if_false]
  refine wpAny_bind (wpAny_holding (wpAny_pyIter_tuple ht ?_))
  refine wpAny_bind (wpAny_holding (wpAny_draw_tuple hlt 1 0 _ _ ⟨_, Heap.get?_push_size _ rfl, rfl, rfl⟩ (ht.push _) (by simp) fun h₁ hit₁ hs₁ => ?_))
  have e1 : List.take 1 (List.drop 0 (x :: rest).toArray.toList) = [x] := rfl
  rw [e1]
  rw [if_neg (by simp)]
  have ht₁ : h₁.IsTuple t (x :: rest).toArray := (ht.push _).extBut hs₁.extBut hlt
  have sz : h₁.objs.size = s.heap.objs.size + 1 := by rw [hs₁.1, Heap.size_push]
  have W := (Walks.tupleAt (prog := prog) (w := w) (A := A.in1) (by simp [hh]) s.heap.objs.size t hlt (x :: rest).toArray 1 (by simp)).toS
  refine wpAny_bind (wpAny_holding (wpAny_collect_iter (T := "tuple_iterator") (.inr (.inr (.inr rfl))) W (fun i s st => st.1.typeIs) ⟨hit₁, ht₁⟩ (fun b hb => ?_) (by simp) (fun s' acc mv hacc => ?_) (by simp; omega)))
  · have : b = s.heap.objs.size ∨ b = t := by simpa using hb
    show b < h₁.objs.size
    rw [sz]
    rcases this with q | q
    · rw [q]; exact Nat.lt_succ_self _
    · rw [q]; exact Nat.lt_succ_of_lt hlt2
  · have eacc : acc.toList = rest := by
      obtain ⟨hl, hg⟩ := hacc
      have hl' : acc.size = rest.length := by simpa using hl
      apply List.ext_getElem?
      intro i
      by_cases q : i < rest.length
      · have := hg i (acc[i]'(by omega)) (by simp [hl', q])
        simp only [List.getElem?_toArray] at this
        rw [Nat.add_comm, List.getElem?_cons_succ] at this
        rw [this]; simp [hl', q]
      · rw [List.getElem?_eq_none (by rw [Array.length_toList]; omega), List.getElem?_eq_none (by omega)]
    rw [eacc]
    rw [if_neg (by simp)]
    have e2 : rest.take (rest.length - (2 - 1 - 1)) = rest := by simp
    have e3 : rest.drop (rest.length - (2 - 1 - 1)) = [] := by simp
    rw [e2, e3]
    refine wpAny_bind (wpAny_newObj_type (wpAny_pure ?_) (by show rest.toArray.size ≤ _; rw [List.size_toArray]; exact hz))
    obtain ⟨h3, g3, d3, t3, o3⟩ := s'
    obtain rfl : g3 = s.gens := mv.gens
    obtain rfl : d3 = s.drawn := mv.drawn
    obtain rfl : o3 = s.os := mv.os
    have old : ∀ b o, s.heap.get? b = some o → h3.get? b = some o := fun b o e => mv.heap b o (fun z => by
      have : b = s.heap.objs.size := by simpa using z
      exact Nat.ne_of_lt (Heap.lt_size e) this) (hs₁.extBut b o (Nat.ne_of_lt (Heap.lt_size e)) (Heap.get?_push_of_some _ e))
    have ile : s.heap.get? h3.objs.size = none := by
      cases e : s.heap.get? h3.objs.size with
      | none => rfl
      | some o => exact absurd (Heap.lt_size (old _ _ e)) (Nat.lt_irrefl _)
    exact hQ _ _ _ (fun b o e => Heap.get?_push_of_some _ (old b o e)) ile (Heap.get?_push_size _ rfl)
end
end PySem
namespace L2
open PySem PySem.Spec PyProof.Rows
section
variable {X : Cx} {pos : Pos}
theorem pgs_star {e : Expr} {es : List Expr} {p : Pos} {t : TG} {u : TGs} (h1 : PG X e t) (h2 : PGs X es u)
    (hs : (assignEach (.Starred e p :: es) X.env).map (·.2) = assign e X.env :: (assignEach es X.env).map (·.2) := by rfl) : PGs X (.Starred e p :: es) (gCons t u) := by
  intro pins s σ H vs us Q I r h
  obtain ⟨v, vr, e1, h⟩ := h
  subst e1
  cases r with
  | cons r rs =>
    rw [hs]
    exact wpAny_bind (wpAny_holding (thn (h1 pins s σ H v _ _ I r h) fun _ s1 ⟨σ', H', I', q⟩ => h2 pins s1 σ' H' vr _ Q I' rs q))
def gStar (K : PySem.W.Frag) (t : TGs) : TG := fun v σ H Q => ∃ (a : Addr) (x : V) (xs : List V), v = .ref a ∧ SqT K H a (x :: xs) ∧ ∀ l, H l = none → t [x, .ref l] σ (upd H l (.lst xs)) Q
theorem pg_star {es : List Expr} {k : Nat} {t : TGs} (hc : X.calm = true) (h : PGs X es t)
    (hn : (assignEach es X.env).length = 2 := by rfl) (hst : (assignEach es X.env).findIdx? (·.1) = some 1 := by rfl) : PG X (.Tuple es k pos) (gStar X.K t) := by
  intro pins s σ H v u Q I r hw
  obtain ⟨a, x, xs, e1, hq, hw⟩ := hw
  subst e1
  cases r
  obtain ⟨its, rv, ht, hz⟩ := I.tuple hq
  cases rv with
  | @cons _ v0 _ us0 r0 rs0 =>
    have hl : xs.length ≤ sizeLine := by rw [List.length_cons] at hz; omega
    have hl2 := rs0.length
    rw [assign_Tuple]
    refine wpAny_bind (wpAny_standAt ?_)
    unfold unpack
    rw [hn, hst]
    refine wpAny_bind (wpAny_holding (unpackItems_star (I.ok.hd hc) ht (by rw [← hl2]; exact hl) fun h' tk l hk hn0 hl' => ?_))
    have hnl : H l = none := by
      cases z : H l with
      | none => rfl
      | some u => exact (Hs.objOk_there (I.hok l u z) hn0).elim
    have I1 : Inv X pins σ (upd H l (.lst xs)) { s with heap := h', toks := tk } := I.un (Hs.un_laidN hk hn0 hnl) (Hs.hok_laidN I.hok hk hnl ⟨hl, us0, 0, rs0, hl'⟩)
    exact h pins _ σ _ _ _ Q I1 (.cons r0 (.cons (show RelV (.ref l) (.ref l) from rfl) .nil)) (hw l hnl)
def PJE (X : Cx) (es : List Expr) (t : St → Hp → (Str → Hp → Prop) → Prop) : Prop := ∀ (n : Nat) (out : Str) (pins : List (Addr × Obj)) (s : Shared) (σ : St) (H : Hp) (Q : Str → Hp → Prop), n + es.length ≤ 100 → out.length ≤ n * 2000 → Inv X pins σ H s → t σ H (fun z H' => Q (out ++ z) H') →
  wpAny (model X.prog X.w) X.A (joinParts out (evalEach es X.env)) (fun v s' => ∃ txt tk H', v = .str txt tk ∧ Inv X pins σ H' s' ∧ Q txt H') X.xe s
theorem str_assoc (a b c : Str) : a ++ (b ++ c) = a ++ b ++ c := by
  exact congrArg Str.mk (Array.append_assoc ..).symm
theorem str_nil (a : Str) : a ++ Str.empty = a := by
  have : a.cps ++ #[] = a.cps := by simp
  exact congrArg Str.mk this
theorem pje_nil : PJE X [] (fun σ H Q => Q Str.empty H) := fun n out pins s σ H Q hn ho I h =>
  joinParts_nil ⟨out, _, H, rfl, I.tok _, by dsimp only at h; rw [str_nil] at h; exact h⟩ (line_of (m := 0) (by simpa using hn) ho)
theorem pje_raw {e : Expr} {es : List Expr} {te : TE} {t : St → Hp → (Str → Hp → Prop) → Prop} (he : PE X e te) (r : PJE X es t) : PJE X (e :: es) (fun σ H Q => te σ H fun x H1 => ∃ c, x = .str c ∧ c.length ≤ 2000 ∧ t σ H1 fun z H2 => Q (c ++ z) H2) := fun n out pins s σ H Q hn ho I hq => by
  have hn' : n + 1 + es.length ≤ 100 := by have : (e :: es).length = es.length + 1 := rfl; omega
  show wpAny _ _ (joinParts out (eval e X.env :: evalEach es X.env)) _ _ s
  refine joinParts_cons (thn (he pins s σ H _ I hq) fun v s1 ⟨x, H1, I1, rv, c, hx, hc, q⟩ => ?_)
  subst hx
  obtain ⟨tk, rfl⟩ := rv
  have hl : (out ++ c).length ≤ (n + 1) * 2000 := by rw [strLen_append]; omega
  refine ⟨line_of hn' hl, r (n + 1) (out ++ c) pins s1 σ H1 Q hn' hl I1 ?_⟩
  simp only [str_assoc] at q
  exact q
theorem pje_str {e : Expr} {es : List Expr} {te : TE} {t : St → Hp → (Str → Hp → Prop) → Prop} {pos : Pos} (he : PE X e te) (r : PJE X es t) : PJE X (.FormattedValue e (-1) none pos :: es) (fun σ H Q => te σ H fun x H1 => ∃ c, x = .str c ∧ c.length ≤ 2000 ∧ t σ H1 fun z H2 => Q (c ++ z) H2) := fun n out pins s σ H Q hn ho I hq => by
  have hn' : n + 1 + es.length ≤ 100 := by have : (Expr.FormattedValue e (-1) none pos :: es).length = es.length + 1 := rfl; omega
  show wpAny _ _ (joinParts out (eval (.FormattedValue e (-1) none pos) X.env :: evalEach es X.env)) _ _ s
  refine joinParts_cons (FormattedValue_plain (thn (he pins s σ H _ I hq) fun v s1 ⟨x, H1, I1, rv, c, hx, hc, q⟩ => ?_))
  subst hx
  obtain ⟨tk, rfl⟩ := rv
  have hl : (out ++ c).length ≤ (n + 1) * 2000 := by rw [strLen_append]; omega
  simp only [str_assoc] at q
  exact formatField_str (fun t' tk' => ⟨line_of hn' hl, r (n + 1) _ pins _ σ H1 Q hn' hl (I1.tok _) q⟩) (by rw [sizeLine_eq]; omega)
def tFstrE (t : St → Hp → (Str → Hp → Prop) → Prop) : TE := fun σ H Q => t σ H fun txt H1 => Q (.str txt) H1
theorem pe_fstrE {v1 v2 : Expr} {vs : List Expr} {pos : Pos} {t : St → Hp → (Str → Hp → Prop) → Prop} (h : PJE X (v1 :: v2 :: vs) t) (hl : (v1 :: v2 :: vs).length ≤ 100 := by decide) : PE X (.JoinedStr (v1 :: v2 :: vs) pos) (tFstrE t) := fun pins s σ H Q I hq =>
  JoinedStr_many (thn (h 0 Str.empty pins s σ H (fun z H' => Q (.str z) H') (by simpa using hl) (by decide) I (by
    have e : ∀ z : Str, Str.empty ++ z = z := fun z => by
      have : #[] ++ z.cps = z.cps := by simp
      exact congrArg Str.mk this
    simp only [e]
    exact hq)) fun v s' ⟨txt, tk, H', e, I', q⟩ => ⟨.str txt, H', I', ⟨tk, e⟩, q⟩)
def tRevS (te : TE) : TE := fun σ H Q => te σ H fun x H1 => ∃ z : Str, x = .str z ∧ z.length ≤ 2 ∧ ∀ z' : Str, z'.length ≤ 2 → (∀ c ∈ z'.cps.toList, c ∈ z.cps.toList) → Q (.str z') H1
theorem rev_two {z : Str} (h : z.length ≤ 2) : ((Builtin.Str.strSliceIndices none none (-1) z.length).filterMap (z.cps[·]?)).length ≤ 2 := by
  have e : (Builtin.Str.strSliceIndices none none (-1) z.length).length ≤ 2 := by
    have : z.length = 0 ∨ z.length = 1 ∨ z.length = 2 := by omega
    rcases this with h | h | h <;> rw [h] <;> decide
  exact Nat.le_trans (List.length_filterMap_le _ _) e
theorem pe_revS {e : Expr} {te : TE} {pos' up pos p2 : Pos} {j : Nat} (he : PE X e te) : PE X (.Subscript e (.Slice none none (some (.UnaryOp .USub (.Constant (.int 1) j pos') up)) p2) pos) (tRevS te) := by
  intro pins s σ H Q I h
  refine Subscript_ (thn (he pins s σ H _ I h) fun v s1 ⟨x, H1, I1, r1, z, ex, h2, q⟩ => ?_)
  subst ex
  obtain ⟨t0, rfl⟩ := r1
  refine wpAny_Slice ?_
  rw [evalPart_none, evalPart_some]
  refine wpAny_pure (wpAny_pure ?_)
  refine thn (pe_un un_neg pe_int pins s1 σ H1 (fun v H' => v = .int (-1) ∧ H' = H1) I1 ⟨1, rfl, rfl, rfl⟩) fun vk s2 ⟨y, H2, I2, r2, ey, eh⟩ => ?_
  subst ey eh
  obtain ⟨tk, rfl⟩ := r2
  have I4 : Inv X pins σ H2 { s2 with heap := s2.heap.push { cls := .type "slice", data := .fields #[.none, .none, .int (-1) tk] } } := I2.kept (t' := s2.toks) fun b ob q => Heap.get?_push_of_some _ q
  show wpAny (model X.prog X.w) X.A (subscriptTail e (.Slice none none (some (.UnaryOp .USub (.Constant (.int 1) j pos') up)) p2) (.str z t0) (.ref s2.heap.objs.size)) (EP X pins σ Q) X.xe { s2 with heap := s2.heap.push { cls := .type "slice", data := .fields #[.none, .none, .int (-1) tk] } }
  have hl := rev_two h2
  refine tail_any (ops := [.str z t0, .ref s2.heap.objs.size]) (typeIs_str _ z t0) F.slot_str_getitem.lookup (wpAny_getItem_str_slice (l := none) (u := none) (st := some (-1, tk)) (Heap.IsSliceOf.new ..) rfl ?_) (by with_unfolding_all rfl)
  show Made.post (if ((-1 : Int) == 1 && (Builtin.Str.strSliceIndices none none (-1) z.length).length == z.length) = true then Made.val (.str z t0)
    else Made.str ⟨((Builtin.Str.strSliceIndices none none (-1) z.length).filterMap (z.cps[·]?)).toArray⟩) (EP X pins σ Q) _
  rw [if_neg (by simp)]
  refine ⟨?_, .str _, H2, I4.tok _, ⟨_, rfl⟩, q _ ?_ fun c hc => ?_⟩
  · show (List.toArray _).size ≤ sizeLine
    rw [List.size_toArray, sizeLine_eq]; omega
  · show (List.toArray _).size ≤ 2
    rw [List.size_toArray]; exact hl
  · rw [List.toList_toArray] at hc
    obtain ⟨i, _, hi⟩ := List.mem_filterMap.mp hc
    have : z.cps.toList[i]? = some c := by rw [Array.getElem?_toList]; exact hi
    exact List.mem_of_getElem? this
end
end L2
set_option Elab.async false
set_option linter.all false
set_option maxRecDepth 100000
set_option maxHeartbeats 1000000
namespace Hs
open PySem PySem.Spec PySem.Calls PyProof.Rows L2
def CodeOf (H : Hp) (c' : Addr) (lq : Str) : Prop := ∃ oc vs t, H c' = some (.frz oc (.own 0)) ∧ oc.data = .fields vs ∧ vs[1]? = some (.str lq t)
def LamTab (pos : Pos) (lq : Str) (H : Hp) (P : Addr) : Prop :=
  ∃ ps, H P = some (.tbl ps) ∧ TriplesOk ps.toList ∧ (codeAmong pos ps.toList = none ∨ ∃ c', codeAmong pos ps.toList = some (.ref c') ∧ CodeOf H c' lq)
section
variable {X : Cx}
end
end Hs
set_option Elab.async false
set_option linter.all false
set_option maxRecDepth 100000
set_option maxHeartbeats 1000000
namespace Hs
open PySem PySem.Spec PySem.Calls PyProof.Rows L2
section
variable {X : Cx}
end
abbrev SpS := Shared → List Env → List V → Hp → VK → Prop
section
variable {X : Cx} {x : Str} {ps : List Str} {k j : Nat} {sp : SpS} {e : Expr} {es : List Expr} {t : TA} {p pos : Pos} {spH : L2.St → List V → Hp → VK → Prop}
end
end Hs
set_option Elab.async false
set_option linter.all false
set_option maxRecDepth 100000
set_option maxHeartbeats 1000000
namespace Hs
open PySem PySem.Spec PySem.Calls PyProof.Rows L2
end Hs
set_option Elab.async false
set_option linter.all false
set_option maxRecDepth 100000
set_option maxHeartbeats 1000000
namespace Hs
open PySem PySem.Spec PySem.Calls PyProof.Rows L2
structure FunC (K : PySem.W.Frag) (x qual : Str) (st : Stmt) (f : Addr) (fd : FuncData) (c : Addr) : Prop where
  ex : ∃ (oc : Value) (od : Option Addr) (kV doc pm : Value) (an : Option Addr) (ct : Value) (osl : Array (Option Value)),
    fd = PySem.W.fnOf x qual (defArgs st) (defBody st) (defScope st) .none kV doc pm an (.ref c) ct ∧ K.lookup f = some ⟨oc, od, .func fd, osl⟩ ∧ PySem.W.codeIn K (.ref c) qual = true
  kp : PySem.W.keepIn K (.ref f) = true
theorem FunC.ok {P : Program} {w : World} {K : PySem.W.Frag} {mg : Str → Option Value} {base : Heap} {x qual : Str} {st : Stmt} {f c : Addr} {fd : FuncData} {N ps : List Str} {k : Nat} {sp : Sp} (F : FunC K x qual st f fd c) (S : FnScope N ps (defScope st)) (len : ∀ vs H Q E, sp vs H Q E → vs.length = ps.length)
    (hbody : ∀ (A : Around) (outer : List Env) (s : Shared) (H : Hp) (vs : List V) (Q : VK) (E : XK), Room k (A.deeper (envOfC qual (defScope st) s.heap.objs.size f (.ref c))) → sp vs H Q E →
      ∃ t, PSs (cxOf CX0 P w K mg base N qual (defScope st) f (.ref c) A outer s H E).nox (defBody st) t ∧ t { nx := fun _ H' => Q .non H', rt := Q } (start N vs) H) : FnOk P w K mg base CX0 (k + 1) f fd ps sp := by
  obtain ⟨oc, od, kV, doc, pm, an, ct, osl, rfl, lk, hcd⟩ := F.ex
  refine L2.fn_of lk hcd S len fun A outer s H vs Q E hr hsp => ?_
  obtain ⟨t, h, q⟩ := hbody A outer s H vs Q E hr hsp
  exact ⟨t, h.nox, q⟩
end Hs
set_option Elab.async false
set_option linter.all false
set_option maxRecDepth 100000
set_option maxHeartbeats 1000000
namespace Hs
open PySem L2
theorem gd_i (k : Nat) (i : Int) : Gd k (.int i) := ⟨by simp [PyData.canLay0], by simp [PyData.depth], by simp [wd]⟩
theorem gd_s (k : Nat) {x : Str} (h : PyData.strOk x = true) : Gd k (.str x) := ⟨by simpa [PyData.canLay0] using h, by simp [PyData.depth], by simp [wd]⟩
theorem _root_.L2.Gd.eqv {k : Nat} {d : PyData} (g : Gd k d) : PyData.eqv d d = true := SeqAt.eqv_refl d g.lay
theorem yesT {σ : St} {H : Hp} {A B : Hp → Prop} (h : A H) : tYes σ H (fun b H3 => if b = true then A H3 else B H3) := by
  have z : (if true = true then A H else B H) := by rw [if_pos rfl]; exact h
  exact z
theorem same_set {H H' : Hp} {p : Addr} {o : HO} (s : Same H H') (h : H p = none) : Same H (upd H' p o) := fun b u q => by rw [upd_ne (ne_of_none q h)]; exact s b u q
theorem dpAll_of {K : PySem.W.Frag} {H : Hp} : ∀ (rs : List Addr) (ds : List PyData), rs.length = ds.length → (∀ (j : Nat) r d, rs[j]? = some r → ds[j]? = some d → Dp K H (.ref r) d) → DpAll K H (rs.map V.ref) ds
  | [], [], _, _ => .nil
  | r :: rs, d :: ds, hl, h => .cons (h 0 r d rfl rfl) (dpAll_of rs ds (by simpa using hl) fun j r' d' h1 h2 => h (j + 1) r' d' (by simpa using h1) (by simpa using h2))
  | [], _ :: _, hl, _ => by simp at hl
  | _ :: _, [], hl, _ => by simp at hl
end Hs
set_option linter.all false
namespace Hs
abbrev InR (n : Nat) (x : Int) : Prop := 0 ≤ x ∧ x < n
inductive Trail (f : Int → Option Int) (h0 : Int) : Int → List Int → Prop
  | last {x : Int} : (f x = none ∨ f x = some h0) → Trail f h0 x [x]
  | step {x y : Int} {l : List Int} : f x = some y → y ≠ h0 → Trail f h0 y l → Trail f h0 x (x :: l)
def trl (f : Int → Option Int) (h0 : Int) : Nat → Int → List Int
  | 0, x => [x]
  | k + 1, x => x :: (match f x with
    | none => []
    | some y => if y = h0 then [] else trl f h0 k y)
theorem trl_of {f : Int → Option Int} {h0 x : Int} {l : List Int} (t : Trail f h0 x l) : ∀ k, l.length ≤ k + 1 → trl f h0 k x = l := by
  induction t with
  | last h =>
    intro k _
    cases k with
    | zero => rfl
    | succ k =>
      unfold trl
      rcases h with h | h
      · rw [h]
      · rw [h]; simp
  | @step x y l h hy t ih =>
    intro k hk
    have hl : 1 ≤ l.length := by cases t <;> simp
    cases k with
    | zero => rw [List.length_cons] at hk; omega
    | succ k =>
      unfold trl
      rw [h]
      simp only [if_neg hy]
      rw [ih k (by simpa using hk)]
theorem Trail.head {f : Int → Option Int} {h0 x : Int} {l : List Int} (t : Trail f h0 x l) : ∃ r, l = x :: r := by
  cases t with
  | last h => exact ⟨[], rfl⟩
  | step h hy t => exact ⟨_, rfl⟩
theorem Trail.fin {f : Int → Option Int} {h0 x : Int} {l : List Int} (t : Trail f h0 x l) : ∃ z, l.getLast? = some z ∧ (f z = none ∨ f z = some h0) := by
  induction t with
  | @last x h => exact ⟨x, rfl, h⟩
  | @step x y l h hy t ih =>
    obtain ⟨z, e, q⟩ := ih
    obtain ⟨r, rfl⟩ := t.head
    exact ⟨z, by rw [List.getLast?_cons_cons]; exact e, q⟩
theorem Trail.all {f : Int → Option Int} {h0 x : Int} {l : List Int} (t : Trail f h0 x l) {P : Int → Prop} (h : P x) (st : ∀ a b, P a → f a = some b → P b) : ∀ z ∈ l, P z := by
  induction t with
  | @last x _ => intro z hz; rw [List.mem_singleton.mp hz]; exact h
  | @step x y l e hy t ih =>
    intro z hz
    rcases List.mem_cons.mp hz with rfl | hz
    · exact h
    · exact ih (st _ _ h e) z hz
theorem Trail.from {f : Int → Option Int} {h0 x : Int} {l : List Int} (t : Trail f h0 x l) : ∀ z ∈ l, z = x ∨ ∃ w ∈ l, f w = some z := by
  induction t with
  | @last x _ => intro z hz; exact .inl (List.mem_singleton.mp hz)
  | @step x y l e hy t ih =>
    intro z hz
    rcases List.mem_cons.mp hz with rfl | hz
    · exact .inl rfl
    · rcases ih z hz with rfl | ⟨w, hw, q⟩
      · exact .inr ⟨x, by simp, e⟩
      · exact .inr ⟨w, List.mem_cons_of_mem _ hw, q⟩
theorem Trail.into {f : Int → Option Int} {h0 x : Int} {l : List Int} (t : Trail f h0 x l) : ∀ z ∈ l, ∀ y, f z = some y → y = h0 ∨ y ∈ l := by
  induction t with
  | @last x h =>
    intro z hz y e
    rw [List.mem_singleton.mp hz] at e
    rcases h with h | h
    · rw [h] at e; cases e
    · rw [h] at e; exact .inl (Option.some.inj e).symm
  | @step x y l h hy t ih =>
    intro z hz w e
    rcases List.mem_cons.mp hz with rfl | hz
    · rw [h] at e
      obtain rfl := Option.some.inj e
      obtain ⟨r, rfl⟩ := t.head
      exact .inr (by simp)
    · rcases ih z hz w e with q | q
      · exact .inl q
      · exact .inr (List.mem_cons_of_mem _ q)
theorem nd_len : ∀ (n : Nat) (l : List Int), l.Nodup → (∀ z ∈ l, InR n z) → l.length ≤ n
  | 0, l, _, h => by
    cases l with
    | nil => simp
    | cons a r => have := h a (by simp); omega
  | n + 1, l, nd, h => by
    have ih := nd_len n (l.erase (n : Int)) (nd.erase _) fun z hz => by
      obtain ⟨h1, h2⟩ := (List.Nodup.mem_erase_iff nd).mp hz
      have := h z h2
      omega
    by_cases m : (n : Int) ∈ l
    · rw [List.length_erase_of_mem m] at ih; omega
    · rw [List.erase_of_not_mem m] at ih; omega
theorem trail_go {f : Int → Option Int} {n : Nat} {h0 : Int} (rng : ∀ x y, InR n x → f x = some y → InR n y) (inj : ∀ x y z, InR n x → InR n y → f x = some z → f y = some z → x = y) :
    ∀ (k : Nat) (v : List Int) (x : Int), (v ++ [x]).Nodup → (∀ z ∈ v ++ [x], InR n z) → (∀ z ∈ v ++ [x], z = h0 ∨ ∃ w ∈ v, f w = some z) → n ≤ v.length + k → ∃ l, Trail f h0 x l ∧ (v ++ l).Nodup ∧ ∀ z ∈ v ++ l, InR n z
  | 0, v, x, nd, hr, _, hk => by
    have := nd_len n _ nd hr
    simp at this; omega
  | k + 1, v, x, nd, hr, hf, hk => by
    cases e : f x with
    | none => exact ⟨[x], .last (.inl e), nd, hr⟩
    | some y =>
      by_cases hy : y = h0
      · exact ⟨[x], .last (.inr (by rw [e, hy])), nd, hr⟩
      · have hx : InR n x := hr x (by simp)
        have ny : y ∉ v ++ [x] := fun m => by
          rcases hf y m with q | ⟨w, hw, q⟩
          · exact hy q
          · have := inj w x y (hr w (by simp [hw])) hx q e
            subst this
            have nd' := (List.nodup_append.mp nd).2.2 w hw w (by simp)
            exact nd' rfl
        obtain ⟨l, t, nd2, hr2⟩ := trail_go rng inj k (v ++ [x]) y (by
            rw [List.nodup_append]
            exact ⟨nd, by simp, fun a ha b hb => by rw [List.mem_singleton.mp hb]; exact fun z => ny (z ▸ ha)⟩)
          (fun z hz => by
            rcases List.mem_append.mp hz with m | m
            · exact hr z m
            · rw [List.mem_singleton.mp m]; exact rng x y hx e)
          (fun z hz => by
            rcases List.mem_append.mp hz with m | m
            · rcases hf z m with q | ⟨w, hw, q⟩
              · exact .inl q
              · exact .inr ⟨w, by simp [hw], q⟩
            · rw [List.mem_singleton.mp m]; exact .inr ⟨x, by simp, e⟩)
          (by simp; omega)
        refine ⟨x :: l, .step e hy t, ?_, ?_⟩
        · rwa [List.append_assoc] at nd2
        · rwa [List.append_assoc] at hr2
theorem trail_ex {f : Int → Option Int} {n : Nat} {h0 : Int} (rng : ∀ x y, InR n x → f x = some y → InR n y) (inj : ∀ x y z, InR n x → InR n y → f x = some z → f y = some z → x = y) (h : InR n h0) :
    ∃ l, Trail f h0 h0 l ∧ l.Nodup ∧ (∀ z ∈ l, InR n z) ∧ l.length ≤ n := by
  obtain ⟨l, t, nd, hr⟩ := trail_go (h0 := h0) rng inj n [] h0 (by simp) (by simpa using h) (by simp) (by simp)
  exact ⟨l, t, by simpa using nd, by simpa using hr, nd_len n l (by simpa using nd) (by simpa using hr)⟩
theorem trl_ex {f : Int → Option Int} {n : Nat} {h0 : Int} (rng : ∀ x y, InR n x → f x = some y → InR n y) (inj : ∀ x y z, InR n x → InR n y → f x = some z → f y = some z → x = y) (h : InR n h0) :
    Trail f h0 h0 (trl f h0 n h0) ∧ (trl f h0 n h0).Nodup ∧ (∀ z ∈ trl f h0 n h0, InR n z) ∧ (trl f h0 n h0).length ≤ n := by
  obtain ⟨l, t, nd, hr, hl⟩ := trail_ex rng inj h
  rw [trl_of t n (by omega)]
  exact ⟨t, nd, hr, hl⟩
def Lin (f : Int → Option Int) : List Int → Prop
  | [] => True
  | [_] => True
  | x :: y :: r => f x = some y ∧ Lin f (y :: r)
theorem Trail.lin {f : Int → Option Int} {h0 x : Int} {l : List Int} (t : Trail f h0 x l) : Lin f l := by
  induction t with
  | last h => trivial
  | @step x y l e hy t ih =>
    obtain ⟨r, rfl⟩ := t.head
    exact ⟨e, ih⟩
theorem Lin.from {f : Int → Option Int} : ∀ {x : Int} {l : List Int}, Lin f (x :: l) → ∀ z ∈ l, ∃ w, w ∈ x :: l ∧ f w = some z
  | x, [], _, z, hz => by cases hz
  | x, y :: r, h, z, hz => by
    rcases List.mem_cons.mp hz with rfl | hz
    · exact ⟨x, by simp, h.1⟩
    · obtain ⟨w, hw, e⟩ := Lin.from h.2 z hz
      exact ⟨w, List.mem_cons_of_mem _ hw, e⟩
theorem trail_of_lin {f : Int → Option Int} {h0 : Int} : ∀ {x : Int} {l : List Int}, Lin f (x :: l) → (∀ z ∈ l, z ≠ h0) → (∀ z, (x :: l).getLast? = some z → f z = none ∨ f z = some h0) → Trail f h0 x (x :: l)
  | x, [], _, _, hl => .last (hl x rfl)
  | x, y :: r, h, hn, hl => .step h.1 (hn y (by simp)) (trail_of_lin h.2 (fun z hz => hn z (List.mem_cons_of_mem _ hz)) fun z hz => hl z (by rw [List.getLast?_cons_cons]; exact hz))
end Hs
set_option linter.all false
namespace Hs
def lkM (ms : List (Option Int)) (x : Int) : Option Int := (ms[x.toNat]?).getD none
def ahd (on : List Int) (h : Int) : Int := ((on.idxOf h : Nat) : Int)
def lefM (on : List Int) (ms : List (Option Int)) (h : Int) : Option Int := lkM ms (ahd on h)
def rigM (on : List Int) (ms : List (Option Int)) (h : Int) : Option Int := (lkM ms h).map (lk on)
def onwF (on : List Int) (x : Int) : Option Int := some (lk on x)
def patL (on : List Int) (h : Int) : List Int := trl (onwF on) h on.length h
theorem ahd_get {on : List Int} {h : Int} (m : h ∈ on) : on[on.idxOf h]? = some h := by
  rw [List.getElem?_eq_getElem (List.idxOf_lt_length_iff.mpr m)]; simp
theorem ahd_rng {on : List Int} {h : Int} (m : h ∈ on) : 0 ≤ ahd on h ∧ ahd on h < on.length := by
  have := List.idxOf_lt_length_iff.mpr m
  unfold ahd; omega
theorem lkM_some {ms : List (Option Int)} {half m : Int} (e : lkM ms half = some m) : ms[half.toNat]? = some (some m) := by
  unfold lkM at e
  cases e2 : ms[half.toNat]? with
  | none => rw [e2] at e; cases e
  | some o => rw [e2] at e; exact congrArg some e
section
variable {on : List Int} {ms : List (Option Int)} (S : SkinOk on ms)
include S
theorem SkinOk.mem {h : Int} (g : InR on.length h) : h ∈ on := S.sur h g.1 g.2
theorem SkinOk.lkR {x : Int} (g : InR on.length x) : InR on.length (lk on x) :=
  S.rng _ (List.mem_of_getElem? (lk_get (by omega)))
theorem SkinOk.lkI {x y : Int} (g : InR on.length x) (k : InR on.length y) (e : lk on x = lk on y) : x = y := by
  have h1 := lk_get (l := on) (x := x) (by omega)
  have h2 := lk_get (l := on) (x := y) (by omega)
  rw [e] at h1
  have := nd_at S.nd h1 h2
  omega
theorem SkinOk.lkA {y : Int} (g : InR on.length y) : lk on (ahd on y) = y := by
  have h := ahd_get (S.mem g)
  have r := ahd_rng (S.mem g)
  have h2 := lk_get (l := on) (x := ahd on y) (by omega)
  have e : (ahd on y).toNat = on.idxOf y := by unfold ahd; omega
  rw [e, h] at h2
  exact (Option.some.inj h2).symm
theorem SkinOk.ahR {y : Int} (g : InR on.length y) : InR on.length (ahd on y) := ahd_rng (S.mem g)
theorem SkinOk.mate {x m : Int} (g : InR on.length x) (e : lkM ms x = some m) : InR on.length m ∧ lkM ms m = some x ∧ m ≠ x := by
  obtain ⟨h1, h2, h3, h4⟩ := S.ok x.toNat m (lkM_some e)
  refine ⟨⟨h1, h2⟩, ?_, fun z => h3 (by omega)⟩
  unfold lkM
  rw [h4]
  show some ((x.toNat : Nat) : Int) = some x
  congr 1; omega
theorem SkinOk.lefG {x y : Int} (g : InR on.length x) (e : lefM on ms x = some y) : rigM on ms y = some x := by
  obtain ⟨gy, hy, _⟩ := S.mate (S.ahR g) e
  unfold rigM
  rw [hy]
  show some (lk on (ahd on x)) = some x
  rw [S.lkA g]
theorem SkinOk.pat {h : Int} (g : InR on.length h) : Trail (onwF on) h h (patL on h) ∧ (patL on h).Nodup ∧ (∀ z ∈ patL on h, InR on.length z) ∧ (patL on h).length ≤ on.length :=
  trl_ex (fun x y gx e => by cases e; exact S.lkR gx) (fun x y z gx gy a b => S.lkI gx gy ((Option.some.inj a).trans (Option.some.inj b).symm)) g
theorem SkinOk.row {g : Int} {l : List Int} (gl : ∀ z ∈ g :: l, InR on.length z) (hg : rigM on ms g = none) (L : Lin (lefM on ms) (g :: l)) (hl : ∀ z, (g :: l).getLast? = some z → lefM on ms z = none) : Trail (lefM on ms) g g (g :: l) := by
  refine trail_of_lin L (fun z hz e => ?_) fun z hz => .inl (hl z hz)
  obtain ⟨w, hw, q⟩ := L.from z hz
  have := S.lefG (gl w hw) q
  rw [e, hg] at this; cases this
end
end Hs
set_option linter.all false
namespace Hs
section
variable {on : List Int} {ms : List (Option Int)} (S : SkinOk on ms)
include S
end
end Hs
set_option Elab.async false
set_option linter.all false
set_option maxRecDepth 100000
set_option maxHeartbeats 1000000
namespace L2
open PySem PySem.Spec PyProof.Rows
section
variable {X : Cx}
end
end L2
namespace Hs
open PySem PySem.Spec PyProof.Rows L2
def Loose (H H' : Hp) : Prop := ∀ b o, H b = some o → (∀ ps, o ≠ .tbl ps) → H' b = some o
theorem Loose.refl (H : Hp) : Loose H H := fun _ _ h _ => h
theorem Loose.trans {H H1 H2 : Hp} (a : Loose H H1) (b : Loose H1 H2) : Loose H H2 := fun c o h n => b c o (a c o h n) n
theorem _root_.L2.Same.loose {H H' : Hp} (s : Same H H') : Loose H H' := fun c o h _ => s c o h
theorem Loose.free {H H' : Hp} (l : Loose H H') {b : Addr} (h : H' b = none) (n : ∀ ps, H b ≠ some (.tbl ps)) : H b = none := by
  cases q : H b with
  | none => rfl
  | some o =>
    have := l b o q fun ps z => n ps (by rw [q, z])
    rw [h] at this; cases this
abbrev TabL := List (Addr × Pos × Str)
def Tabs (T : TabL) (H : Hp) : Prop := ∀ t ∈ T, LamTab t.2.1 t.2.2 H t.1
theorem Tabs.tbl {T : TabL} {H : Hp} (h : Tabs T H) {t : Addr × Pos × Str} (m : t ∈ T) : ∃ ps, H t.1 = some (.tbl ps) := let ⟨ps, e, _⟩ := h t m; ⟨ps, e⟩
theorem LamTab.keeps {pos : Pos} {lq : Str} {H H' : Hp} {P : Addr} (h : LamTab pos lq H P) (e : H' P = H P) (l : Loose H H') : LamTab pos lq H' P := by
  obtain ⟨ps, h1, h2, h3⟩ := h
  refine ⟨ps, e.trans h1, h2, ?_⟩
  rcases h3 with h3 | ⟨c, h3, oc, vs, t, k1, k2, k3⟩
  · exact .inl h3
  · exact .inr ⟨c, h3, oc, vs, t, l c _ k1 (fun _ z => nomatch z), k2, k3⟩
theorem Tabs.same {T : TabL} {H H' : Hp} (h : Tabs T H) (s : Same H H') : Tabs T H' := fun t m => by
  obtain ⟨ps, e⟩ := h.tbl m
  exact (h t m).keeps ((s _ _ e).trans e.symm) s.loose
structure Rows (H : Hp) (r : Addr) (rows : List (List Int)) : Prop where
  ex : ∃ rs : List Addr, H r = some (.tup (rs.map V.ref)) ∧ rs.length = rows.length ∧ ∀ (j : Nat) (a : Addr) (row : List Int), rs[j]? = some a → rows[j]? = some row → H a = some (.tup (row.map V.int))
theorem Rows.loose {H H' : Hp} {r : Addr} {rows : List (List Int)} (h : Rows H r rows) (l : Loose H H') : Rows H' r rows := by
  obtain ⟨rs, h1, h2, h3⟩ := h
  exact ⟨rs, l _ _ h1 (fun _ z => nomatch z), h2, fun j a row x y => l _ _ (h3 j a row x y) (fun _ z => nomatch z)⟩
theorem Rows.same {H H' : Hp} {r : Addr} {rows : List (List Int)} (h : Rows H r rows) (s : Same H H') : Rows H' r rows := h.loose s.loose
def rowsD (rows : List (List Int)) : PyData := .tuple (rows.map fun row => .tuple (row.map PyData.int))
theorem dpA_row {K : PySem.W.Frag} {H : Hp} : ∀ xs : List Int, DpAll K H (xs.map V.int) (xs.map PyData.int)
  | [] => .nil
  | x :: r => .cons (.int x) (dpA_row r)
theorem Rows.dp {K : PySem.W.Frag} {H : Hp} {r : Addr} {rows : List (List Int)} (h : Rows H r rows) : Dp K H (.ref r) (rowsD rows) := by
  obtain ⟨rs, h1, h2, h3⟩ := h
  refine .tup (SqT.of h1) (dpAll_of rs _ (by rw [List.length_map, h2]) fun j a d e1 e2 => ?_)
  rw [List.getElem?_map] at e2
  obtain ⟨row, e3, rfl⟩ := Option.map_eq_some_iff.mp e2
  exact .tup (SqT.of (h3 j a row e1 e3)) (dpA_row row)
def onceF (g : Int → List Int) : List Int → List Int → List (List Int)
  | _, [] => []
  | met, h :: r => if h ∈ met then onceF g met r else g h :: onceF g (met ++ g h) r
theorem onceF_mem {g : Int → List Int} : ∀ (hs met : List Int), ∀ row ∈ onceF g met hs, ∃ h ∈ hs, row = g h
  | [], _, row, h => by cases h
  | x :: r, met, row, h => by
    unfold onceF at h
    split at h
    · obtain ⟨y, hy, e⟩ := onceF_mem r met row h
      exact ⟨y, List.mem_cons_of_mem _ hy, e⟩
    · rcases List.mem_cons.mp h with e | h
      · exact ⟨x, by simp, e⟩
      · obtain ⟨y, hy, e⟩ := onceF_mem r _ row h
        exact ⟨y, List.mem_cons_of_mem _ hy, e⟩
def rngL (n : Nat) : List Int := (List.range n).map fun i : Nat => (i : Int)
theorem rngL_mem {n : Nat} {x : Int} : x ∈ rngL n ↔ InR n x := by
  unfold rngL InR
  constructor
  · intro h
    obtain ⟨i, hi, rfl⟩ := List.mem_map.mp h
    have := List.mem_range.mp hi
    omega
  · rintro ⟨h0, h1⟩
    exact List.mem_map.mpr ⟨x.toNat, List.mem_range.mpr (by omega), by omega⟩
theorem rngL_len (n : Nat) : (rngL n).length = n := by unfold rngL; simp
end Hs
set_option Elab.async false
set_option linter.all false
set_option maxRecDepth 100000
set_option maxHeartbeats 1000000
namespace PySem
namespace SetTable
def Ris (xs : Array Nat) : Prop := xs.toList.Pairwise (· < ·)
theorem Ris.at {xs : Array Nat} (R : Ris xs) {a b x y : Nat} (ha : xs[a]? = some x) (hb : xs[b]? = some y) (h : a < b) : x < y := by
  rw [← Array.getElem?_toList] at ha hb
  obtain ⟨h1, e1⟩ := List.getElem?_eq_some_iff.mp ha
  obtain ⟨h2, e2⟩ := List.getElem?_eq_some_iff.mp hb
  rw [← e1, ← e2]
  exact List.pairwise_iff_getElem.mp R a b h1 h2 h
def Cuts (xs : Array Nat) (j r : Nat) : Prop := r ≤ xs.size ∧ (∀ i x, i < r → xs[i]? = some x → x < j) ∧ ∀ i x, r ≤ i → xs[i]? = some x → j ≤ x
theorem below_go {xs : Array Nat} {j : Nat} (R : Ris xs) : ∀ fuel lo hi, hi - lo ≤ fuel → lo ≤ hi → hi ≤ xs.size → (∀ i x, i < lo → xs[i]? = some x → x < j) → (∀ i x, hi ≤ i → xs[i]? = some x → j ≤ x) → Cuts xs j (below.go xs j fuel lo hi)
  | 0, lo, hi, h1, h2, h3, h4, h5 => by
    have : lo = hi := by omega
    subst this
    exact ⟨h3, h4, h5⟩
  | fuel + 1, lo, hi, h1, h2, h3, h4, h5 => by
    unfold below.go
    by_cases c : lo < hi
    · rw [if_pos c]
      dsimp only
      have hm : (lo + hi) / 2 < xs.size := by omega
      have em : xs[(lo + hi) / 2]? = some (xs[(lo + hi) / 2]) := Array.getElem?_eq_getElem hm
      have eg : xs.getD ((lo + hi) / 2) j = xs[(lo + hi) / 2] := by simp [Array.getD, hm]
      by_cases c2 : xs.getD ((lo + hi) / 2) j < j
      · rw [if_pos c2]
        rw [eg] at c2
        refine below_go R fuel _ hi (by omega) (by omega) h3 (fun i x hi' ex => ?_) h5
        rcases Nat.lt_or_ge i ((lo + hi) / 2) with z | z
        · exact Nat.lt_trans (R.at ex em z) c2
        · have : i = (lo + hi) / 2 := by omega
          subst this
          rw [em] at ex
          rw [← Option.some.inj ex]; exact c2
      · rw [if_neg c2]
        rw [eg] at c2
        refine below_go R fuel lo _ (by omega) (by omega) (by omega) h4 (fun i x hi' ex => ?_)
        rcases Nat.lt_or_ge ((lo + hi) / 2) i with z | z
        · have := R.at em ex z; omega
        · have : i = (lo + hi) / 2 := by omega
          subst this
          rw [em] at ex
          rw [← Option.some.inj ex]; omega
    · rw [if_neg c]
      have : lo = hi := by omega
      subst this
      exact ⟨h3, h4, h5⟩
theorem below_cuts {xs : Array Nat} (R : Ris xs) (j : Nat) : Cuts xs j (below xs j) :=
  below_go R _ 0 _ (Nat.le_refl _) (Nat.zero_le _) (Nat.le_refl _) (fun i x h => absurd h (Nat.not_lt_zero _)) fun i x h e => by
    have := (Array.getElem?_eq_some_iff.mp e).1
    omega
theorem Cuts.one {xs : Array Nat} {j r r' : Nat} (h : Cuts xs j r) (h' : Cuts xs j r') : r = r' := by
  rcases Nat.lt_trichotomy r r' with z | z | z
  · have hr : r < xs.size := Nat.lt_of_lt_of_le z h'.1
    have e := Array.getElem?_eq_getElem hr
    have a := h.2.2 r _ (Nat.le_refl _) e
    have b := h'.2.1 r _ z e
    omega
  · exact z
  · have hr : r' < xs.size := Nat.lt_of_lt_of_le z h.1
    have e := Array.getElem?_eq_getElem hr
    have a := h'.2.2 r' _ (Nat.le_refl _) e
    have b := h.2.1 r' _ z e
    omega
theorem Ris.put {xs : Array Nat} (R : Ris xs) {j : Nat} (h : xs[below xs j]? ≠ some j) : Ris (insertAt xs (below xs j) j) := by
  have c := below_cuts R j
  generalize below xs j = p at c h
  obtain ⟨c1, c2, c3⟩ := c
  unfold Ris
  rw [toList_insertAt]
  have hlt : ∀ x ∈ xs.toList.take p, x < j := fun x hx => by
    obtain ⟨i, hi, e⟩ := List.getElem_of_mem hx
    rw [List.getElem_take] at e
    rw [List.length_take] at hi
    exact c2 i x (by omega) (by rw [← Array.getElem?_toList, List.getElem?_eq_getElem (by omega), e])
  have hgt : ∀ x ∈ xs.toList.drop p, j < x := fun x hx => by
    obtain ⟨i, hi, e⟩ := List.getElem_of_mem hx
    rw [List.getElem_drop] at e
    rw [List.length_drop] at hi
    have ex : xs[p + i]? = some x := by rw [← Array.getElem?_toList, List.getElem?_eq_getElem (by omega), e]
    have hp : p < xs.size := by simp at hi; omega
    have ep : xs[p]? = some xs[p] := Array.getElem?_eq_getElem hp
    have h1 := c3 p _ (Nat.le_refl _) ep
    have h2 : xs[p] ≠ j := fun z => h (by rw [ep, z])
    rcases Nat.eq_zero_or_pos i with z | z
    · subst z
      rw [Nat.add_zero, ep] at ex
      have := Option.some.inj ex
      omega
    · have := R.at ep ex (by omega)
      omega
  refine List.pairwise_append.mpr ⟨R.sublist (List.take_sublist _ _), List.pairwise_cons.mpr ⟨hgt, R.sublist (List.drop_sublist _ _)⟩, fun a ha b hb => ?_⟩
  rcases List.mem_cons.mp hb with rfl | hb
  · exact hlt a ha
  · exact Nat.lt_trans (hlt a ha) (hgt b hb)
end SetTable
end PySem
set_option Elab.async false
set_option linter.all false
set_option maxRecDepth 100000
set_option maxHeartbeats 4000000
namespace PySem
open PySem.Spec PyProof.Rows
section
variable {K : Type} [DecidableEq K] {prog : Program} {w : World} {knd : KeyKind prog w K}
variable {A : Around} {E : Value → Shared → Prop} {s : Shared}
end
section
variable {K : Type} [DecidableEq K] {prog : Program} {w : World} {knd : KeyKind prog w K} {A : Around} {E : Value → Shared → Prop} {s : Shared}
variable {R : Result → Shared → Prop} {I : Addr} {fp wr : List Addr} {G : Array GenState → Array GenState → Prop} {n : Nat} {P : Nat → Value → Prop} {St : Nat → Shared → Prop}
end
end PySem
set_option Elab.async false
set_option linter.all false
set_option maxRecDepth 100000
set_option maxHeartbeats 4000000
namespace PySem
open PySem.Spec PyProof.Rows
section
variable {K : Type} [DecidableEq K] {prog : Program} {w : World} {knd : KeyKind prog w K} {A : Around} {E : Value → Shared → Prop} {s : Shared}
end
end PySem
set_option Elab.async false
set_option linter.all false
set_option maxRecDepth 100000
set_option maxHeartbeats 4000000
namespace L2
open PySem PySem.Spec PyProof.Rows
section
variable {X : Cx}
end
end L2
set_option Elab.async false
set_option linter.all false
set_option maxRecDepth 100000
set_option maxHeartbeats 4000000
namespace L2
open PySem PySem.Spec PyProof.Rows
section
variable {P : Program} {w : World} {K : PySem.W.Frag} {mg : Str → Option Value} {base : Heap}
end
section
variable {X : Cx}
end
end L2
set_option Elab.async false
set_option linter.all false
set_option maxRecDepth 100000
set_option maxHeartbeats 1000000
namespace L2
open PySem PySem.Spec PyProof.Rows
section
variable {X : Cx}
def tStar (K : PySem.W.Frag) (te : TE) (t : TA) : TA := fun σ H Q => te σ H fun x H1 => ∃ (a : Addr) (xs : List V), x = .ref a ∧ (SqL K H1 a xs ∨ SqT K H1 a xs) ∧ t σ H1 fun ys H2 => Q (xs ++ ys) H2
theorem _root_.L2.Vals.app {xs ys : List V} {us vs : List Value} (h : Vals xs us) (k : Vals ys vs) : Vals (xs ++ ys) (us ++ vs) := by
  induction h with
  | nil => exact k
  | cons r _ ih => exact .cons r ih
theorem pa_star {e : Expr} {es : List Expr} {p : Pos} {te : TE} {t : TA} (h : PE X e te) (hr : PA X es t) (he : starEach (.Starred e p :: es) X.env = (true, eval e X.env) :: starEach es X.env := by rfl) : PA X (.Starred e p :: es) (tStar X.K te t) := by
  intro pos pins s σ H Q I q
  refine PySem.W.items_star (thn (h pins s σ H _ I q) fun u s1 ⟨x, H1, I1, rx, a, xs, ex, hx, q1⟩ => ?_) he
  subst ex
  obtain rfl : u = Value.ref a := rx
  have rest : ∀ (its : List Value), Vals xs its → ∀ h', (∀ b o, s1.heap.get? b = some o → h'.get? b = some o) → wpAny (model X.prog X.w) X.A (spliced (backTo pos (starEach es X.env))) (fun vs s₃ => AP X pins σ Q (its ++ vs) s₃) X.xe { s1 with heap := h' } := fun its r h' hk =>
    thn (hr pos pins { s1 with heap := h' } σ H1 _ (I1.kept (t' := s1.toks) hk) q1) fun us s2 ⟨ys, H2, I2, r2, q2⟩ => ⟨xs ++ ys, H2, I2, Vals.app r r2, q2⟩
  rcases hx with hx | hx
  · obtain ⟨its, r, hl, z⟩ := I1.list hx
    obtain ⟨o, e1, e2, n, e3⟩ := hl.isList
    have hT : s1.TypeIs (.ref a) "list" := ⟨o, e1, e2⟩
    refine wpAny_bind (wpAny_specialOf hT PySem.F.slot_list_iter.lookup (wpAny_pure ⟨rfl, ?_⟩))
    refine wpAny_collect_seq a (.inl rfl) e1 e2 e3 (fun h' hk => ?_) (by rw [List.size_toArray, ← r.length]; exact z)
    rw [List.toList_toArray]
    exact rest its r h' hk
  · obtain ⟨its, r, hl, z⟩ := I1.tuple hx
    obtain ⟨o, e1, e2, n, e3⟩ := hl
    have hT : s1.TypeIs (.ref a) "tuple" := ⟨o, e1, e2⟩
    refine wpAny_bind (wpAny_specialOf hT PySem.F.slot_tuple_iter.lookup (wpAny_pure ⟨rfl, ?_⟩))
    refine wpAny_collect_seq a (.inr rfl) e1 e2 e3 (fun h' hk => ?_) (by rw [List.size_toArray, ← r.length]; exact z)
    rw [List.toList_toArray]
    exact rest its r h' hk
end
end L2
set_option Elab.async false
set_option linter.all false
set_option maxRecDepth 100000
set_option maxHeartbeats 1000000
namespace L2
open PySem PySem.Spec PyProof.Rows
section
variable {X : Cx}
end
section
variable {X : Cx} {pins : List (Addr × Obj)} {σ : St} {H : Hp} {s : Shared} {a b : Addr} {kvs more : List (Key × V)} {A : Around} {E : Value → Shared → Prop}
end
section
variable {X : Cx} {o e f : Expr} {apos cpos : Pos} {td ty tx : TE}
end
end L2
set_option Elab.async false
set_option linter.all false
set_option maxRecDepth 100000
set_option maxHeartbeats 1000000
namespace Hs
open PySem PySem.Spec PySem.Calls PyProof.Rows L2
end Hs
set_option Elab.async false
set_option linter.all false
set_option maxRecDepth 100000
set_option maxHeartbeats 1000000
namespace L2
open PySem PySem.Spec PyProof.Rows
end L2
namespace Hs
open PySem PySem.Spec PyProof.Rows L2
theorem once_skip {g : Int → List Int} {h : Int} {met r : List Int} (m : h ∈ met) : onceF g met (h :: r) = onceF g met r := by
  show (if h ∈ met then _ else _) = _
  rw [if_pos m]
theorem once_take {g : Int → List Int} {h : Int} {met r : List Int} (m : h ∉ met) : onceF g met (h :: r) = g h :: onceF g (met ++ g h) r := by
  show (if h ∈ met then _ else _) = _
  rw [if_neg m]
end Hs
set_option linter.all false
set_option maxRecDepth 100000
namespace Hs
theorem Lin.at {f : Int → Option Int} : ∀ {l : List Int}, Lin f l → ∀ (i : Nat) (x y : Int), l[i]? = some x → l[i + 1]? = some y → f x = some y
  | [], _, i, x, y, h, _ => by simp at h
  | [a], _, i, x, y, _, h => by simp at h
  | a :: b :: r, L, 0, x, y, h1, h2 => by cases h1; cases h2; exact L.1
  | a :: b :: r, L, i + 1, x, y, h1, h2 => Lin.at L.2 i x y h1 h2
theorem lin_of {f : Int → Option Int} : ∀ {l : List Int}, (∀ (i : Nat) (x y : Int), l[i]? = some x → l[i + 1]? = some y → f x = some y) → Lin f l
  | [], _ => trivial
  | [_], _ => trivial
  | a :: b :: r, h => ⟨h 0 a b rfl rfl, lin_of fun i x y h1 h2 => h (i + 1) x y h1 h2⟩
def rot (l : List Int) (k : Nat) : List Int := l.drop k ++ l.take k
theorem rot_len (l : List Int) {k : Nat} (h : k ≤ l.length) : (rot l k).length = l.length := by unfold rot; simp; omega
theorem rot_mem {l : List Int} {k : Nat} {z : Int} : z ∈ rot l k ↔ z ∈ l := by
  unfold rot
  have : l.take k ++ l.drop k = l := List.take_append_drop k l
  constructor
  · intro h
    rw [← this]
    rcases List.mem_append.mp h with q | q
    · exact List.mem_append_right _ q
    · exact List.mem_append_left _ q
  · intro h
    rw [← this] at h
    rcases List.mem_append.mp h with q | q
    · exact List.mem_append_right _ q
    · exact List.mem_append_left _ q
theorem rot_at {l : List Int} {k i : Nat} (h : k < l.length) : (rot l k)[i]? = if i < l.length - k then l[k + i]? else if i < l.length then l[i - (l.length - k)]? else none := by
  unfold rot
  by_cases c : i < l.length - k
  · rw [if_pos c, List.getElem?_append_left (by simp; omega), List.getElem?_drop]
  · rw [if_neg c, List.getElem?_append_right (by simp; omega)]
    simp only [List.length_drop]
    by_cases d : i < l.length
    · rw [if_pos d, List.getElem?_take, if_pos (by omega)]
    · rw [if_neg d, List.getElem?_take, if_neg (by omega)]
theorem last_at {l : List Int} : l.getLast? = l[l.length - 1]? := List.getLast?_eq_getElem?
theorem rot_trail {f : Int → Option Int} {h : Int} {l : List Int} (t : Trail f h h l) (nd : l.Nodup) (cl : ∀ z, l.getLast? = some z → f z = some h) {k : Nat} {x : Int} (hx : l[k]? = some x) :
    Trail f x x (rot l k) ∧ ∀ z, (rot l k).getLast? = some z → f z = some x := by
  have L := t.lin
  obtain ⟨r0, er0⟩ := t.head
  have h0 : l[0]? = some h := by rw [er0]; rfl
  obtain ⟨hk, ek⟩ := List.getElem?_eq_some_iff.mp hx
  have lastC : ∀ z, (rot l k).getLast? = some z → f z = some x := fun z hz => by
    rw [last_at, rot_len l (by omega), rot_at hk] at hz
    by_cases k0 : k = 0
    · subst k0
      rw [if_pos (by omega)] at hz
      rw [h0] at hx; cases hx
      exact cl z (by rw [last_at, ← hz]; congr 1; omega)
    · rw [if_neg (by omega), if_pos (by omega)] at hz
      refine L.at (k - 1) z x ?_ (by rw [← hx]; congr 1; omega)
      rw [← hz]; congr 1; omega
  have LR : Lin f (rot l k) := lin_of fun i a b ha hb => by
    rw [rot_at hk] at ha hb
    by_cases c : i + 1 < l.length - k
    · rw [if_pos (by omega)] at ha
      rw [if_pos c] at hb
      exact L.at (k + i) a b ha hb
    · rw [if_neg c] at hb
      by_cases c2 : i < l.length - k
      · rw [if_pos c2] at ha
        have e : i + 1 - (l.length - k) = 0 := by omega
        split at hb
        · rw [e, h0] at hb; cases hb
          exact cl a (by rw [last_at, ← ha]; congr 1; omega)
        · cases hb
      · rw [if_neg c2] at ha
        split at hb
        · rw [if_pos (by omega)] at ha
          refine L.at (i - (l.length - k)) a b ha ?_
          rw [← hb]; congr 1; omega
        · cases hb
  have e : rot l k = x :: (l.drop (k + 1) ++ l.take k) := by
    unfold rot
    rw [List.drop_eq_getElem_cons hk, ek]; rfl
  have nx : ∀ z ∈ l.drop (k + 1) ++ l.take k, z ≠ x := fun z hz q => by
    subst q
    rcases List.mem_append.mp hz with q | q
    · obtain ⟨j, hj⟩ := List.getElem?_of_mem q
      rw [List.getElem?_drop] at hj
      have := nd_at nd hx hj
      omega
    · obtain ⟨j, hj⟩ := List.getElem?_of_mem q
      rw [List.getElem?_take] at hj
      split at hj
      · have := nd_at nd hx hj
        omega
      · cases hj
  refine ⟨?_, lastC⟩
  have lc := lastC
  rw [e] at LR lc ⊢
  exact trail_of_lin LR nx fun z hz => .inr (lc z hz)
section
variable {on : List Int} {ms : List (Option Int)} (S : SkinOk on ms)
include S
theorem SkinOk.patC {h : Int} (g : InR on.length h) : ∀ z, (patL on h).getLast? = some z → onwF on z = some h := fun z hz => by
  obtain ⟨z', e', q⟩ := (S.pat g).1.fin
  rw [hz] at e'; cases e'
  rcases q with q | q
  · cases q
  · exact q
theorem SkinOk.patR {h x : Int} {k : Nat} (g : InR on.length h) (hx : (patL on h)[k]? = some x) : patL on x = rot (patL on h) k := by
  obtain ⟨t, nd, rg, len⟩ := S.pat g
  have hk := (List.getElem?_eq_some_iff.mp hx).1
  exact trl_of (rot_trail t nd (S.patC g) hx).1 _ (by rw [rot_len _ (by omega)]; omega)
theorem SkinOk.self_pat {h : Int} (g : InR on.length h) : h ∈ patL on h := by
  obtain ⟨r, e⟩ := (S.pat g).1.head
  rw [e]; simp
end
structure Parted (A : List Int) (g : Int → List Int) : Prop where
  cls : ∀ h ∈ A, h ∈ g h ∧ (g h).Nodup ∧ ∀ z ∈ g h, z ∈ A ∧ ∀ y, y ∈ g z ↔ y ∈ g h
theorem once_flat {g : Int → List Int} {A : List Int} (P : Parted A g) : ∀ (hs met : List Int), (∀ h ∈ hs, h ∈ A) → (∀ z ∈ A, z ∈ met → ∀ y ∈ g z, y ∈ met) →
    (onceF g met hs).flatten.Nodup ∧ ∀ z, z ∈ (onceF g met hs).flatten ↔ z ∉ met ∧ ∃ h ∈ hs, z ∈ g h
  | [], met, _, _ => ⟨by simp [onceF], fun z => by simp [onceF]⟩
  | h :: r, met, ha, hm => by
    by_cases m : h ∈ met
    · rw [once_skip m]
      obtain ⟨n, q⟩ := once_flat P r met (fun x hx => ha x (List.mem_cons_of_mem _ hx)) hm
      refine ⟨n, fun z => ?_⟩
      rw [q z]
      constructor
      · rintro ⟨a, x, hx, b⟩
        exact ⟨a, x, List.mem_cons_of_mem _ hx, b⟩
      · rintro ⟨a, x, hx, b⟩
        rcases List.mem_cons.mp hx with rfl | hx
        · exact absurd (hm x (ha x (by simp)) m z b) a
        · exact ⟨a, x, hx, b⟩
    · rw [once_take m]
      obtain ⟨hh, nd, cl⟩ := P.cls h (ha h (by simp))
      have hm2 : ∀ z ∈ A, z ∈ met ++ g h → ∀ y ∈ g z, y ∈ met ++ g h := fun z hz hzm y hy => by
        rcases List.mem_append.mp hzm with q | q
        · exact List.mem_append_left _ (hm z hz q y hy)
        · exact List.mem_append_right _ (((cl z q).2 y).mp hy)
      obtain ⟨n, q⟩ := once_flat P r (met ++ g h) (fun x hx => ha x (List.mem_cons_of_mem _ hx)) hm2
      have out : ∀ z ∈ g h, z ∉ met := fun z hz zm => m (hm z (cl z hz).1 zm h (((cl z hz).2 h).mpr hh))
      rw [List.flatten_cons]
      refine ⟨?_, fun z => ?_⟩
      · rw [List.nodup_append]
        refine ⟨nd, n, fun a hag b hb e => ?_⟩
        subst e
        exact ((q a).mp hb).1 (List.mem_append_right _ hag)
      · rw [List.mem_append, q z]
        constructor
        · rintro (a | ⟨a, x, hx, b⟩)
          · exact ⟨out z a, h, by simp, a⟩
          · exact ⟨fun zm => a (List.mem_append_left _ zm), x, List.mem_cons_of_mem _ hx, b⟩
        · rintro ⟨a, x, hx, b⟩
          by_cases zg : z ∈ g h
          · exact .inl zg
          · rcases List.mem_cons.mp hx with rfl | hx
            · exact absurd b zg
            · refine .inr ⟨fun zm => ?_, x, hx, b⟩
              rcases List.mem_append.mp zm with y | y
              · exact a y
              · exact zg y
theorem once_all {g : Int → List Int} {A : List Int} (P : Parted A g) : (onceF g [] A).flatten.Nodup ∧ ∀ z, z ∈ (onceF g [] A).flatten ↔ z ∈ A := by
  obtain ⟨n, q⟩ := once_flat P A [] (fun _ h => h) (fun z _ h => by cases h)
  refine ⟨n, fun z => ?_⟩
  rw [q z]
  constructor
  · rintro ⟨_, h, hh, hz⟩
    exact ((P.cls h hh).2.2 z hz).1
  · intro hz
    exact ⟨by simp, z, hz, (P.cls z hz).1⟩
theorem rngL_lt (n : Nat) : (rngL n).Pairwise (· < ·) := by
  unfold rngL
  rw [List.pairwise_map]
  exact List.pairwise_lt_range.imp fun h => by omega
section
variable {on : List Int} {ms : List (Option Int)} (S : SkinOk on ms)
include S
theorem SkinOk.part_pat : Parted (rngL on.length) (patL on) := ⟨fun h hh => by
  have g := rngL_mem.mp hh
  obtain ⟨t, nd, rg, len⟩ := S.pat g
  refine ⟨S.self_pat g, nd, fun z hz => ⟨rngL_mem.mpr (rg z hz), fun y => ?_⟩⟩
  obtain ⟨k, hk⟩ := List.getElem?_of_mem hz
  rw [S.patR g hk, rot_mem]⟩
end
end Hs
set_option linter.all false
set_option maxRecDepth 100000
set_option maxHeartbeats 1000000
namespace Hs
def NxRow (row : List Int) (a b : Int) : Prop := ∃ j, j < row.length ∧ row[prv row.length j]? = some a ∧ row[j]? = some b
theorem nx_split {row : List Int} {a b : Int} : NxRow row a b ↔ ∃ u v, row = u ++ a :: v ∧ (v ++ u ++ [a]).head? = some b := by
  constructor
  · rintro ⟨j, hj, ha, hb⟩
    obtain ⟨hi, ea⟩ := List.getElem?_eq_some_iff.mp ha
    have er : row = row.take (prv row.length j) ++ a :: row.drop (prv row.length j + 1) := by
      rw [← ea, ← List.drop_eq_getElem_cons hi, List.take_append_drop]
    refine ⟨row.take (prv row.length j), row.drop (prv row.length j + 1), er, ?_⟩
    by_cases z : j = 0
    · subst z
      have e1 : prv row.length 0 + 1 = row.length := by unfold prv; rw [if_pos rfl]; omega
      rw [e1, List.drop_length] at er ⊢
      rw [List.nil_append, ← er, List.head?_eq_getElem?]
      exact hb
    · have e1 : prv row.length j + 1 = j := by unfold prv; rw [if_neg z]; omega
      rw [e1, List.append_assoc, List.head?_append, List.head?_drop, hb]
      rfl
  · rintro ⟨u, v, rfl, h⟩
    cases v with
    | nil =>
      refine ⟨0, by simp, ?_, ?_⟩
      · unfold prv; rw [if_pos rfl]; simp
      · rw [← List.head?_eq_getElem?]; simpa using h
    | cons c v =>
      refine ⟨u.length + 1, by simp, ?_, ?_⟩
      · unfold prv; rw [if_neg (by omega)]; simp
      · have : c = b := by simpa using h
        subst this
        rw [List.getElem?_append_right (by omega)]
        simp
theorem nx_mem {row : List Int} {a b : Int} (h : NxRow row a b) : a ∈ row ∧ b ∈ row := by
  obtain ⟨j, _, ha, hb⟩ := h
  exact ⟨List.mem_of_getElem? ha, List.mem_of_getElem? hb⟩
theorem nx_ex {row : List Int} {a : Int} (h : a ∈ row) : ∃ b, NxRow row a b := by
  obtain ⟨u, v, rfl⟩ := List.append_of_mem h
  cases hh : (v ++ u ++ [a]).head? with
  | none => simp at hh
  | some b => exact ⟨b, nx_split.mpr ⟨u, v, rfl, hh⟩⟩
theorem nx_pre {row : List Int} {b : Int} (h : b ∈ row) : ∃ a, NxRow row a b := by
  obtain ⟨j, hj, e⟩ := List.getElem_of_mem h
  have hp := prv_lt hj
  exact ⟨row[prv row.length j], j, hj, List.getElem?_eq_getElem hp, by rw [List.getElem?_eq_getElem hj, e]⟩
theorem nx_inj {row : List Int} (nd : row.Nodup) {a a' b : Int} (h : NxRow row a b) (h' : NxRow row a' b) : a = a' := by
  obtain ⟨j, hj, ha, hb⟩ := h
  obtain ⟨k, hk, ha', hb'⟩ := h'
  have := nd_at nd hb hb'
  subst this
  rw [ha] at ha'
  exact Option.some.inj ha'
theorem nx_fun {row : List Int} (nd : row.Nodup) {a b b' : Int} (h : NxRow row a b) (h' : NxRow row a b') : b = b' := by
  obtain ⟨j, hj, ha, hb⟩ := h
  obtain ⟨k, hk, ha', hb'⟩ := h'
  have := prv_inj hj hk (nd_at nd ha ha')
  subst this
  rw [hb] at hb'
  exact Option.some.inj hb'
structure RowsOk (rows : List (List Int)) (S : Int → Prop) (nx : Int → Int) : Prop where
  nd : rows.flatten.Nodup
  mem : ∀ x, x ∈ rows.flatten ↔ S x
  nx : ∀ row ∈ rows, ∀ a b, NxRow row a b → nx a = b
theorem flat_nd {rows : List (List Int)} (h : rows.flatten.Nodup) {row : List Int} (hr : row ∈ rows) : row.Nodup := by
  induction rows with
  | nil => cases hr
  | cons r rs ih =>
    rw [List.flatten_cons] at h
    rcases List.mem_cons.mp hr with rfl | hr
    · exact (List.nodup_append.mp h).1
    · exact ih (List.nodup_append.mp h).2.1 hr
theorem flat_one {rows : List (List Int)} (h : rows.flatten.Nodup) {r r' : List Int} (hr : r ∈ rows) (hr' : r' ∈ rows) {x : Int} (hx : x ∈ r) (hx' : x ∈ r') : r = r' := by
  induction rows with
  | nil => cases hr
  | cons q rs ih =>
    rw [List.flatten_cons] at h
    obtain ⟨_, n2, n3⟩ := List.nodup_append.mp h
    rcases List.mem_cons.mp hr with e | k <;> rcases List.mem_cons.mp hr' with e' | k'
    · rw [e, e']
    · subst e; exact absurd rfl (n3 x hx x (List.mem_flatten.mpr ⟨r', k', hx'⟩))
    · subst e'; exact absurd rfl (n3 x hx' x (List.mem_flatten.mpr ⟨r, k, hx⟩))
    · exact ih n2 k k'
section
variable {rows : List (List Int)} {S : Int → Prop} {nx : Int → Int} (R : RowsOk rows S nx)
include R
theorem RowsOk.into {a : Int} (h : S a) : S (nx a) := by
  obtain ⟨row, hr, ha⟩ := List.mem_flatten.mp ((R.mem a).mpr h)
  obtain ⟨b, hb⟩ := nx_ex ha
  rw [R.nx row hr a b hb]
  exact (R.mem b).mp (List.mem_flatten.mpr ⟨row, hr, (nx_mem hb).2⟩)
theorem RowsOk.inj {a a' : Int} (h : S a) (h' : S a') (e : nx a = nx a') : a = a' := by
  obtain ⟨row, hr, ha⟩ := List.mem_flatten.mp ((R.mem a).mpr h)
  obtain ⟨row', hr', ha'⟩ := List.mem_flatten.mp ((R.mem a').mpr h')
  obtain ⟨b, hb⟩ := nx_ex ha
  obtain ⟨b', hb'⟩ := nx_ex ha'
  rw [R.nx row hr a b hb, R.nx row' hr' a' b' hb'] at e
  subst e
  have := flat_one R.nd hr hr' (nx_mem hb).2 (nx_mem hb').2
  subst this
  exact nx_inj (flat_nd R.nd hr) hb hb'
theorem RowsOk.sur {b : Int} (h : S b) : ∃ a, S a ∧ nx a = b := by
  obtain ⟨row, hr, hb⟩ := List.mem_flatten.mp ((R.mem b).mpr h)
  obtain ⟨a, ha⟩ := nx_pre hb
  exact ⟨a, (R.mem a).mp (List.mem_flatten.mpr ⟨row, hr, (nx_mem ha).1⟩), R.nx row hr a b ha⟩
end
def rk (L : List Int) (x : Int) : Int := ((L.idxOf x : Nat) : Int)
def rkO (L : List Int) : Option Int → Option Int
  | none => none
  | some x => if x ∈ L then some (rk L x) else none
def clOn (L : List Int) (nx : Int → Int) : List Int := L.map fun a => rk L (nx a)
def clMs (L : List Int) (mt : Int → Option Int) : List (Option Int) := L.map fun a => rkO L (mt a)
theorem rk_get {L : List Int} {a : Int} (h : a ∈ L) : L[(rk L a).toNat]? = some a := by
  unfold rk; rw [Int.toNat_natCast]; exact ahd_get h
theorem rk_rng {L : List Int} {a : Int} (h : a ∈ L) : InR L.length (rk L a) := by
  have := ahd_rng h
  exact this
theorem rk_inj {L : List Int} {a b : Int} (ha : a ∈ L) (hb : b ∈ L) (e : rk L a = rk L b) : a = b := by
  have h1 := rk_get ha
  rw [e, rk_get hb] at h1
  exact (Option.some.inj h1).symm
theorem rk_at {L : List Int} (nd : L.Nodup) {i : Nat} {a : Int} (h : L[i]? = some a) : rk L a = (i : Int) := by
  have h1 := rk_get (List.mem_of_getElem? h)
  have := nd_at nd h1 h
  have h2 := (rk_rng (List.mem_of_getElem? h)).1
  omega
theorem close_skin {L : List Int} {nx : Int → Int} {mt : Int → Option Int} (nd : L.Nodup) (h1 : 1 ≤ L.length) (h2 : L.length ≤ 400) (into : ∀ a ∈ L, nx a ∈ L) (inj : ∀ a ∈ L, ∀ b ∈ L, nx a = nx b → a = b) (sur : ∀ b ∈ L, ∃ a ∈ L, nx a = b)
    (mm : ∀ a ∈ L, ∀ b ∈ L, mt a = some b → b ≠ a ∧ mt b = some a) : SkinOk (clOn L nx) (clMs L mt) := by
  have lo : (clOn L nx).length = L.length := by unfold clOn; simp
  have lm : (clMs L mt).length = L.length := by unfold clMs; simp
  have at' : ∀ i (h : i < L.length), (clOn L nx)[i]'(by rw [lo]; exact h) = rk L (nx L[i]) := fun i h => by unfold clOn; simp
  refine ⟨by rw [lo]; exact h1, by rw [lo]; exact h2, by rw [lo, lm], fun x hx => ?_, ?_, fun y h0 hy => ?_, fun h m e => ?_⟩
  · obtain ⟨a, ha, rfl⟩ := List.mem_map.mp hx
    rw [lo]; exact rk_rng (into a ha)
  · rw [List.nodup_iff_pairwise_ne, List.pairwise_iff_getElem]
    intro i j hi hj hij e
    rw [lo] at hi hj
    rw [at' i hi, at' j hj] at e
    have e1 := rk_inj (into _ (List.getElem_mem hi)) (into _ (List.getElem_mem hj)) e
    have e2 := inj _ (List.getElem_mem hi) _ (List.getElem_mem hj) e1
    have := (List.getElem_inj nd).mp e2
    omega
  · rw [lo] at hy
    have hi : y.toNat < L.length := by omega
    obtain ⟨a, ha, e⟩ := sur _ (List.getElem_mem hi)
    refine List.mem_map.mpr ⟨a, ha, ?_⟩
    show rk L (nx a) = y
    rw [e, rk_at nd (List.getElem?_eq_getElem hi)]; omega
  · rw [lo]
    unfold clMs at e ⊢
    rw [List.getElem?_map] at e
    obtain ⟨a, ha, e2⟩ := Option.map_eq_some_iff.mp e
    have hL := List.mem_of_getElem? ha
    have ra := rk_at nd ha
    cases hm : mt a with
    | none => rw [hm] at e2; cases e2
    | some b =>
      rw [hm] at e2
      unfold rkO at e2
      dsimp only at e2
      by_cases hb : b ∈ L
      · rw [if_pos hb] at e2
        have e3 : rk L b = m := Option.some.inj e2
        subst e3
        obtain ⟨q1, q2⟩ := mm a hL b hb hm
        have rb := rk_rng hb
        refine ⟨rb.1, rb.2, fun z => q1 (rk_inj hb hL (by rw [z, ra])), ?_⟩
        rw [List.getElem?_map, rk_get hb]
        show some (rkO L (mt b)) = _
        rw [q2]
        unfold rkO
        dsimp only
        rw [if_pos hL, ra]
      · rw [if_neg hb] at e2; cases e2
theorem RowsOk.skin {rows : List (List Int)} {S : Int → Prop} {nx : Int → Int} {mt : Int → Option Int} (R : RowsOk rows S nx) {L : List Int} (nd : L.Nodup) (hL : ∀ x, x ∈ L ↔ S x) (h1 : 1 ≤ L.length) (h2 : L.length ≤ 400)
    (mm : ∀ a, S a → ∀ b, S b → mt a = some b → b ≠ a ∧ mt b = some a) : SkinOk (clOn L nx) (clMs L mt) :=
  close_skin nd h1 h2 (fun a ha => (hL _).mpr (R.into ((hL a).mp ha))) (fun a ha b hb e => R.inj ((hL a).mp ha) ((hL b).mp hb) e)
    (fun b hb => by obtain ⟨a, ha, e⟩ := R.sur ((hL b).mp hb); exact ⟨a, (hL a).mpr ha, e⟩) fun a ha b hb e => mm a ((hL a).mp ha) b ((hL b).mp hb) e
theorem rngL_nd (n : Nat) : (rngL n).Nodup := (rngL_lt n).imp (fun h => by omega)
theorem trail_first {on : List Int} {h x : Int} {l : List Int} (t : Trail (onwF on) h x l) : (l.drop 1 ++ [h]).head? = some (lk on x) := by
  cases t with
  | last q =>
    rcases q with q | q
    · cases q
    · have : lk on x = h := Option.some.inj q
      simp [this]
  | step q _ t =>
    obtain ⟨r, rfl⟩ := t.head
    have := Option.some.inj q
    simp [← this]
theorem SkinOk.patS {on : List Int} {ms : List (Option Int)} (S : SkinOk on ms) {h a : Int} {u v : List Int} (g : InR on.length h) (e : patL on h = u ++ a :: v) : patL on a = a :: (v ++ u) := by
  have hx : (patL on h)[u.length]? = some a := by rw [e, List.getElem?_append_right (Nat.le_refl _)]; simp
  rw [S.patR g hx, e]
  unfold rot
  simp
theorem SkinOk.pat_nx {on : List Int} {ms : List (Option Int)} (S : SkinOk on ms) {h a b : Int} (g : InR on.length h) (n : NxRow (patL on h) a b) : lk on a = b := by
  obtain ⟨u, v, e, hb⟩ := nx_split.mp n
  have ga : InR on.length a := (S.pat g).2.2.1 a (by rw [e]; simp)
  have ea := S.patS g e
  have t := (S.pat ga).1
  rw [ea] at t
  have := trail_first t
  rw [List.drop_one, List.tail_cons, hb] at this
  exact (Option.some.inj this).symm
def patsL (on : List Int) : List (List Int) := onceF (patL on) [] (rngL on.length)
theorem pats_of {on : List Int} {row : List Int} (h : row ∈ patsL on) : ∃ x, InR on.length x ∧ row = patL on x := by
  obtain ⟨x, hx, e⟩ := onceF_mem _ _ row h
  exact ⟨x, rngL_mem.mp hx, e⟩
theorem SkinOk.rows {on : List Int} {ms : List (Option Int)} (S : SkinOk on ms) : RowsOk (patsL on) (InR on.length) (lk on) := by
  obtain ⟨h1, h2⟩ := once_all S.part_pat
  refine ⟨h1, fun x => by rw [← rngL_mem]; exact h2 x, fun row hr a b n => ?_⟩
  obtain ⟨x, g, rfl⟩ := pats_of hr
  exact S.pat_nx g n
end Hs
set_option linter.all false
set_option maxRecDepth 100000
set_option maxHeartbeats 1000000
namespace Hs
theorem RowsOk.more {rows : List (List Int)} {S : Int → Prop} {nx nx' : Int → Int} (R : RowsOk rows S nx) {row : List Int} (nd : row.Nodup) (hn : ∀ x ∈ row, ¬ S x) (h1 : ∀ x, S x → nx' x = nx x) (h2 : ∀ x b, NxRow row x b → nx' x = b) : RowsOk (rows ++ [row]) (fun x => S x ∨ x ∈ row) nx' := by
  have hf : (rows ++ [row]).flatten = rows.flatten ++ row := by simp
  refine ⟨?_, fun x => ?_, fun r hr x b n => ?_⟩
  · rw [hf]
    exact List.nodup_append.mpr ⟨R.nd, nd, fun a ha b hb e => hn b hb ((R.mem b).mp (e ▸ ha))⟩
  · rw [hf, List.mem_append, R.mem]
  · rcases List.mem_append.mp hr with q | q
    · rw [h1 x ((R.mem x).mp (List.mem_flatten.mpr ⟨r, q, (nx_mem n).1⟩))]
      exact R.nx r q x b n
    · rw [List.mem_singleton.mp q] at n
      exact h2 x b n
inductive Fol (on : List Int) (T : List Int) : Nat → Int → Int → Prop
  | here {x : Int} : x ∉ T → Fol on T 0 x x
  | step {k : Nat} {x y : Int} : x ∈ T → Fol on T k (lk on x) y → Fol on T (k + 1) x y
theorem Fol.det {on T : List Int} {k : Nat} {x y : Int} (h : Fol on T k x y) : ∀ {k' : Nat} {y' : Int}, Fol on T k' x y' → y = y' := by
  induction h with
  | here n =>
    intro k' y' h'
    cases h' with
    | here _ => rfl
    | step m _ => exact absurd m n
  | step m _ ih =>
    intro k' y' h'
    cases h' with
    | here n => exact absurd m n
    | step _ q => exact ih q
theorem Fol.out {on T : List Int} {k : Nat} {x y : Int} (h : Fol on T k x y) : y ∉ T := by
  induction h with
  | here n => exact n
  | step _ _ ih => exact ih
noncomputable def nxF (on T : List Int) (a : Int) : Int := Classical.epsilon fun y => ∃ k, Fol on T k (lk on a) y
theorem nxF_is {on T : List Int} {k : Nat} {a y : Int} (h : Fol on T k (lk on a) y) : nxF on T a = y := by
  obtain ⟨k', q⟩ : ∃ k', Fol on T k' (lk on a) (nxF on T a) := Classical.epsilon_spec (p := fun y => ∃ k, Fol on T k (lk on a) y) ⟨y, k, h⟩
  exact q.det h
theorem fol_trail {on T : List Int} {h0 x : Int} {l : List Int} (t : Trail (onwF on) h0 x l) (hT : h0 ∉ T) : ∃ k y, Fol on T k (lk on x) y ∧ ((l.drop 1 ++ [h0]).filter fun z => decide (z ∉ T)).head? = some y := by
  induction t with
  | @last x q =>
    rcases q with q | q
    · cases q
    · have : lk on x = h0 := Option.some.inj q
      exact ⟨0, h0, by rw [this]; exact .here hT, by simp [hT]⟩
  | @step x y l q _ t ih =>
    have e : lk on x = y := Option.some.inj q
    obtain ⟨r, rfl⟩ := t.head
    by_cases z : y ∈ T
    · obtain ⟨k, w, f, hh⟩ := ih
      refine ⟨k + 1, w, by rw [e]; exact .step z f, ?_⟩
      rw [← hh]
      simp [z]
    · exact ⟨0, y, by rw [e]; exact .here z, by simp [z]⟩
def leftOut (T : List Int) (rows : List (List Int)) : List (List Int) := (rows.map fun row => row.filter fun x => decide (x ∉ T)).filter fun row => decide (row ≠ [])
theorem flat_filter (p : List Int → Bool) (hp : ∀ l, p l = false → l = []) : ∀ rows : List (List Int), (rows.filter p).flatten = rows.flatten
  | [] => rfl
  | r :: rs => by
    rw [List.filter_cons]
    split
    · rw [List.flatten_cons, List.flatten_cons, flat_filter p hp rs]
    · rename_i h
      rw [flat_filter p hp rs, List.flatten_cons, hp r (by simpa using h)]
      rfl
theorem flat_map_filter (p : Int → Bool) : ∀ rows : List (List Int), (rows.map (List.filter p)).flatten = rows.flatten.filter p
  | [] => rfl
  | r :: rs => by rw [List.map_cons, List.flatten_cons, List.flatten_cons, List.filter_append, flat_map_filter p rs]
theorem leftOut_flat (T : List Int) (rows : List (List Int)) : (leftOut T rows).flatten = rows.flatten.filter fun x => decide (x ∉ T) := by
  unfold leftOut
  rw [flat_filter _ (fun l h => by simpa using h), flat_map_filter]
theorem SkinOk.left {on : List Int} {ms : List (Option Int)} (S : SkinOk on ms) (T : List Int) : RowsOk (leftOut T (patsL on)) (fun x => InR on.length x ∧ x ∉ T) (nxF on T) := by
  have R := S.rows
  have nd : (leftOut T (patsL on)).flatten.Nodup := by rw [leftOut_flat]; exact R.nd.sublist List.filter_sublist
  refine ⟨nd, fun x => ?_, fun row hr a b n => ?_⟩
  · rw [leftOut_flat, List.mem_filter, R.mem]; simp
  · have hr0 := hr
    obtain ⟨r0, hr1, e⟩ := List.mem_map.mp (List.mem_filter.mp hr).1
    obtain ⟨h, g, rfl⟩ := pats_of hr1
    have ha := (nx_mem n).1
    rw [← e] at ha
    obtain ⟨ha, hT⟩ := List.mem_filter.mp ha
    have hT : a ∉ T := by simpa using hT
    obtain ⟨u, v, es⟩ := List.append_of_mem ha
    have ga := (S.pat g).2.2.1 a ha
    have t := (S.pat ga).1
    rw [S.patS g es] at t
    obtain ⟨k, y, f, hh⟩ := fol_trail t hT
    rw [nxF_is f]
    refine nx_fun (flat_nd nd hr0) (nx_split.mpr ⟨u.filter fun x => decide (x ∉ T), v.filter fun x => decide (x ∉ T), ?_, ?_⟩) n
    · rw [← e, es, List.filter_append, List.filter_cons_of_pos (by simpa using hT)]
    · rw [List.drop_one, List.tail_cons, List.filter_append, List.filter_append, show [a].filter (fun z => decide (z ∉ T)) = [a] by simp [hT]] at hh
      exact hh
end Hs
set_option linter.all false
set_option maxRecDepth 100000
set_option maxHeartbeats 1000000
namespace Hs
theorem RowsOk.congr {rows : List (List Int)} {S S' : Int → Prop} {nx : Int → Int} (R : RowsOk rows S nx) (h : ∀ x, S x ↔ S' x) : RowsOk rows S' nx := ⟨R.nd, fun x => (R.mem x).trans (h x), R.nx⟩
theorem RowsOk.at {rows : List (List Int)} {S : Int → Prop} {nx : Int → Int} (R : RowsOk rows S nx) {a : Int} (ha : S a) : ∃ (i : Nat) (u v : List Int), rows[i]? = some (u ++ a :: v) := by
  obtain ⟨row, hr, hx⟩ := List.mem_flatten.mp ((R.mem a).mpr ha)
  obtain ⟨i, hi, e⟩ := List.getElem_of_mem hr
  obtain ⟨u, v, e2⟩ := List.append_of_mem hx
  exact ⟨i, u, v, by rw [List.getElem?_eq_getElem hi, e, e2]⟩
theorem RowsOk.all {rows : List (List Int)} {n : Nat} {nx : Int → Int} {mt : Int → Option Int} (R : RowsOk rows (InR n) nx) (h1 : 1 ≤ n) (h2 : n ≤ 400) (mm : ∀ a, InR n a → ∀ b, InR n b → mt a = some b → b ≠ a ∧ mt b = some a) : SkinOk (clOn (rngL n) nx) (clMs (rngL n) mt) :=
  R.skin (rngL_nd n) (fun x => rngL_mem) (by rw [rngL_len]; exact h1) (by rw [rngL_len]; exact h2) mm
theorem lkM_out {ms : List (Option Int)} {x : Int} (h : (ms.length : Int) ≤ x) : lkM ms x = none := by
  unfold lkM
  rw [List.getElem?_eq_none (by omega)]; rfl
theorem SkinOk.mtS {on : List Int} {ms : List (Option Int)} (S : SkinOk on ms) {a b : Int} (g : 0 ≤ a) (e : lkM ms a = some b) : InR on.length a ∧ InR on.length b ∧ lkM ms b = some a ∧ b ≠ a := by
  have ga : InR on.length a := ⟨g, by
    rcases Int.lt_or_le a on.length with h | h
    · exact h
    · rw [lkM_out (by rw [S.len]; exact h)] at e; cases e⟩
  obtain ⟨h1, h2, h3⟩ := S.mate ga e
  exact ⟨ga, h1, h2, h3⟩
theorem SkinOk.mm {on : List Int} {ms : List (Option Int)} (S : SkinOk on ms) {a b : Int} (g : 0 ≤ a) (e : lkM ms a = some b) : b ≠ a ∧ lkM ms b = some a := ⟨(S.mtS g e).2.2.2, (S.mtS g e).2.2.1⟩
def mergeable (on : List Int) (ms : List (Option Int)) (h : Int) : Prop := lk on h ≠ h ∧ lkM ms h ≠ some (lk on h) ∧ (match lkM ms (lk on h) with
  | none => lkM ms h = none
  | some f => lkM ms h = some (lk on f))
instance (on : List Int) (ms : List (Option Int)) (h : Int) : Decidable (mergeable on ms h) := by
  unfold mergeable
  cases lkM ms (lk on h) <;> exact inferInstance
end Hs
set_option Elab.async false
set_option linter.all false
set_option maxRecDepth 100000
set_option maxHeartbeats 1000000
namespace L2
open PySem PySem.Spec PyProof.Rows
end L2
namespace Hs
open PySem PySem.Spec PyProof.Rows L2
end Hs
set_option Elab.async false
set_option linter.all false
set_option maxRecDepth 100000
set_option maxHeartbeats 1000000
namespace L2
open PySem PySem.Spec PyProof.Rows
section
variable {X : Cx} {K : PySem.W.Frag}
end
end L2
namespace Hs
open PySem L2
end Hs
set_option Elab.async false
set_option linter.all false
set_option maxRecDepth 100000
set_option maxHeartbeats 4000000
namespace Hs
open PySem L2
section
variable {P : Program} {w : World} {K : PySem.W.Frag} {mg : Str → Option Value} {base : Heap} {f : Addr} {fd : FuncData}
theorem scReadNum : FnScope ["text", "sign"] ["text"] (defScope s_read_number) := ⟨rfl, rfl, rfl, by decide +kernel, rfl, by decide +kernel, by decide +kernel⟩
def figC : List Nat := ((Str.ofString "0123456789") : Str).cps.toList
theorem figC_eq : figC = [48, 49, 50, 51, 52, 53, 54, 55, 56, 57] := by decide +kernel
def goodN (z : Str) : Bool := decide (1 ≤ z.length) && decide (z.length ≤ 9) && z.cps.toList.all (fun c => decide (c ∈ figC)) && (!(decide (z.cps.toList.head? = some 48)) || decide (z = "0"))
def numT (z : Str) : Option Int := if goodN z = true then some ((PySem.NumText.digitsVal z.cps.toList : Nat) : Int) else none
def numV (z : Str) : V := match numT z with
  | some n => .int n
  | none => .non
theorem numV_bad {z : Str} (h : goodN z = false) : numV z = .non := by
  unfold numV numT; rw [if_neg (by rw [h]; decide)]
theorem numV_good {z : Str} (h : goodN z = true) : numV z = .int ((PySem.NumText.digitsVal z.cps.toList : Nat) : Int) := by
  unfold numV numT; rw [if_pos h]
theorem all_digits {z : Str} (h : (z.cps.toList.all fun c => decide (c ∈ figC)) = true) : PySem.NumText.AllDigits z.cps.toList := fun c hc => by
  have := List.all_eq_true.mp h c hc
  rw [decide_eq_true_iff, figC_eq] at this
  simp at this
  omega
def spNum : Sp := fun vs H Q _ => ∃ z : Str, vs = [.str z] ∧ z.length ≤ 4000 ∧ (∀ c ∈ z.cps.toList, c < 1114112) ∧ ∀ H', Same H H' → Q (numV z) H'
theorem head_at {z : Str} {c : Nat} (h : z.cps.toList.head? = some c) : atI z.cps.toList 0 = some c := by
  refine atI_nat (j := 0) ?_
  cases e : z.cps.toList with
  | nil => rw [e] at h; cases h
  | cons a r => rw [e] at h; exact h
theorem sign_zero (c : Nat) : (Str.mk #[c] = ("0" : Str)) ↔ c = 48 := by
  constructor
  · intro h
    have : (Str.mk #[c]).cps = ("0" : Str).cps := by rw [h]
    have e : ("0" : Str).cps = #[48] := by decide +kernel
    rw [e] at this
    simpa using this
  · rintro rfl; decide +kernel
theorem ok_readnum {tL tN : Tok} (B : Bi mg) (hAl : mg "all" = none) (hIn : mg "int" = none) (hFI : mg "FIGURES" = some (.str (Str.ofString "0123456789") tL)) (hMF : mg "MOST_FIGURES" = some (.int 9 tN)) (F : Fun K "read_number" "read_number" s_read_number f fd) : FnOk P w K mg base CX0 1 f fd ["text"] spNum := by
  refine F.ok scReadNum (fun vs H Q E h => ?_) (fun cdv A outer s H vs Q E hr h => ?_)
  · obtain ⟨z, rfl, _⟩ := h; rfl
  obtain ⟨z, rfl, hz, hc0, q⟩ := h
  have bad : goodN z = false → ∀ H', Same H H' → Q .non H' := fun e H' s => by have := q H' s; rw [numV_bad e] at this; exact this
  refine ⟨_, (pss_cons (ps_if (PW.pt (pw_or (pt_not (pt_chain op_le op_le pe_int (pe_callB call_len_str rfl B.len_ bt_len (pa_cons (pv 0) pa_nil)) (pe_glob (v := .int 9) rfl hMF ⟨_, rfl⟩))) (pw_or1 (pt_not (pt_val (pe_callB (cr_all rfl) rfl B.all_ bt_all (pa_cons (pe_lc (own := [("sign", 1)]) (g := gName 1) rfl scReadNum.nd (pi_str (pv 0)) (blkOk_by (own := [("sign", 1)]) (N := ["text", "sign"]) (sc := (defScope s_read_number)) (by decide +kernel)) (fun _ _ _ _ _ => (pg_name (i := 1) scReadNum.nd rfl (Or.inl rfl))) (fun _ _ _ _ _ => pts_nil) (fun _ _ _ _ _ => (pe_cmpR op_in_sign (pv 1) (pe_glob (v := .str (Str.ofString "0123456789")) rfl hFI ⟨_, rfl⟩) rfl))) pa_nil)))))))
   (pss_one (ps_ret pe_non))
   pss_nil)
   (pss_cons (ps_if (PW.pt (pw_and (pt_cmpR op_eq (pe_ix ix_str (pv 0) pe_int (fun _ _ => rfl)) pe_str (nomark _)) (pw_and1 (pt_cmpR op_ne (pv 0) pe_str (nomark _)))))
   (pss_one (ps_ret pe_non))
   pss_nil)
   (pss_one (ps_ret (pe_callTy call_int_str rfl B.int_ bt_int (pa_cons (pv 0) pa_nil)))))), ?_⟩
  refine ⟨_, rfl, _, rfl, by rw [sizeLine_eq]; omega, _, _, rfl, rfl, _, rfl, ite2 (fun c1 => ?_) (fun c1 => ?_)⟩
  · have c1 : (1 : Int) ≤ (z.length : Int) := of_decide_eq_true c1
    refine ⟨_, _, rfl, rfl, _, rfl, ite2 (fun c2 => ?_) (fun c2 => ?_)⟩
    · have c2 : ¬ (z.length : Int) ≤ 9 := by simpa using c2
      refine bad ?_ H (Same.refl H)
      unfold goodN; rw [decide_eq_false (show ¬ z.length ≤ 9 by omega)]; simp
    · have c2 : (z.length : Int) ≤ 9 := by simpa using c2
      refine ⟨_, rfl, _, rfl, fun D hD => ?_⟩
      refine lc_str (Pv := fun i H' => Same H H' ∧ H' D = some (.lst (((z.cps.toList.take i).map fun c => decide (c ∈ figC)).map V.bl))) ⟨same_put hD _, upd_same⟩ (fun i c H' hc pv => ?_) (fun H' pv => ?_)
      · obtain ⟨s1, g1⟩ := pv
        have hi := (Array.getElem?_eq_some_iff.mp hc).1
        refine ⟨rfl, yesT ⟨_, rfl, c, (Str.ofString "0123456789"), rfl, rfl, _, g1, by rw [List.length_map, List.length_map, List.length_take, sizeLine_eq]; have hzz : z.cps.toList.length = z.length := Array.length_toList; omega, same_set s1 hD, ?_⟩⟩
        have ec : z.cps.toList[i]? = some c := by rw [Array.getElem?_toList]; exact hc
        rw [upd_same, List.take_succ, ec, List.map_append, List.map_append]; rfl
      · obtain ⟨s1, g1⟩ := pv
        rw [List.take_of_length_le (by simp)] at g1
        refine ⟨D, _, rfl, SqL.of g1, _, rfl, ?_⟩
        have e0 : (z.cps.toList.map fun c => decide (c ∈ figC)).all id = z.cps.toList.all (fun c => decide (c ∈ figC)) := by rw [List.all_map]; rfl
        rw [e0]
        cases ea : z.cps.toList.all (fun c => decide (c ∈ figC)) with
        | false =>
          refine itP (by decide) (bad ?_ H' s1)
          unfold goodN; rw [ea]; simp
        | true =>
          refine itN (by decide) ?_
          have had := all_digits ea
          obtain ⟨c0, hc1⟩ : ∃ c0, z.cps.toList.head? = some c0 := by
            cases e : z.cps.toList with
            | nil =>
              have : z.length = 0 := by show z.cps.size = 0; rw [← Array.length_toList, e]; rfl
              omega
            | cons a r => exact ⟨a, rfl⟩
          have fin : goodN z = true → Q (.int ((PySem.NumText.digitsVal z.cps.toList : Nat) : Int)) H' := fun e => by have := q H' s1; rw [numV_good e] at this; exact this
          refine ⟨_, rfl, z, 0, c0, rfl, rfl, by rw [sizeLine_eq]; omega, head_at hc1, rfl, _, rfl, ite2 (fun c3 => ?_) (fun c3 => ?_)⟩
          · have c3 : c0 = 48 := (sign_zero c0).mp (by simpa using c3)
            refine ⟨_, rfl, rfl, _, rfl, ite2 (fun c4 => ?_) (fun c4 => ?_)⟩
            · refine bad ?_ H' s1
              have c4 : ¬ z = "0" := by simpa using c4
              unfold goodN; rw [hc1, c3, decide_eq_false c4]; simp
            · have c4 : z = "0" := by simpa using c4
              have g : goodN z = true := by unfold goodN; rw [ea, decide_eq_true c4]; simp; omega
              exact ⟨_, rfl, z, _, rfl, PySem.intText_digits had (fun e => by rw [e] at hc1; cases hc1) (by omega), by omega, fin g⟩
          · have c3 : ¬ c0 = 48 := fun e => c3 (by rw [e]; decide +kernel)
            have g : goodN z = true := by
              unfold goodN; rw [ea, hc1]; simp; exact ⟨⟨by omega, by omega⟩, .inl c3⟩
            exact ⟨_, rfl, z, _, rfl, PySem.intText_digits had (fun e => by rw [e] at hc1; cases hc1) (by omega), by omega, fin g⟩
  · refine ⟨_, rfl, itP rfl (bad ?_ H (Same.refl H))⟩
    have : ¬ 1 ≤ z.length := fun y => c1 (decide_eq_true (by omega))
    unfold goodN; rw [decide_eq_false this]; simp
theorem scLawNum : FnScope ["word", "sign"] ["word"] (defScope s__law_number) := ⟨rfl, rfl, rfl, by decide +kernel, rfl, by decide +kernel, by decide +kernel⟩
theorem ok_lawnum (B : Bi mg) (hIn : mg "int" = none) (F : Fun K "_law_number" "_law_number" s__law_number f fd) : FnOk P w K mg base CX0 1 f fd ["word"] spNum := by
  refine F.ok scLawNum (fun vs H Q E h => ?_) (fun cdv A outer s H vs Q E hr h => ?_)
  · obtain ⟨z, rfl, _⟩ := h; rfl
  obtain ⟨z, rfl, hz, hc0, q⟩ := h
  have bad : goodN z = false → ∀ H', Same H H' → Q .non H' := fun e H' s => by have := q H' s; rw [numV_bad e] at this; exact this
  refine ⟨_, (pss_cons (ps_if (PW.pt (pw_or (pt_cmpR op_lt (pe_callB call_len_str rfl B.len_ bt_len (pa_cons (pv 0) pa_nil)) pe_int (nomark _)) (pw_or (pt_cmpR op_gt (pe_callB call_len_str rfl B.len_ bt_len (pa_cons (pv 0) pa_nil)) pe_int (nomark _)) (pw_or1 (pt_cmpR (op_neD hr.units) (pe_lc (own := [("sign", 1)]) (g := gName 1) rfl scLawNum.nd (pi_str (pv 0)) (blkOk_by (own := [("sign", 1)]) (N := ["word", "sign"]) (sc := (defScope s__law_number)) (by decide +kernel)) (fun _ _ _ _ _ => (pg_name (i := 1) scLawNum.nd rfl (Or.inl rfl))) (fun _ _ _ _ _ => (pts_one (pt_cmpR op_notIn_sign (pv 1) pe_str rfl))) (fun _ _ _ _ _ => (pv 1))) (pe_lst pa_nil) (nomark _))))))
   (pss_one (ps_ret pe_non))
   pss_nil)
   (pss_one (ps_ret (pe_ifExp (PW.pt (pw_and (pt_cmpR op_eq (pe_ix ix_str (pv 0) pe_int (fun _ _ => rfl)) pe_str (nomark _)) (pw_and1 (pt_cmpR op_ne (pv 0) pe_str (nomark _))))) pe_non (pe_callTy call_int_str rfl B.int_ bt_int (pa_cons (pv 0) pa_nil)))))), ?_⟩
  refine ⟨_, rfl, _, rfl, by rw [sizeLine_eq]; omega, _, _, rfl, rfl, _, rfl, ite2 (fun c1 => ?_) (fun c1 => ?_)⟩
  · have c1 : (z.length : Int) < 1 := by simpa using c1
    refine bad ?_ H (Same.refl H)
    have : ¬ 1 ≤ z.length := by omega
    unfold goodN; rw [decide_eq_false this]; simp
  have c1 : ¬ (z.length : Int) < 1 := by simpa using c1
  refine ⟨_, rfl, _, rfl, by rw [sizeLine_eq]; omega, _, _, rfl, rfl, _, rfl, ite2 (fun c2 => ?_) (fun c2 => ?_)⟩
  · have c2 : (z.length : Int) > 9 := by simpa using c2
    refine bad ?_ H (Same.refl H)
    unfold goodN; rw [decide_eq_false (show ¬ z.length ≤ 9 by omega)]; simp
  have c2 : ¬ (z.length : Int) > 9 := by simpa using c2
  refine ⟨_, rfl, _, rfl, fun D hD => ?_⟩
  refine lc_str (Pv := fun i H' => Same H H' ∧ H' D = some (.lst (((z.cps.toList.take i).filter fun c => !decide (c ∈ figC)).map fun c => V.str ⟨#[c]⟩))) ⟨same_put hD _, upd_same⟩ (fun i c H' hc pv => ?_) (fun H' pv => ?_)
  · obtain ⟨s1, g1⟩ := pv
    have hi := (Array.getElem?_eq_some_iff.mp hc).1
    have ec : z.cps.toList[i]? = some c := by rw [Array.getElem?_toList]; exact hc
    refine ⟨rfl, _, rfl, c, (Str.ofString "0123456789"), rfl, rfl, _, rfl, ?_⟩
    have tk : z.cps.toList.take (i + 1) = z.cps.toList.take i ++ [c] := by rw [List.take_succ, ec]; rfl
    show (if (!decide (c ∈ figC)) = true then _ else _)
    by_cases cc : c ∈ figC
    · refine itN (by simpa using cc) ⟨s1, ?_⟩
      rw [tk, List.filter_append, List.filter_cons_of_neg (by simpa using cc), List.map_append, List.filter_nil, List.map_nil, List.append_nil]; exact g1
    · refine itP (by simpa using cc) ⟨_, rfl, _, g1, ?_, same_set s1 hD, ?_⟩
      · rw [List.length_map, sizeLine_eq]
        have := List.length_filter_le (fun c => !decide (c ∈ figC)) (z.cps.toList.take i)
        rw [List.length_take] at this
        have hzz : z.cps.toList.length = z.length := Array.length_toList
        omega
      · rw [upd_same, tk, List.filter_append, List.filter_cons_of_pos (by simpa using cc), List.map_append]; rfl
  · obtain ⟨s1, g1⟩ := pv
    rw [List.take_of_length_le (by simp)] at g1
    have hall : z.cps.toList.all (fun c => decide (c ∈ figC)) = ((z.cps.toList.filter fun c => !decide (c ∈ figC)).isEmpty) := by
      generalize z.cps.toList = l
      induction l with
      | nil => rfl
      | cons a t ih =>
        by_cases ha : a ∈ figC
        · rw [List.all_cons, decide_eq_true ha, Bool.true_and, List.filter_cons_of_neg (by simpa using ha), ih]
        · rw [List.all_cons, decide_eq_false ha, Bool.false_and, List.filter_cons_of_pos (by simpa using ha)]; rfl
    have hmem : ∀ c ∈ z.cps.toList.filter (fun c => !decide (c ∈ figC)), c < 1114112 := fun c hc => hc0 c ((List.mem_filter.mp hc).1)
    have hlen : (z.cps.toList.filter fun c => !decide (c ∈ figC)).length ≤ 400 := by
      have := List.length_filter_le (fun c => !decide (c ∈ figC)) z.cps.toList
      have hzz : z.cps.toList.length = z.length := Array.length_toList
      omega
    generalize z.cps.toList.filter (fun c => !decide (c ∈ figC)) = bs at g1 hall hmem hlen
    refine ⟨by show 0 ≤ sizeLine; decide, fun e he => ?_⟩
    have dps : ∀ (H : Hp) (l : List Nat), DpAll K H (l.map fun c => V.str ⟨#[c]⟩) (l.map fun c => PyData.str ⟨#[c]⟩) := fun H l => by
      induction l with
      | nil => exact .nil
      | cons a t ih => exact .cons (.str _) ih
    have gd : Gd 1 (.list (bs.map fun c => PyData.str ⟨#[c]⟩)) := Gd.lst (k := 0) (fun d hd => by
      obtain ⟨c, hc, rfl⟩ := List.mem_map.mp hd
      exact gd_s 0 (by show (#[c] : Array Nat).all (· < 0x110000) = true; simp; exact hmem c hc)) (by rw [List.length_map]; omega)
    have gn : Gd 1 (.list []) := Gd.lst (k := 0) (fun d hd => by cases hd) (Nat.zero_le _)
    refine ⟨_, _, .lst (SqL.of (up he g1)) (dps _ bs), .lst (SqL.of upd_same) .nil, gd.shaped (by decide), gn.shaped (by decide), _, rfl, ?_⟩
    have s2 : Same H (upd H' e (.lst [])) := s1.trans (same_put he _)
    generalize upd H' e (.lst []) = H2 at s2
    cases bs with
    | cons b bs =>
      refine itP (by simp [PyData.eqv, PyData.eqvAll]) (bad ?_ H2 s2)
      unfold goodN; rw [hall]; simp
    | nil =>
      have ea : z.cps.toList.all (fun c => decide (c ∈ figC)) = true := hall
      refine itN (by simp [PyData.eqv, PyData.eqvAll]) ?_
      have had := all_digits ea
      obtain ⟨c0, hc1⟩ : ∃ c0, z.cps.toList.head? = some c0 := by
        cases e : z.cps.toList with
        | nil =>
          have : z.length = 0 := by show z.cps.size = 0; rw [← Array.length_toList, e]; rfl
          omega
        | cons a r => exact ⟨a, rfl⟩
      have fin : goodN z = true → Q (.int ((PySem.NumText.digitsVal z.cps.toList : Nat) : Int)) H2 := fun e => by have := q H2 s2; rw [numV_good e] at this; exact this
      refine ⟨_, rfl, z, 0, c0, rfl, rfl, by rw [sizeLine_eq]; omega, head_at hc1, rfl, _, rfl, ite2 (fun c3 => ?_) (fun c3 => ?_)⟩
      · have c3 : c0 = 48 := (sign_zero c0).mp (by simpa using c3)
        refine ⟨_, rfl, rfl, _, rfl, ite2 (fun c4 => ?_) (fun c4 => ?_)⟩
        · refine bad ?_ H2 s2
          have c4 : ¬ z = "0" := by simpa using c4
          unfold goodN; rw [hc1, c3, decide_eq_false c4]; simp
        · have c4 : z = "0" := by simpa using c4
          have g : goodN z = true := by unfold goodN; rw [ea, decide_eq_true c4]; simp; omega
          exact ⟨_, rfl, z, _, rfl, PySem.intText_digits had (fun e => by rw [e] at hc1; cases hc1) (by omega), by omega, fin g⟩
      · have c3 : ¬ c0 = 48 := fun e => c3 (by rw [e]; decide +kernel)
        have g : goodN z = true := by
          unfold goodN; rw [ea, hc1]; simp; exact ⟨⟨by omega, by omega⟩, .inl c3⟩
        exact ⟨_, rfl, z, _, rfl, PySem.intText_digits had (fun e => by rw [e] at hc1; cases hc1) (by omega), by omega, fin g⟩
end
end Hs
set_option Elab.async false
set_option linter.all false
set_option maxRecDepth 100000
set_option maxHeartbeats 4000000
namespace Hs
open PySem L2
section
variable {P : Program} {w : World} {K : PySem.W.Frag} {mg : Str → Option Value} {base : Heap} {f : Addr} {fd : FuncData} {aW1 aW2 : Addr}
theorem scNumT : FnScope ["numbers", "number"] ["numbers"] (defScope s_numbers_text) := ⟨rfl, rfl, rfl, by decide +kernel, rfl, by decide +kernel, by decide +kernel⟩
def W1s : List Str := (["split", "merge", "join", "turn", "unturn", "fold", "puff", "draw", "grow", "cap", "open", "rip"] : List Str)
def W2s : List Str := (["cut", "part", "sew"] : List Str)
def tS (n : Int) : Str := Str.ofString (toString n)
def blk : Str := Str.ofString " "
def Nine (n : Int) : Prop := 0 ≤ n ∧ n < 1000000000
theorem log_nine {n : Int} (h : Nine n) : n.natAbs.log2 < 1920 := by
  unfold Nine at h
  by_cases z : n.natAbs = 0
  · rw [z]; decide
  · refine Nat.lt_trans ((Nat.log2_lt z).mpr (?_ : n.natAbs < 2 ^ 30)) (by decide)
    have : (2 : Nat) ^ 30 = 1073741824 := by decide
    omega
theorem log_nine30 {n : Int} (h : Nine n) : n.natAbs.log2 < 30 := by
  unfold Nine at h
  by_cases z : n.natAbs = 0
  · rw [z]; decide
  · refine (Nat.log2_lt z).mpr (?_ : n.natAbs < 2 ^ 30)
    have : (2 : Nat) ^ 30 = 1073741824 := by decide
    omega
theorem tS_len {n : Int} (h : Nine n) : (tS n).length ≤ 600 := by
  have e := int_text_length_le (k := 30) (by decide) (log_nine30 h)
  unfold tS
  rw [PySem.ofString_length]; omega
theorem sum_le {f : Int → Nat} {b : Nat} : ∀ ns : List Int, (∀ n ∈ ns, f n ≤ b) → (ns.map f).sum ≤ ns.length * b
  | [], _ => by simp
  | n :: ns, h => by
    have := sum_le ns fun m hm => h m (List.mem_cons_of_mem _ hm)
    have := h n List.mem_cons_self
    rw [List.map_cons, List.sum_cons, List.length_cons, Nat.add_mul]; omega
theorem strs_len {ns : List Int} (hn : ∀ n ∈ ns, Nine n) : ((ns.map tS).map (·.length)).sum ≤ ns.length * 600 := by
  rw [List.map_map]
  exact sum_le ns fun n h => tS_len (hn n h)
def spNumT (K : PySem.W.Frag) : Sp := fun vs H Q _ => ∃ (l : Addr) (ns : List Int), vs = [.ref l] ∧ SqL K H l (ns.map V.int) ∧ ns.length ≤ 2 ∧ (∀ n ∈ ns, Nine n) ∧ ∀ H', Same H H' → Q (.str (Txt.join blk (ns.map tS))) H'
theorem ok_numt (B : Bi mg) (hStr : mg "str" = none) (F : Fun K "numbers_text" "numbers_text" s_numbers_text f fd) : FnOk P w K mg base CX0 1 f fd ["numbers"] (spNumT K) := by
  refine F.ok scNumT (fun vs H Q E h => ?_) (fun cdv A outer s H vs Q E hr h => ?_)
  · obtain ⟨l, ns, rfl, _⟩ := h; rfl
  obtain ⟨l, ns, rfl, hl, h2, hn, q⟩ := h
  refine ⟨_, (pss_one (ps_ret (pe_join pe_str (pe_lc (own := [("number", 1)]) (g := gName 1) rfl scNumT.nd (pi_list (pv 0)) (blkOk_by (own := [("number", 1)]) (N := ["numbers", "number"]) (sc := (defScope s_numbers_text)) (by decide +kernel)) (fun _ _ _ _ _ => (pg_name (i := 1) scNumT.nd rfl (Or.inl rfl))) (fun _ _ _ _ _ => pts_nil) (fun _ _ _ _ _ => (pe_callTy call_str_int rfl hStr bt_str (pa_cons (pv 1) pa_nil))))))), ?_⟩
  refine ⟨⟨_, rfl⟩, _, rfl, l, rfl, ⟨_, hl⟩, fun D hD => ?_⟩
  refine lc_list (K := K) (a := l) (xs := ns.map V.int) (Pv := fun i H' => Same H H' ∧ H' D = some (.lst (((ns.take i).map tS).map V.str))) ⟨same_put hD _, upd_same⟩ (fun i H' _ pv => pv.1.seq hl) ?_ ?_
  · rintro i x H' hx ⟨s1, g1⟩
    rw [List.getElem?_map] at hx
    obtain ⟨n, hn1, rfl⟩ := Option.map_eq_some_iff.mp hx
    refine ⟨rfl, yesT ⟨_, rfl, n, rfl, log_nine (hn n (List.mem_of_getElem? hn1)), _, g1, ?_, same_set s1 hD, ?_⟩⟩
    · rw [List.length_map, List.length_map, List.length_take, sizeLine_eq]; omega
    · rw [upd_same, List.take_succ, hn1, List.map_append, List.map_append]; rfl
  rintro H' ⟨s1, g1⟩
  rw [List.length_map, List.take_of_length_le (Nat.le_refl _)] at g1
  refine ⟨_, D, ns.map tS, rfl, rfl, .inl (SqL.of g1), ?_, q H' s1⟩
  have := strs_len hn
  rw [List.length_map]
  show _ + ns.length * 1 ≤ _
  omega
theorem scDeedT : FnScope ["deed", "word", "numbers"] ["deed"] (defScope s_deed_text) := ⟨rfl, rfl, rfl, by decide +kernel, rfl, by decide +kernel, by decide +kernel⟩
theorem join_more (w : Str) (x : Str) (r : List Str) : w ++ (blk ++ (Txt.join blk (x :: r) ++ Str.empty)) = Txt.join blk (w :: x :: r) := by
  rw [str_nil, str_assoc, TL.join_eq, TL.join_eq]; rfl
def spDeedText (K : PySem.W.Frag) : Sp := fun vs H Q _ => ∃ (a : Addr) (wd : Str) (ns : List Int), vs = [.ref a] ∧ SqT K H a (.str wd :: ns.map V.int) ∧ wd.length ≤ 2000 ∧ 1 ≤ ns.length ∧ ns.length ≤ 2 ∧ (∀ n ∈ ns, Nine n) ∧ ∀ H', Same H H' → Q (.str (Txt.join blk (wd :: ns.map tS))) H'
theorem join_len {ns : List Int} (h1 : 1 ≤ ns.length) (h2 : ns.length ≤ 2) (hn : ∀ n ∈ ns, Nine n) : (Txt.join blk (ns.map tS)).length ≤ 2000 := by
  rw [TL.join_eq]
  have hb : blk.length = 1 := by decide +kernel
  match ns, h1, h2, hn with
  | [a], _, _, hn =>
    have := tS_len (hn a (by simp))
    show (tS a).length ≤ 2000; omega
  | [a, b], _, _, hn =>
    have := tS_len (hn a (by simp))
    have := tS_len (hn b (by simp))
    show (tS a ++ blk ++ tS b).length ≤ 2000
    rw [strLen_append, strLen_append]; omega
theorem ok_deedt (B : Bi mg) (FNT : Fn P w K mg base "numbers_text" ["numbers"] 1 (spNumT K)) (F : Fun K "deed_text" "deed_text" s_deed_text f fd) : FnOk P w K mg base CX0 2 f fd ["deed"] (spDeedText K) := by
  refine F.ok scDeedT (fun vs H Q E h => ?_) (fun cdv A outer s H vs Q E hr h => ?_)
  · obtain ⟨a, wd, ns, rfl, _⟩ := h; rfl
  obtain ⟨a, wd, ns, rfl, ha, hw, h1, h2, hn, q⟩ := h
  refine ⟨_, (pss_cons (ps_asg (pv 0) (pg_star rfl (pgs_cons (pg_name (i := 1) scDeedT.nd rfl (Or.inl rfl)) (pgs_star (pg_name (i := 2) scDeedT.nd rfl (Or.inl rfl)) pgs_nil))))
   (pss_one (ps_ret (pe_fstrE (pje_str (pv 1) (pje_raw pe_str (pje_str (pe_callF FNT hr (by decide) (pa_cons (pv 2) pa_nil)) pje_nil))))))), ?_⟩
  refine ⟨_, rfl, a, _, _, rfl, ha, fun l hl => ⟨_, _, rfl, _, _, rfl, rfl, ?_⟩⟩
  refine ⟨_, rfl, wd, rfl, hw, blk, rfl, by decide +kernel, _, rfl, l, ns, rfl, SqL.of upd_same, h2, hn, fun H' s1 => ⟨_, rfl, join_len h1 h2 hn, ?_⟩⟩
  have := q H' ((same_put hl _).trans s1)
  cases ns with
  | nil => simp at h1
  | cons n r =>
    rw [List.map_cons] at this ⊢
    show Q (.str (wd ++ (blk ++ (Txt.join blk (tS n :: r.map tS) ++ Str.empty)))) H'
    rw [join_more]; exact this
theorem scIsDeed : FnScope ["thing", "number"] ["thing"] (defScope s_is_deed) := ⟨rfl, rfl, rfl, by decide +kernel, rfl, by decide +kernel, by decide +kernel⟩
def nV : Option Int → V
  | none => .non
  | some i => .int i
def kdO : Option Int → Kd
  | none => .non
  | some _ => .int
def isS : Option Int → Bool
  | none => false
  | some _ => true
def okDeed (wd : Str) (ns : List (Option Int)) : Bool := ns.all isS && (if W1s.contains wd then decide (ns.length = 1) else W2s.contains wd && decide (ns.length = 2))
def spIsDeed (K : PySem.W.Frag) : Sp := fun vs H Q _ => ∃ (p : Addr) (wd : Str) (ns : List (Option Int)), vs = [.ref p] ∧ SqT K H p (.str wd :: ns.map nV) ∧ ns.length ≤ 5000 ∧ ∀ H', Same H H' → Q (.bl (okDeed wd ns)) H'
theorem ok_isdeed (hW1 : mg "WORDS_OF_ONE" = some (.ref aW1)) (hW2 : mg "WORDS_OF_TWO" = some (.ref aW2)) (q1 : ∀ H, SqT K H aW1 (W1s.map V.str)) (q2 : ∀ H, SqT K H aW2 (W2s.map V.str)) (B : Bi mg) (hStr : mg "str" = none)
    (FW : Fn P w K mg base "is_whole" ["thing"] 1 (spWhole K)) (F : Fun K "is_deed" "is_deed" s_is_deed f fd) : FnOk P w K mg base CX0 2 f fd ["thing"] (spIsDeed K) := by
  refine F.ok scIsDeed (fun vs H Q E h => ?_) (fun cdv A outer s H vs Q E hr h => ?_)
  · obtain ⟨p, wd, ns, rfl, _⟩ := h; rfl
  obtain ⟨p, wd, ns, rfl, hp, hlen, q⟩ := h
  refine ⟨_, (pss_cons (ps_if (PW.pt (pw_or (pt_not (pt_val (pe_callB call_isi_tup rfl B.isinstance_ bt_isinstance (pa_cons (pv 0) (pa_cons (pe_ty rfl B.tuple_ bt_tuple) pa_nil))))) (pw_or (pt_not (pt_truth (pv 0) (by intro _; rfl))) (pw_or1 (pt_not (pt_val (pe_callB call_isi_str rfl B.isinstance_ bt_isinstance (pa_cons (pe_ix ix_tup (pv 0) pe_int (fun _ _ => rfl)) (pa_cons (pe_ty rfl hStr bt_str) pa_nil)))))))))
   (pss_one (ps_ret pe_bl))
   pss_nil)
   (pss_cons (ps_if (pt_not (pt_val (pe_callB (cr_all rfl) rfl B.all_ bt_all (pa_cons (pe_lc (own := [("number", 1)]) (g := gName 1) rfl scIsDeed.nd (pi_tup (pe_slice sl_tupW (pv 0) (po_some pe_int) po_none)) (blkOk_by (own := [("number", 1)]) (N := ["thing", "number"]) (sc := (defScope s_is_deed)) (by decide +kernel)) (fun _ _ _ _ _ => (pg_name (i := 1) scIsDeed.nd rfl (Or.inl rfl))) (fun _ _ _ _ _ => pts_nil) (fun _ _ _ _ _ => (pe_callF FW hr (by decide) (pa_cons (pv 1) pa_nil)))) pa_nil))))
   (pss_one (ps_ret pe_bl))
   pss_nil)
   (pss_cons (ps_if (pt_cmpR op_in_seq (pe_ix ix_tup (pv 0) pe_int (fun _ _ => rfl)) (pe_glob (v := .ref aW1) rfl hW1 rfl) rfl)
   (pss_one (ps_ret (pe_cmpR op_eq (pe_callB call_len_seq rfl B.len_ bt_len (pa_cons (pv 0) pa_nil)) pe_int (nomark _))))
   pss_nil)
   (pss_one (ps_ret (pe_and (pe_cmpR op_in_seq (pe_ix ix_tup (pv 0) pe_int (fun _ _ => rfl)) (pe_glob (v := .ref aW2) rfl hW2 rfl) rfl) (pe_one (pe_cmpR op_eq (pe_callB call_len_seq rfl B.len_ bt_len (pa_cons (pv 0) pa_nil)) pe_int (nomark _))))))))), ?_⟩
  refine ⟨_, rfl, .ref p, .tup, rfl, .inl ⟨rfl, _, hp⟩, _, rfl, ite2 (fun c => absurd c (by decide)) (fun _ => ?_)⟩
  refine ⟨_, rfl, true, .inr (.inl ⟨_, hp, rfl⟩), ite2 (fun c => absurd c (by decide)) (fun _ => ?_)⟩
  refine ⟨_, rfl, p, _, _, _, rfl, rfl, hp, at0 _ _, .str wd, .str, rfl, rfl, _, rfl, ite2 (fun c => absurd c (by decide)) (fun _ => ?_)⟩
  refine ⟨_, rfl, _, rfl, p, _, rfl, hp, fun p1 H1 s1 t1 => ⟨p1, rfl, ⟨_, t1⟩, ?_⟩⟩
  have ec : cutV (V.str wd :: ns.map nV) (some 1) none = ns.map nV := by rw [cut_drop _ _ (by decide)]; rfl
  rw [ec] at t1
  refine fun D hD => lc_tup (K := K) (a := p1) (xs := ns.map nV)
      (fun i H2 => Same H1 H2 ∧ H2 D = some (.lst (((ns.take i).map isS).map V.bl))) ⟨same_new hD _, upd_same⟩ (fun i H2 _ ⟨s2, _⟩ => s2.seqT t1) ?_ ?_
  · rintro i y H2 hy ⟨s2, hD2⟩
    rw [List.getElem?_map] at hy
    obtain ⟨o, ho, rfl⟩ := Option.map_eq_some_iff.mp hy
    refine ⟨rfl, yesT ?_⟩
    have kd : KindV K H2 (nV o) (kdO o) := by cases o <;> rfl
    refine ⟨_, rfl, nV o, kdO o, rfl, kd, _, hD2, by rw [List.length_map, List.length_map, List.length_take]; rw [sizeLine_eq]; omega, same_set s2 hD, ?_⟩
    rw [upd_same, List.take_succ, ho, List.map_append, List.map_append]
    cases o <;> rfl
  rintro H2 ⟨s2, hD2⟩
  rw [List.length_map, List.take_of_length_le (Nat.le_refl _)] at hD2
  have s3 := s1.trans s2
  have q' := q H2 s3
  have key : okDeed wd ns = (ns.all isS && (if W1s.contains wd then decide (ns.length = 1) else W2s.contains wd && decide (ns.length = 2))) := rfl
  have ea : (ns.map isS).all id = ns.all isS := by rw [List.all_map]; rfl
  refine ⟨D, _, rfl, SqL.of hD2, _, rfl, ?_⟩
  rw [ea]
  refine ite2 (fun c3 => ?_) (fun c3 => ?_)
  · have e : ns.all isS = false := by simpa using c3
    rw [key, e, Bool.false_and] at q'; exact q'
  have e3 : ns.all isS = true := by simpa using c3
  rw [key, e3, Bool.true_and] at q'
  have hl2 : (V.str wd :: ns.map nV).length = ns.length + 1 := by rw [List.length_cons, List.length_map]
  refine ⟨_, rfl, p, _, _, _, rfl, rfl, s3.seqT hp, at0 _ _, aW1, _, rfl, .inr (q1 _), rfl, flat_strs _, _, rfl, ?_⟩
  rw [show (if false = true then !inV (.str wd) (W1s.map V.str) else inV (.str wd) (W1s.map V.str)) = W1s.contains wd from by rw [if_neg (by decide), in_strs]]
  refine ite2 (fun c4 => ?_) (fun c4 => ?_)
  · rw [if_pos c4] at q'
    refine ⟨_, rfl, p, _, rfl, .inr (s3.seqT hp), rfl, ?_⟩
    rw [hl2, show decide (V.int ((ns.length + 1 : Nat) : Int) = V.int 2) = decide (ns.length = 1) from decide_eq_decide.mpr ⟨fun h => by have := V.int.inj h; omega, fun h => by rw [h]; rfl⟩]
    exact q'
  · rw [if_neg c4] at q'
    refine ⟨_, rfl, p, _, _, _, rfl, rfl, s3.seqT hp, at0 _ _, aW2, _, rfl, .inr (q2 _), rfl, flat_strs _, _, rfl, ?_⟩
    rw [show (if false = true then !inV (.str wd) (W2s.map V.str) else inV (.str wd) (W2s.map V.str)) = W2s.contains wd from by rw [if_neg (by decide), in_strs]]
    refine ite2 (fun c5 => ?_) (fun c5 => ?_)
    · rw [c5, Bool.true_and] at q'
      refine ⟨_, rfl, p, _, rfl, .inr (s3.seqT hp), rfl, ?_⟩
      rw [hl2, show decide (V.int ((ns.length + 1 : Nat) : Int) = V.int 3) = decide (ns.length = 2) from decide_eq_decide.mpr ⟨fun h => by have := V.int.inj h; omega, fun h => by rw [h]; rfl⟩]
      exact q'
    · rw [Bool.eq_false_iff.mpr c5, Bool.false_and] at q'
      exact q'
theorem scDeedIn : FnScope ["text", "words", "numbers", "deed", "word"] ["text"] (defScope s_deed_in) := ⟨rfl, rfl, rfl, by decide +kernel, rfl, by decide +kernel, by decide +kernel⟩
def cpOk (z : Str) : Prop := ∀ c ∈ z.cps.toList, c < 1114112
theorem spl_mem {S : List Nat} : ∀ (l : List Nat) (k : Nat) (acc p : List Nat), p ∈ TL.spl S k acc l → ∀ c ∈ p, c ∈ acc ∨ c ∈ l
  | [], k, acc, p, h, c, hc => by rw [TL.spl_nil] at h; rw [List.mem_singleton.mp h] at hc; exact .inl hc
  | a :: r, 0, acc, p, h, c, hc => by
    by_cases e : TL.pre S (a :: r) = true
    · rw [TL.spl_hit e] at h
      rcases List.mem_cons.mp h with rfl | h
      · exact .inl hc
      · rcases spl_mem r _ _ p h c hc with z | z
        · cases z
        · exact .inr (List.mem_cons_of_mem _ z)
    · rw [TL.spl_miss (by simpa using e)] at h
      rcases spl_mem r _ _ p h c hc with z | z
      · rcases List.mem_append.mp z with z | z
        · exact .inl z
        · rw [List.mem_singleton.mp z]; exact .inr List.mem_cons_self
      · exact .inr (List.mem_cons_of_mem _ z)
  | a :: r, k + 1, acc, p, h, c, hc => by
    rcases spl_mem r k acc p h c hc with z | z
    · exact .inl z
    · exact .inr (List.mem_cons_of_mem _ z)
theorem spl_len {S : List Nat} : ∀ (l : List Nat) (k : Nat) (acc : List Nat), TL.spl S k acc l ≠ [] ∧ (TL.spl S k acc l).length ≤ l.length + 1 ∧ ∀ p ∈ TL.spl S k acc l, p.length ≤ acc.length + l.length
  | [], k, acc => by rw [TL.spl_nil]; simp
  | a :: r, 0, acc => by
    by_cases e : TL.pre S (a :: r) = true
    · rw [TL.spl_hit e]
      obtain ⟨_, h2, h3⟩ := spl_len (S := S) r (S.length - 1) []
      refine ⟨by simp, by simp; omega, fun p hp => ?_⟩
      rcases List.mem_cons.mp hp with rfl | hp
      · simp
      · have := h3 p hp; simp at this ⊢; omega
    · rw [TL.spl_miss (by simpa using e)]
      obtain ⟨h1, h2, h3⟩ := spl_len (S := S) r 0 (acc ++ [a])
      refine ⟨h1, by simp; omega, fun p hp => ?_⟩
      have := h3 p hp; simp at this ⊢; omega
  | a :: r, k + 1, acc => by
    obtain ⟨h1, h2, h3⟩ := spl_len (S := S) r k acc
    refine ⟨h1, by show (TL.spl S k acc r).length ≤ _; simp; omega, fun p hp => ?_⟩
    have := h3 p hp; simp; omega
theorem splitw_ok {z : Str} (hz : cpOk z) : ∃ w0 ws, Txt.split z blk = w0 :: ws ∧ (w0 :: ws).length ≤ z.length + 1 ∧ ∀ p ∈ w0 :: ws, p.length ≤ z.length ∧ cpOk p := by
  have e := TL.split_spl z blk (by decide +kernel) (TL.kind_ok (by decide +kernel))
  obtain ⟨h1, h2, h3⟩ := spl_len (S := TL.tl blk) (TL.tl z) 0 []
  have m := spl_mem (S := TL.tl blk) (TL.tl z) 0 []
  rw [← e] at h1 h2 h3 m
  cases es : Txt.split z blk with
  | nil => rw [es] at h1; exact absurd rfl h1
  | cons w0 ws =>
    rw [es] at h2 h3 m
    have hl : (TL.tl z).length = z.length := Array.length_toList
    refine ⟨w0, ws, rfl, by rw [List.length_map] at h2; omega, fun p hp => ?_⟩
    have hm : TL.tl p ∈ (w0 :: ws).map TL.tl := List.mem_map_of_mem hp
    refine ⟨?_, fun c hc => ?_⟩
    · have := h3 _ hm
      show p.cps.size ≤ z.cps.size
      simpa using this
    · rcases m _ hm c hc with y | y
      · cases y
      · exact hz c y
def wds (z : Str) : List Str := Txt.split z blk
def deedOf (z : Str) : Option (Str × List Int) := if okDeed ((wds z).headD blk) ((wds z).tail.map numT) = true then some ((wds z).headD blk, (wds z).tail.map fun p => (numT p).getD 0) else none
theorem wds_eq {z w0 : Str} {ws : List Str} (h : Txt.split z blk = w0 :: ws) : wds z = w0 :: ws := h
theorem numV_nV (z : Str) : numV z = nV (numT z) := by unfold numV nV; cases numT z <;> rfl
def DeedAt (H : Hp) (r : Addr) (d : Str × List Int) : Prop := H r = some (.tup (.str d.1 :: d.2.map V.int))
def spDeedIn : Sp := fun vs H Q _ => ∃ z : Str, vs = [.str z] ∧ z.length ≤ 4000 ∧ cpOk z ∧ ∀ H', Same H H' → (deedOf z = none → Q .non H') ∧ ∀ d r, deedOf z = some d → DeedAt H' r d → Q (.ref r) H'
theorem ok_deedin (B : Bi mg) (FRN : Fn P w K mg base "read_number" ["text"] 1 spNum) (FID : Fn P w K mg base "is_deed" ["thing"] 2 (spIsDeed K)) (F : Fun K "deed_in" "deed_in" s_deed_in f fd) : FnOk P w K mg base CX0 3 f fd ["text"] spDeedIn := by
  refine F.ok scDeedIn (fun vs H Q E h => ?_) (fun cdv A outer s H vs Q E hr h => ?_)
  · obtain ⟨z, rfl, _⟩ := h; rfl
  obtain ⟨z, rfl, hz, hc, q⟩ := h
  refine ⟨_, (pss_cons (ps_set (i := 1) scDeedIn.nd rfl (Or.inl rfl) (pe_split (pv 0) pe_str))
   (pss_cons (ps_setLc (i := 2) (own := [("word", 4)]) (g := gName 4) rfl scDeedIn.nd rfl rfl (sw_true rfl rfl rfl rfl) (pi_list (pe_slice sl_list (pv 1) (po_some pe_int) po_none)) (blkOk_by (own := [("word", 4)]) (N := ["text", "words", "numbers", "deed", "word"]) (sc := (defScope s_deed_in)) (by decide +kernel)) (fun _ _ _ _ _ => (pg_name (i := 4) scDeedIn.nd rfl (Or.inl rfl))) (fun _ _ _ _ _ => pts_nil) (fun _ _ _ _ _ => (pe_callF FRN hr (by decide) (pa_cons (pv 4) pa_nil))))
   (pss_cons (ps_set (i := 3) scDeedIn.nd rfl (Or.inl rfl) (pe_tup (pa_cons (pe_ix ix_list (pv 1) pe_int (fun _ _ => rfl)) (pa_star (pv 2) pa_nil))))
   (pss_one (ps_ret (pe_ifExp (pt_val (pe_callF FID hr (by decide) (pa_cons (pv 3) pa_nil))) (pv 3) pe_non)))))), ?_⟩
  obtain ⟨w0, ws, es, hl, hp⟩ := splitw_ok hc
  refine ⟨_, rfl, ⟨_, rfl⟩, z, blk, rfl, rfl, by decide +kernel, by rw [sizeLine_eq]; omega, fun lw hlw => ?_⟩
  rw [es]
  have s1 := same_put hlw (.lst ((w0 :: ws).map V.str))
  have g1 := upd_same (H := H) (a := lw) (o := .lst ((w0 :: ws).map V.str))
  generalize upd H lw (.lst ((w0 :: ws).map V.str)) = H1 at s1 g1 ⊢
  have sw := wds_eq es
  refine ⟨_, rfl, _, rfl, lw, _, rfl, SqL.of g1, fun l1 hl1 => ⟨l1, rfl, ⟨_, SqL.of upd_same⟩, ?_⟩⟩
  have ec : cutV ((w0 :: ws).map V.str) (some 1) none = ws.map V.str := by rw [cut_drop _ _ (by decide)]; rfl
  rw [ec]
  have s2 := s1.trans (same_put hl1 (.lst (ws.map V.str)))
  have g2 := up hl1 g1 (o := .lst (ws.map V.str))
  have e2 := upd_same (H := H1) (a := l1) (o := .lst (ws.map V.str))
  generalize upd H1 l1 (.lst (ws.map V.str)) = H2 at s2 g2 e2 ⊢
  refine fun D hD => lc_list (K := K) (a := l1) (xs := ws.map V.str) (Pv := fun i H' => Same H2 H' ∧ H' D = some (.lst (((ws.take i).map numT).map nV))) ⟨same_put hD _, upd_same⟩ (fun i H' _ pv => SqL.of (pv.1 _ _ e2)) ?_ ?_
  · rintro i x H' hx ⟨s3, g3⟩
    rw [List.getElem?_map] at hx
    obtain ⟨p, hp1, rfl⟩ := Option.map_eq_some_iff.mp hx
    have hpm := hp p (List.mem_cons_of_mem _ (List.mem_of_getElem? hp1))
    refine ⟨rfl, yesT ⟨_, rfl, p, rfl, by omega, hpm.2, fun H'' s4 => ⟨_, s4 _ _ g3, ?_, same_set (s3.trans s4) hD, ?_⟩⟩⟩
    · rw [List.length_map, List.length_map, List.length_take, sizeLine_eq]; rw [List.length_cons] at hl; omega
    · rw [upd_same, List.take_succ, hp1, List.map_append, List.map_append, numV_nV]; rfl
  rintro H' ⟨s3, g3⟩
  rw [List.length_map, List.take_of_length_le (Nat.le_refl _)] at g3
  have s4 := s2.trans s3
  have g4 := s3 _ _ g2
  refine ⟨_, rfl, lw, _, _, _, rfl, rfl, SqL.of g4, at0 _ _, _, rfl, D, _, rfl, .inl (SqL.of g3), ?_, fun t ht => ?_⟩
  · show ((V.str w0) :: ((ws.map numT).map nV ++ [])).length ≤ sizeLine
    rw [List.append_nil, List.length_cons, List.length_map, List.length_map, sizeLine_eq]; rw [List.length_cons] at hl; omega
  rw [List.append_nil]
  have s5 := s4.trans (same_put ht (.tup (V.str w0 :: (ws.map numT).map nV)))
  have g5 := upd_same (H := H') (a := t) (o := .tup (V.str w0 :: (ws.map numT).map nV))
  generalize upd H' t (.tup (V.str w0 :: (ws.map numT).map nV)) = H5 at s5 g5 ⊢
  refine ⟨_, rfl, t, w0, ws.map numT, rfl, SqT.of g5, by rw [List.length_map]; rw [List.length_cons] at hl; omega, fun H6 s6 => ⟨_, rfl, ?_⟩⟩
  have q' := q H6 (s5.trans s6)
  have ed : deedOf z = if okDeed w0 (ws.map numT) = true then some (w0, ws.map fun p => (numT p).getD 0) else none := by unfold deedOf; rw [sw]; rfl
  refine ite2 (fun c => ?_) (fun c => ?_)
  · rw [if_pos c] at ed
    refine ⟨_, rfl, q'.2 _ _ ed ?_⟩
    unfold DeedAt
    rw [s6 _ _ g5]
    have ha : ∀ p ∈ ws, isS (numT p) = true := fun p hp2 => by
      unfold okDeed at c
      rw [Bool.and_eq_true] at c
      exact List.all_eq_true.mp c.1 _ (List.mem_map_of_mem hp2)
    have : (ws.map numT).map nV = (ws.map fun p => (numT p).getD 0).map V.int := by
      rw [List.map_map, List.map_map]
      refine List.map_congr_left fun p hp2 => ?_
      have := ha p hp2
      show nV (numT p) = V.int ((numT p).getD 0)
      cases e : numT p with
      | none => rw [e] at this; cases this
      | some n => rfl
    rw [this]
  · rw [if_neg c] at ed
    exact q'.1 ed
end
end Hs
set_option Elab.async false
set_option linter.all false
set_option maxRecDepth 100000
set_option maxHeartbeats 4000000
namespace Hs
open PySem L2
section
variable {P : Program} {w : World} {K : PySem.W.Frag} {mg : Str → Option Value} {base : Heap} {f : Addr} {fd : FuncData} {cT cS : Addr} {D : Nat → Addr}
theorem scReadDeed : FnScope ["text", "deed"] ["text"] (defScope s_read_deed) := ⟨rfl, rfl, rfl, by decide +kernel, rfl, by decide +kernel, by decide +kernel⟩
def textD : V → Option (Str × List Int)
  | .str z => deedOf z
  | _ => none
def AnyOk (K : PySem.W.Frag) (H : Hp) (x : V) : Prop := ∃ k, KindV K H x k ∧ (k = .str → ∃ z, x = .str z ∧ z.length ≤ 4000 ∧ cpOk z)
def spRead (K : PySem.W.Frag) (cT : Addr) : Sp := fun vs H Q E => ∃ x : V, vs = [x] ∧ AnyOk K H x ∧ ∀ H', Same H H' → (textD x = none → E (.ref cT) none H') ∧ ∀ d r, textD x = some d → DeedAt H' r d → Q (.ref r) H'
theorem ok_readdeed (B : Bi mg) (hStr : mg "str" = none) (own : OwnE K cT) (hT : mg "NoText" = some (.ref cT)) (FDI : Fn P w K mg base "deed_in" ["text"] 3 spDeedIn) (F : Fun K "read_deed" "read_deed" s_read_deed f fd) : FnOk P w K mg base (CXf P w) 4 f fd ["text"] (spRead K cT) := by
  refine FunX.ok F scReadDeed (fun vs H Q E h => ?_) (fun cdv A outer s H vs Q E hr h G => ?_)
  · obtain ⟨x, rfl, _⟩ := h; rfl
  obtain ⟨x, rfl, ⟨k, hk, hz⟩, q⟩ := h
  refine ⟨_, (pss_cons (ps_set (i := 1) scReadDeed.nd rfl (Or.inl rfl) (pe_ifExp (pt_val (pe_callB call_isi_str rfl B.isinstance_ bt_isinstance (pa_cons (pv 0) (pa_cons (pe_ty rfl hStr bt_str) pa_nil)))) (pe_callF FDI hr (by decide) (pa_cons (pv 0) pa_nil)) pe_non))
   (pss_cons (ps_if (pt_cmpR op_isN (pv 1) pe_non (nomark _))
   (pss_one (ps_raise rfl own hT G (pa_cons pe_str pa_nil)))
   pss_nil)
   (pss_one (ps_ret (pv 1))))), ?_⟩
  refine ⟨_, rfl, x, k, rfl, hk, _, rfl, ite2 (fun c => ?_) (fun c => ?_)⟩
  · have e : k = .str := by cases k <;> first | rfl | cases c
    obtain ⟨z, rfl, hl, hc⟩ := hz e
    refine ⟨_, rfl, z, rfl, hl, hc, fun H' s1 => ⟨fun e => ?_, fun d r e hd => ?_⟩⟩
    · refine ⟨_, rfl, rfl, _, rfl, itP rfl ?_⟩
      exact ⟨(by show 1 ≤ 100; decide), (q H' s1).1 e⟩
    · refine ⟨_, rfl, rfl, _, rfl, itN rfl ?_⟩
      exact ⟨_, rfl, (q H' s1).2 d r e hd⟩
  · have e : textD x = none := by
      cases x with
      | str z => exact absurd (show isiT k .str = true by cases (show k = .str from hk); rfl) c
      | _ => rfl
    refine ⟨_, rfl, rfl, _, rfl, itP rfl ?_⟩
    exact ⟨(by show 1 ≤ 100; decide), (q H (Same.refl H)).1 e⟩
theorem scWords : FnScope ["words"] [] (defScope s__law_words) := ⟨rfl, rfl, rfl, by decide +kernel, rfl, by decide +kernel, by decide +kernel⟩
@[irreducible] def wL : List Str := (["split", "merge", "cut", "join", "turn", "unturn", "fold", "puff", "draw", "part", "grow", "cap", "open"] : List Str)
@[irreducible] def stW (i : Nat) : Stmt := (defBody s__law_words).getD i (.Pass ⟨0, 0, 0, 0⟩)
theorem wL_eq : wL = (["split", "merge", "cut", "join", "turn", "unturn", "fold", "puff", "draw", "part", "grow", "cap", "open"] : List Str) := by unfold wL; rfl
theorem wL_ok : strsD (listIn (asgVal ((defBody s__law_words).getD 0 (.Pass ⟨0, 0, 0, 0⟩)))) = some wL := by rw [wL_eq]; kernel_rfl
theorem wAeq : ((defBody s__law_words).getD 0 (.Pass ⟨0, 0, 0, 0⟩)) = .Assign [.Name "words" ⟨111, 4, 111, 9⟩] (.List (listIn (asgVal ((defBody s__law_words).getD 0 (.Pass ⟨0, 0, 0, 0⟩)))) ⟨111, 12, 111, 118⟩) ⟨111, 4, 111, 118⟩ := by kernel_rfl
theorem body_words : defBody s__law_words = [stW 0, stW 1] := by unfold stW; kernel_rfl
theorem ps_w0 {X : Cx} (hN : X.N.Nodup) (hi : X.N[0]? = some (Str.ofString "words")) (hx : Loc X.env.scope (Str.ofString "words")) (hf : X.fn (Str.ofString "words") = true) : PS X (stW 0) (tSetS 0 wL) := by
  unfold stW
  rw [wAeq]
  exact @ps_setS X 0 (Str.ofString "words") (listIn (asgVal ((defBody s__law_words).getD 0 (.Pass ⟨0, 0, 0, 0⟩)))) _ _ _ wL hN hi hx hf wL_ok
theorem stw_un {X : Cx} {t : TS} (i : Nat) (h : PS X ((defBody s__law_words).getD i (.Pass ⟨0, 0, 0, 0⟩)) t) : PS X (stW i) t := by unfold stW; exact h
def LWs : List Str := (["split", "merge", "cut", "join", "turn", "unturn", "fold", "puff", "draw", "part", "grow", "cap", "open", "sew", "rip"] : List Str)
def spWords : Sp := fun vs H Q _ => vs = [] ∧ ∀ l H', Same H H' → H l = none → H' l = some (.lst (LWs.map V.str)) → Q (.ref l) H'
theorem ok_words (F : Fun K "_law_words" "_law_words" s__law_words f fd) : FnOk P w K mg base CX0 1 f fd [] spWords := by
  refine F.ok scWords (fun vs H Q E h => by rw [h.1]; rfl) (fun cdv A outer s H vs Q E hr h => ?_)
  obtain ⟨rfl, q⟩ := h
  rw [body_words]
  refine ⟨_, (pss_cons (ps_w0 scWords.nd rfl (Or.inl rfl) rfl) (pss_one (stw_un 1 (ps_ret (pe_op op_cat (pv 0) (pe_lst (pa_cons pe_str (pa_cons pe_str pa_nil)))))))), ?_⟩
  refine ⟨by rw [wL_eq]; decide, fun a ha => ?_⟩
  refine ⟨_, rfl, (by show 2 ≤ sizeLine; decide), fun b hb => ?_⟩
  refine ⟨a, b, wL.map V.str, (["sew", "rip"] : List Str).map V.str, rfl, rfl, up hb upd_same, upd_same, by rw [wL_eq, sizeLine_eq]; decide, fun r hr0 => ?_⟩
  refine q r _ (((same_put ha _).trans (same_put hb _)).trans (same_put hr0 _)) (((same_put ha _).trans (same_put hb _)).free hr0) ?_
  rw [upd_same, ← List.map_append, wL_eq]; rfl
theorem scLRead : FnScope ["text", "words", "numbers", "many", "word"] ["text"] (defScope s__law_read_deed) := ⟨rfl, rfl, rfl, by decide +kernel, rfl, by decide +kernel, by decide +kernel⟩
theorem lws_mem (w0 : Str) : LWs.contains w0 = (W1s.contains w0 || W2s.contains w0) := by
  have h1 : ∀ x ∈ LWs, x ∈ W1s ∨ x ∈ W2s := by decide +kernel
  have h2 : ∀ x ∈ W1s, x ∈ LWs := by decide +kernel
  have h3 : ∀ x ∈ W2s, x ∈ LWs := by decide +kernel
  rw [Bool.eq_iff_iff, Bool.or_eq_true, List.contains_iff_mem, List.contains_iff_mem, List.contains_iff_mem]
  exact ⟨h1 w0, fun h => h.elim (h2 w0) (h3 w0)⟩
theorem w12 (w0 : Str) (h : W1s.contains w0 = true) : W2s.contains w0 = false := by
  have h1 : ∀ x ∈ W1s, x ∉ W2s := by decide +kernel
  have := h1 w0 (List.contains_iff_mem.mp h)
  cases e : W2s.contains w0 with
  | false => rfl
  | true => exact absurd (List.contains_iff_mem.mp e) this
def manyW (w0 : Str) : Int := if W2s.contains w0 = true then 2 else 1
theorem okDeed_law (w0 : Str) (ns : List (Option Int)) : okDeed w0 ns = (LWs.contains w0 && decide ((ns.length : Int) = manyW w0) && ns.all isS) := by
  unfold okDeed manyW
  rw [lws_mem]
  cases h1 : W1s.contains w0 with
  | true =>
    rw [w12 w0 h1]
    have e : decide (((ns.length : Nat) : Int) = 1) = decide (ns.length = 1) := decide_eq_decide.mpr (by omega)
    simp only [Bool.true_or, Bool.true_and, if_true, Bool.false_eq_true, if_false, e]
    exact Bool.and_comm ..
  | false =>
    cases h2 : W2s.contains w0 with
    | true =>
      have e : decide (((ns.length : Nat) : Int) = 2) = decide (ns.length = 2) := decide_eq_decide.mpr (by omega)
      simp only [Bool.false_or, Bool.true_and, if_true, Bool.false_eq_true, if_false, e]
      exact Bool.and_comm ..
    | false => simp
theorem dict_many (w0 : Str) : ((valV (mergeK [] [((Sum.inr (some "cut") : Key), V.int 2), (Sum.inr (some "part"), .int 2), (Sum.inr (some "sew"), .int 2)]) (Sum.inr (some w0))).getD (.int 1)) = .int (manyW w0) := by
  have e : mergeK [] [((Sum.inr (some "cut") : Key), V.int 2), (Sum.inr (some "part"), .int 2), (Sum.inr (some "sew"), .int 2)] = [((Sum.inr (some "cut") : Key), V.int 2), (Sum.inr (some "part"), .int 2), (Sum.inr (some "sew"), .int 2)] := by decide +kernel
  rw [e]
  have ew : W2s.contains w0 = (decide (w0 = "cut") || decide (w0 = "part") || decide (w0 = "sew")) := by
    rw [Bool.eq_iff_iff, List.contains_iff_mem]; simp [W2s, or_assoc]
  unfold manyW
  rw [ew]
  by_cases c1 : w0 = "cut"
  · rw [valV_pos (by rw [c1])]; simp [c1]
  rw [valV_neg (fun z => c1 (by injection z with z; injection z with z; exact z.symm))]
  by_cases c2 : w0 = "part"
  · rw [valV_pos (by rw [c2])]; simp [c2]
  rw [valV_neg (fun z => c2 (by injection z with z; injection z with z; exact z.symm))]
  by_cases c3 : w0 = "sew"
  · rw [valV_pos (by rw [c3])]; simp [c3]
  rw [valV_neg (fun z => c3 (by injection z with z; injection z with z; exact z.symm)), valV_nil]
  simp [c1, c2, c3]
theorem flat_nV (l : List (Option Int)) : (l.map nV).all flatV = true := by
  rw [List.all_map]; exact List.all_eq_true.mpr fun o _ => by cases o <;> rfl
theorem in_nV (l : List (Option Int)) : inV .non (l.map nV) = !(l.all isS) := by
  induction l with
  | nil => rfl
  | cons o t ih => cases o <;> simp [inV, nV, isS, eqV] at ih ⊢ <;> simp [ih]
def spLRead : Sp := fun vs H Q _ => ∃ z : Str, vs = [.str z] ∧ z.length ≤ 4000 ∧ cpOk z ∧ ∀ H', Same H H' → (deedOf z = none → Q (.str "NoText+") H') ∧ ∀ d r, deedOf z = some d → DeedAt H' r d → Q (.ref r) H'
theorem ok_lread (B : Bi mg) (FLN : Fn P w K mg base "_law_number" ["word"] 1 spNum) (FWd : Fn P w K mg base "_law_words" [] 1 spWords) (F : Fun K "_law_read_deed" "_law_read_deed" s__law_read_deed f fd) : FnOk P w K mg base CX0 3 f fd ["text"] spLRead := by
  refine F.ok scLRead (fun vs H Q E h => ?_) (fun cdv A outer s H vs Q E hr h => ?_)
  · obtain ⟨z, rfl, _⟩ := h; rfl
  obtain ⟨z, rfl, hz, hc, q⟩ := h
  refine ⟨_, (pss_cons (ps_set (i := 1) scLRead.nd rfl (Or.inl rfl) (pe_split (pv 0) pe_str))
   (pss_cons (ps_setLc (i := 2) (own := [("word", 4)]) (g := gName 4) rfl scLRead.nd rfl rfl (sw_true rfl rfl rfl rfl) (pi_list (pe_slice sl_list (pv 1) (po_some pe_int) po_none)) (blkOk_by (own := [("word", 4)]) (N := ["text", "words", "numbers", "many", "word"]) (sc := (defScope s__law_read_deed)) (by decide +kernel)) (fun _ _ _ _ _ => (pg_name (i := 4) scLRead.nd rfl (Or.inl rfl))) (fun _ _ _ _ _ => pts_nil) (fun _ _ _ _ _ => (pe_callF FLN hr (by decide) (pa_cons (pv 4) pa_nil))))
   (pss_cons (ps_set (i := 3) scLRead.nd rfl (Or.inl rfl) (pe_dget2 (hu_of hr) (pe_disp (pps_cons pe_str pe_int (pps_cons pe_str pe_int (pps_cons pe_str pe_int pps_nil))) (by rfl) (by rfl) (fun z => by cases z) (by decide)) (pe_ix ix_list (pv 1) pe_int (fun _ _ => rfl)) pe_int ⟨rfl, rfl, rfl, rfl⟩))
   (pss_cons (ps_if (PW.pt (pw_or (pt_cmpR op_notIn_seq (pe_ix ix_list (pv 1) pe_int (fun _ _ => rfl)) (pe_callF0 FWd hr (by decide)) rfl) (pw_or (pt_cmpR op_ne (pe_callB call_len_seq rfl B.len_ bt_len (pa_cons (pv 2) pa_nil)) (pv 3) (nomark _)) (pw_or1 (pt_cmpR op_in_seq pe_non (pv 2) rfl)))))
   (pss_one (ps_ret pe_str))
   pss_nil)
   (pss_one (ps_ret (pe_op op_catT (pe_tup (pa_cons (pe_ix ix_list (pv 1) pe_int (fun _ _ => rfl)) pa_nil)) (pe_callTy call_tuple_of rfl B.tuple_ bt_tuple (pa_cons (pv 2) pa_nil))))))))), ?_⟩
  obtain ⟨w0, ws, es, hl, hp⟩ := splitw_ok hc
  refine ⟨_, rfl, ⟨_, rfl⟩, z, blk, rfl, rfl, by decide +kernel, by rw [sizeLine_eq]; omega, fun lw hlw => ?_⟩
  rw [es]
  have s1 := same_put hlw (.lst ((w0 :: ws).map V.str))
  have g1 := upd_same (H := H) (a := lw) (o := .lst ((w0 :: ws).map V.str))
  generalize upd H lw (.lst ((w0 :: ws).map V.str)) = H1 at s1 g1 ⊢
  have sw := wds_eq es
  refine ⟨_, rfl, _, rfl, lw, _, rfl, SqL.of g1, fun l1 hl1 => ⟨l1, rfl, ⟨_, SqL.of upd_same⟩, ?_⟩⟩
  have ec : cutV ((w0 :: ws).map V.str) (some 1) none = ws.map V.str := by rw [cut_drop _ _ (by decide)]; rfl
  rw [ec]
  have s2 := s1.trans (same_put hl1 (.lst (ws.map V.str)))
  have g2 := up hl1 g1 (o := .lst (ws.map V.str))
  have e2 := upd_same (H := H1) (a := l1) (o := .lst (ws.map V.str))
  generalize upd H1 l1 (.lst (ws.map V.str)) = H2 at s2 g2 e2 ⊢
  refine fun D hD => lc_list (K := K) (a := l1) (xs := ws.map V.str) (Pv := fun i H' => Same H2 H' ∧ H' D = some (.lst (((ws.take i).map numT).map nV))) ⟨same_put hD _, upd_same⟩ (fun i H' _ pv => SqL.of (pv.1 _ _ e2)) ?_ ?_
  · rintro i x H' hx ⟨s3, g3⟩
    rw [List.getElem?_map] at hx
    obtain ⟨p, hp1, rfl⟩ := Option.map_eq_some_iff.mp hx
    have hpm := hp p (List.mem_cons_of_mem _ (List.mem_of_getElem? hp1))
    refine ⟨rfl, yesT ⟨_, rfl, p, rfl, by omega, hpm.2, fun H'' s4 => ⟨_, s4 _ _ g3, ?_, same_set (s3.trans s4) hD, ?_⟩⟩⟩
    · rw [List.length_map, List.length_map, List.length_take, sizeLine_eq]; rw [List.length_cons] at hl; omega
    · rw [upd_same, List.take_succ, hp1, List.map_append, List.map_append, numV_nV]; rfl
  rintro H' ⟨s3, g3⟩
  rw [List.length_map, List.take_of_length_le (Nat.le_refl _)] at g3
  have s4 := s2.trans s3
  have g4 := s3 _ _ g2
  have ed : deedOf z = if okDeed w0 (ws.map numT) = true then some (w0, ws.map fun p => (numT p).getD 0) else none := by unfold deedOf; rw [sw]; rfl
  have hln : (ws.map numT).length ≤ 4000 := by rw [List.length_map]; rw [List.length_cons] at hl; omega
  refine fun pd hpd => ⟨upd_same, [((Sum.inr (some "cut") : Key), V.int 2), (Sum.inr (some "part"), .int 2), (Sum.inr (some "sew"), .int 2)], rfl, by decide, ?_⟩
  have s5 : Same H' (upd (upd H' pd (.dK [])) pd (.dK (mergeK [] [((Sum.inr (some "cut") : Key), V.int 2), (Sum.inr (some "part"), .int 2), (Sum.inr (some "sew"), .int 2)]))) := fun c u hu => by
    rw [upd_ne (ne_of_none hu hpd), upd_ne (ne_of_none hu hpd)]; exact hu
  have g5 := upd_same (H := upd H' pd (.dK [])) (a := pd) (o := .dK (mergeK [] [((Sum.inr (some "cut") : Key), V.int 2), (Sum.inr (some "part"), .int 2), (Sum.inr (some "sew"), .int 2)]))
  generalize upd (upd H' pd (.dK [])) pd (.dK (mergeK [] [((Sum.inr (some "cut") : Key), V.int 2), (Sum.inr (some "part"), .int 2), (Sum.inr (some "sew"), .int 2)])) = H5 at s5 g5 ⊢
  refine ⟨pd, rfl, .inl ⟨_, .inl g5⟩, _, rfl, lw, _, _, _, rfl, rfl, SqL.of (s5 _ _ g4), at0 _ _, _, DGet.k (k := Sum.inr (some w0)) g5, ?_⟩
  rw [dict_many]
  have s6 := s4.trans s5
  have g6 := s5 _ _ g4
  have g7 := s5 _ _ g3
  have lawno : okDeed w0 (ws.map numT) = false → ∀ H', Same H H' → Q (.str "NoText+") H' := fun e H' s => (q H' s).1 (by rw [ed, if_neg (by rw [e]; decide)])
  refine ⟨_, rfl, lw, _, _, _, rfl, rfl, SqL.of g6, at0 _ _, rfl, fun lx H8 s8 hlx0 hlx => ⟨lx, _, rfl, .inl (SqL.of hlx), rfl, flat_strs _, _, rfl, ?_⟩⟩
  rw [show (if true = true then !inV (.str w0) (LWs.map V.str) else inV (.str w0) (LWs.map V.str)) = !(LWs.contains w0) from by rw [if_pos rfl, in_strs]]
  have s68 := s6.trans s8
  refine ite2 (fun c => ?_) (fun c => ?_)
  · refine lawno ?_ H8 s68
    rw [okDeed_law, show LWs.contains w0 = false by simpa using c]; simp
  have c1 : LWs.contains w0 = true := by simpa using c
  refine ⟨_, rfl, D, _, rfl, .inl (SqL.of (s8 _ _ g7)), _, rfl, rfl, _, rfl, ?_⟩
  rw [List.length_map]
  refine ite2 (fun c => ?_) (fun c => ?_)
  · refine lawno ?_ H8 s68
    have : ¬ (((ws.map numT).length : Nat) : Int) = manyW w0 := by simpa using c
    rw [okDeed_law, decide_eq_false this]; simp
  have c2 : (((ws.map numT).length : Nat) : Int) = manyW w0 := by simpa using c
  refine ⟨_, rfl, D, _, rfl, .inl (SqL.of (s8 _ _ g7)), rfl, flat_nV _, _, rfl, ?_⟩
  rw [show (if false = true then !inV .non ((ws.map numT).map nV) else inV .non ((ws.map numT).map nV)) = !((ws.map numT).all isS) from by rw [if_neg (by decide), in_nV]]
  refine ite2 (fun c => ?_) (fun c => ?_)
  · refine lawno ?_ H8 s68
    rw [okDeed_law, show (ws.map numT).all isS = false by simpa using c]; simp
  have c3 : (ws.map numT).all isS = true := by simpa using c
  have cok : okDeed w0 (ws.map numT) = true := by rw [okDeed_law, c1, decide_eq_true c2, c3]; rfl
  rw [if_pos cok] at ed
  have hnv : (ws.map numT).map nV = (ws.map fun p => (numT p).getD 0).map V.int := by
    rw [List.map_map, List.map_map]
    refine List.map_congr_left fun p hp2 => ?_
    have := List.all_eq_true.mp c3 _ (List.mem_map_of_mem hp2)
    show nV (numT p) = V.int ((numT p).getD 0)
    cases e : numT p with
    | none => rw [e] at this; cases this
    | some n => rfl
  refine ⟨_, rfl, lw, _, _, _, rfl, rfl, SqL.of (s8 _ _ g6), at0 _ _, (by show 1 ≤ sizeLine; decide), fun t1 ht1 => ?_⟩
  refine ⟨_, rfl, D, _, rfl, .inl ⟨SqL.of (up ht1 (s8 _ _ g7)), fun t2 ht2 => ?_⟩⟩
  refine ⟨t1, t2, _, _, rfl, rfl, SqT.of (up ht2 upd_same), SqT.of upd_same, nofun, ?_, fun e => ?_, fun _ t3 ht3 => ?_⟩
  · rw [List.length_map, sizeLine_eq]; show 1 + _ ≤ _; omega
  · have : (ws.map numT) = [] := List.map_eq_nil_iff.mp e
    rw [this] at c2
    unfold manyW at c2
    split at c2 <;> cases c2
  refine (q _ (s68.trans (((same_put ht1 _).trans (same_put ht2 _)).trans (same_put ht3 _)))).2 _ _ ed ?_
  unfold DeedAt
  rw [upd_same, hnv]; rfl
theorem scTold : FnScope ["text", "found", "kind", "e"] ["text"] (defScope s__law_told_text) := ⟨rfl, rfl, rfl, by decide +kernel, rfl, by decide +kernel, by decide +kernel⟩
def bT : Nat → Bool := fun i => decide (i = 7)
theorem kText_T : kText bT = "NoText+" := by decide +kernel
theorem pss_pre {X : Cx} {l : List Stmt} {φ : Prop} {t : TS} (h : φ → PSs X l t) : PSs X l (fun D σ H => φ ∧ t D σ H) := fun a b c d e f g => h g.1 a b c d e f g.2
theorem room_calm {k : Nat} {A : Around} {v : Option Value} (r : Room k A) : Room k (calmed (A.mark v)) := ⟨rfl, r.dp, r.un⟩
def spTold (K : PySem.W.Frag) : Sp := fun vs H Q _ => ∃ x : V, vs = [x] ∧ AnyOk K H x ∧ ∀ H', Same H H' → (textD x = none → Q (.str "NoText+") H') ∧ ∀ d r, textD x = some d → DeedAt H' r d → Q (.ref r) H'
theorem ok_told (B : Bi mg) (hS : mg "SkinError" = some (.ref cS)) (hX : PySem.W.exmOne K (.ref cT) (.ref cS) = some true) (ZT : KindOf K D cT bT) (FK : FnH P w K mg base "_law_kinds" 1 (spKinds K D))
    (FRd : FnX P w K mg base "read_deed" ["text"] 4 (spRead K cT)) (F : Fun K "_law_told_text" "_law_told_text" s__law_told_text f fd) : FnOk P w K mg base CX0 5 f fd ["text"] (spTold K) := by
  refine F.ok scTold (fun vs H Q E h => ?_) (fun cdv A outer s H vs Q E hr h => ?_)
  · obtain ⟨x, rfl, _⟩ := h; rfl
  obtain ⟨x, rfl, hx, q⟩ := h
  let EA : L2.St → XK := fun σ cls od H' => cls = .ref cT ∧ od = none ∧ σ = [some x, some .non, some (.str ""), none] ∧ Same H H' ∧ textD x = none
  refine ⟨_, (pss_cons (ps_set (i := 1) scTold.nd rfl (Or.inl rfl) pe_non)
   (pss_cons (ps_set (i := 2) scTold.nd rfl (Or.inl rfl) pe_str)
   (pss_cons (ps_try (E := EA) (i := 3) rfl rfl rfl scTold.nd rfl rfl hS (fun pn xe G => (pss_one (ps_set (i := 1) scTold.nd rfl (Or.inl rfl) (pe_callX FRd hr (by decide) G (pa_cons (pv 0) pa_nil))))) (fun e oe => pss_pre fun hd => (pss_one (ps_set (i := 2) scTold.nd rfl (Or.inl rfl) (pe_callH FK (room_calm hr) (by decide) (.inr rfl) (List.mem_append_right _ (List.mem_singleton.mpr rfl)) hd (pa_cons (pv 3) pa_nil))))))
   (pss_one (ps_ret (pe_ifExp (pt_cmpR op_eq (pv 2) pe_str (nomark _)) (pv 1) (pv 2))))))), ?_⟩
  refine ⟨?_, ?_⟩
  · refine ⟨_, rfl, x, rfl, hx, fun H' s1 => ⟨fun e => ⟨rfl, rfl, rfl, s1, e⟩, fun d r e hd => ?_⟩⟩
    exact ⟨_, rfl, rfl, _, rfl, itP rfl ⟨_, rfl, (q H' s1).2 d r e hd⟩⟩
  · rintro σ' cls od H' ⟨rfl, rfl, rfl, s1, e0⟩
    refine ⟨by show (PySem.W.exmOne K (.ref cT) (.ref cS) == some true) = true; rw [hX]; rfl, fun e oe he rc => ⟨?_, ?_⟩⟩
    · obtain ⟨vs, sl, rfl, _⟩ := rc; exact ⟨vs, rfl⟩
    refine ⟨_, rfl, rfl, cT, bT, rc, ZT, fun H2 s2 => ?_⟩
    rw [kText_T]
    exact ⟨_, rfl, rfl, _, rfl, itN (by decide +kernel) ⟨_, rfl, (q H2 (s1.trans s2)).1 e0⟩⟩
end
end Hs
set_option Elab.async false
set_option linter.all false
set_option maxRecDepth 100000
set_option maxHeartbeats 4000000
namespace Hs
open PySem L2
section
variable {P : Program} {w : World} {K : PySem.W.Frag} {mg : Str → Option Value} {base : Heap} {f : Addr} {fd : FuncData}
theorem scBent : FnScope ["bag", "text", "more", "signs", "sign", "at", "way", "words", "some"] ["bag", "text", "more"] (defScope sBent) := ⟨rfl, rfl, rfl, by decide +kernel, rfl, by decide +kernel, by decide +kernel⟩
theorem digChar : ∀ d : Nat, d < 10 → 48 ≤ (Nat.digitChar d).toNat ∧ (Nat.digitChar d).toNat ≤ 57 := by decide
theorem digits_all (m : Nat) : PySem.NumText.AllDigits ((Nat.toDigits 10 m).map Char.toNat) := by
  induction m using Nat.strongRecOn with
  | _ m ih =>
    by_cases h : m < 10
    · rw [Nat.toDigits_of_lt_base h]
      intro c hc
      rw [List.map_cons, List.map_nil, List.mem_singleton] at hc
      rw [hc]; exact digChar m h
    · have hm : m % 10 < 10 := Nat.mod_lt m (by decide)
      have t : Nat.toDigits 10 (m / 10) ++ Nat.toDigits 10 (m % 10) = Nat.toDigits 10 (10 * (m / 10) + m % 10) := Nat.toDigits_append_toDigits (by decide) (by omega) hm
      rw [Nat.div_add_mod] at t
      rw [← t, List.map_append, Nat.toDigits_of_lt_base hm]
      intro c hc
      rcases List.mem_append.mp hc with hc | hc
      · exact ih (m / 10) (by omega) c hc
      · rw [List.map_cons, List.map_nil, List.mem_singleton] at hc
        rw [hc]; exact digChar _ hm
theorem digits_head {m : Nat} {r : List Nat} (h : (Nat.toDigits 10 m).map Char.toNat = 48 :: r) : r = [] := by
  have hd := digits_all m
  have hv := PySem.W.KIN.val_back m
  rw [h] at hd hv
  have e := PySem.NumText.toDigits_all (48 :: r) hd
  rw [hv] at e
  have hl : (Nat.toDigits 10 m).length = r.length + 1 := by have := congrArg List.length h; simpa using this
  cases r with
  | nil => rfl
  | cons c t =>
    have h1 : ((48 :: c :: t).dropWhile (· == 48)).length ≤ (c :: t).length := by
      rw [List.dropWhile_cons, if_pos (by decide)]
      have : ((c :: t).dropWhile (· == 48)).length ≤ (c :: t).length := (List.dropWhile_sublist _).length_le
      exact this
    have h2 := congrArg List.length e
    rw [hl] at h2
    generalize (48 :: c :: t).dropWhile (· == 48) = dw at h1 h2
    cases dw with
    | nil => simp at h2
    | cons a b => simp at h1 h2; omega
theorem tS_digits {n : Int} (h : Nine n) : ∃ m : Nat, n = (m : Int) ∧ m < 10 ^ 9 ∧ (tS n).cps.toList = (Nat.toDigits 10 m).map Char.toNat := by
  unfold Nine at h
  obtain ⟨m, rfl⟩ := Int.eq_ofNat_of_zero_le h.1
  exact ⟨m, rfl, by have : (10 : Nat) ^ 9 = 1000000000 := by decide
                    omega, PySem.W.KIN.signs_num m⟩
theorem tS_nine {n : Int} (h : Nine n) : 1 ≤ (tS n).length ∧ (tS n).length ≤ 9 := by
  obtain ⟨m, rfl, hm, e⟩ := tS_digits h
  have hl : (tS (m : Int)).length = (Nat.toDigits 10 m).length := by
    show (tS (m : Int)).cps.size = _
    rw [← Array.length_toList, e, List.length_map]
  rw [hl]
  exact ⟨PySem.toDigits_len_ge 10 m, PySem.toDigits_len_pow (by decide) (by decide) hm⟩
theorem tS_ok {n : Int} (h : Nine n) : cpOk (tS n) ∧ 32 ∉ (tS n).cps.toList := by
  obtain ⟨m, rfl, hm, e⟩ := tS_digits h
  have hd := digits_all m
  rw [← e] at hd
  exact ⟨fun c hc => by have := hd c hc; omega, fun hc => by have := hd 32 hc; omega⟩
theorem tS_num {n : Int} (h : Nine n) : numT (tS n) = some n := by
  obtain ⟨l1, l9⟩ := tS_nine h
  obtain ⟨m, rfl, hm, e⟩ := tS_digits h
  have hd := digits_all m
  have hv := PySem.W.KIN.val_back m
  rw [← e] at hd hv
  have g : goodN (tS (m : Int)) = true := by
    have ea : (tS (m : Int)).cps.toList.all (fun c => decide (c ∈ figC)) = true := List.all_eq_true.mpr fun c hc => by
      have := hd c hc
      rw [decide_eq_true_iff, figC_eq]
      simp; omega
    unfold goodN
    rw [ea, decide_eq_true l1, decide_eq_true l9]
    by_cases hz : (tS (m : Int)).cps.toList.head? = some 48
    · have : tS (m : Int) = "0" := by
        cases ec : (tS (m : Int)).cps.toList with
        | nil => rw [ec] at hz; cases hz
        | cons c r =>
          rw [ec] at hz
          cases hz
          have hr : r = [] := digits_head (m := m) (by rw [← e, ec])
          subst hr
          exact TL.ext_tl (by show (tS (m : Int)).cps.toList = _; rw [ec]; decide +kernel)
      rw [decide_eq_true this]; simp
    · rw [decide_eq_false hz]; rfl
  unfold numT
  rw [if_pos g, hv]
theorem cp_app {a b : Str} (ha : cpOk a) (hb : cpOk b) : cpOk (a ++ b) := fun c hc => by
  have e : (a ++ b).cps.toList = a.cps.toList ++ b.cps.toList := TL.tl_append a b
  rw [e] at hc
  rcases List.mem_append.mp hc with z | z
  · exact ha c z
  · exact hb c z
theorem cp_cut {z : Str} (hz : cpOk z) (lo hi : Option Int) : cpOk (cutS z lo hi) := fun c hc => by
  have e : (cutS z lo hi).cps.toList = (z.cps.toList.drop (HT.sIx z.length 0 lo)).take (HT.sIx z.length z.length hi - HT.sIx z.length 0 lo) := by
    unfold cutS; rw [List.toList_toArray]
  rw [e] at hc
  exact hz c (List.mem_of_mem_drop (List.mem_of_mem_take hc))
theorem cp_join : ∀ (l : List Str), (∀ p ∈ l, cpOk p) → cpOk (Str.join blk l) ∧ (Str.join blk l).length ≤ (l.map (·.length)).sum + l.length
  | [], _ => ⟨fun c hc => (by cases hc), Nat.zero_le _⟩
  | [x], h => ⟨h x (by simp), by show x.length ≤ _; simp⟩
  | x :: y :: r, h => by
    obtain ⟨h1, h2⟩ := cp_join (y :: r) fun p hp => h p (List.mem_cons_of_mem _ hp)
    have hb : cpOk blk := by unfold cpOk; decide +kernel
    have lb : blk.length = 1 := by decide +kernel
    refine ⟨cp_app (cp_app (h x List.mem_cons_self) hb) h1, ?_⟩
    show (x ++ blk ++ Str.join blk (y :: r)).length ≤ _
    rw [strLen_append, strLen_append, lb, List.map_cons, List.sum_cons, List.length_cons]
    omega
theorem spl_sum {S : List Nat} : ∀ (l : List Nat) (k : Nat) (acc : List Nat), ((TL.spl S k acc l).map List.length).sum ≤ acc.length + l.length
  | [], k, acc => by rw [TL.spl_nil]; simp
  | a :: r, 0, acc => by
    by_cases e : TL.pre S (a :: r) = true
    · rw [TL.spl_hit e, List.map_cons, List.sum_cons]
      have := spl_sum (S := S) r (S.length - 1) []
      simp at this ⊢; omega
    · rw [TL.spl_miss (by simpa using e)]
      have := spl_sum (S := S) r 0 (acc ++ [a])
      simp at this ⊢; omega
  | a :: r, k + 1, acc => by
    have := spl_sum (S := S) r k acc
    show ((TL.spl S k acc r).map List.length).sum ≤ _
    simp; omega
theorem split_sum {z : Str} : ((Txt.split z blk).map (·.length)).sum ≤ z.length := by
  have e := TL.split_spl z blk (by decide +kernel) (TL.kind_ok (by decide +kernel))
  have h := spl_sum (S := TL.tl blk) (TL.tl z) 0 []
  rw [← e, List.map_map] at h
  have hl : (TL.tl z).length = z.length := Array.length_toList
  have ef : (Txt.split z blk).map (List.length ∘ TL.tl) = (Txt.split z blk).map (·.length) := List.map_congr_left fun p _ => (Array.length_toList : p.cps.toList.length = p.cps.size)
  rw [ef] at h
  simpa [hl] using h
theorem sub_sum : ∀ {a b : List Str}, a.Sublist b → (a.map (·.length)).sum ≤ (b.map (·.length)).sum := fun h => by
  induction h with
  | slnil => exact Nat.le_refl _
  | cons x _ ih => rw [List.map_cons, List.sum_cons]; omega
  | cons_cons x _ ih => rw [List.map_cons, List.sum_cons, List.map_cons, List.sum_cons]; omega
def spBent (K : PySem.W.Frag) : Sp := fun vs H Q _ => ∃ (b lm : Addr) (x y : Int) (z : Str) (ms : List Str), vs = [.ref b, .str z, .ref lm] ∧ H b = some (.lst [.int x, .int y]) ∧ H lm = some (.lst (ms.map V.str)) ∧ lm ≠ b ∧ 1 ≤ ms.length ∧ ms.length ≤ 100 ∧ (∀ m ∈ ms, m.length ≤ 10 ∧ cpOk m) ∧ z.length ≤ 4000 ∧ cpOk z ∧
  ∀ H' z' x' y', But b H H' → H' b = some (.lst [.int x', .int y']) → z'.length ≤ 4 * z.length + 15 → cpOk z' → Q (.str z') H'
theorem at_ex {α : Type} (l : List α) {r : Int} (h0 : 0 ≤ r) (h1 : r < (l.length : Int)) : ∃ c, atI l r = some c ∧ c ∈ l := by
  obtain ⟨m, rfl⟩ := Int.eq_ofNat_of_zero_le h0
  have hm : m < l.length := by omega
  exact ⟨l[m], atI_nat (List.getElem?_eq_getElem hm), List.getElem_mem hm⟩
theorem cut_two (z : Str) {a : Int} (h0 : 0 ≤ a) : (cutS z (some a) (some (a + 2))).length ≤ 2 := by
  show (((z.cps.toList.drop (HT.sIx z.length 0 (some a))).take (HT.sIx z.length z.length (some (a + 2)) - HT.sIx z.length 0 (some a))).toArray).size ≤ 2
  rw [List.size_toArray, List.length_take, List.length_drop, Array.length_toList]
  have hz : z.cps.size = z.length := rfl
  unfold HT.sIx
  simp only
  split <;> split <;> omega
def SG : Str := Str.ofString " !\"#$&'()*+,-./0123456789:;<=>?@ABCDEFGHIJKLMNOPQRSTUVWXYZ[\\]^_`abcdefghijklmnopqrstuvwxyz{|}~\n"
theorem SG_len : SG.length = 95 := by decide +kernel
theorem SG_ok : cpOk SG := by unfold cpOk; decide +kernel
theorem sign_ok {c : Nat} (h : c < 1114112) : (Str.mk #[c]).length ≤ 10 ∧ cpOk (Str.mk #[c]) := ⟨by show (#[c] : Array Nat).size ≤ 10; simp, fun d hd => by
  have : d = c := by simpa using hd
  rw [this]; exact h⟩
theorem ok_bent (B : Bi mg) (FT : Fn P w K mg base "_law_take" ["bag", "many"] 1 spTake) (F : Fun K "_law_bent" "_law_bent" sBent f fd) : FnOk P w K mg base CX0 2 f fd ["bag", "text", "more"] (spBent K) := by
  refine F.ok scBent (fun vs H Q E h => ?_) (fun cdv A outer s H vs Q E hr h => ?_)
  · obtain ⟨b, lm, x, y, z, ms, rfl, _⟩ := h; rfl
  obtain ⟨b, lm, x, y, z, ms, rfl, hb, hlm, nlm, hm1, hm2, hms, hz, hc, q⟩ := h
  refine ⟨_, (pss_cons (ps_set (i := 3) scBent.nd rfl (Or.inl rfl) pe_str)
   (pss_cons (ps_set (i := 4) scBent.nd rfl (Or.inl rfl) (pe_ix ix_list (pe_lst (pa_cons (pe_ix ix_str (pv 3) (pe_callF FT hr (by decide) (pa_cons (pv 0) (pa_cons (pe_callB call_len_str rfl B.len_ bt_len (pa_cons (pv 3) pa_nil)) pa_nil))) (fun _ _ => rfl)) (pa_cons (pe_ix ix_list (pv 2) (pe_callF FT hr (by decide) (pa_cons (pv 0) (pa_cons (pe_callB call_len_seq rfl B.len_ bt_len (pa_cons (pv 2) pa_nil)) pa_nil))) (fun _ _ => rfl)) pa_nil))) (pe_callF FT hr (by decide) (pa_cons (pv 0) (pa_cons pe_int pa_nil))) (fun _ _ => rfl)))
   (pss_cons (ps_set (i := 5) scBent.nd rfl (Or.inl rfl) (pe_callF FT hr (by decide) (pa_cons (pv 0) (pa_cons (pe_op op_add (pe_callB call_len_str rfl B.len_ bt_len (pa_cons (pv 1) pa_nil)) pe_int) pa_nil))))
   (pss_cons (ps_set (i := 6) scBent.nd rfl (Or.inl rfl) (pe_callF FT hr (by decide) (pa_cons (pv 0) (pa_cons pe_int pa_nil))))
   (pss_cons (ps_if (pt_cmpR op_lt (pv 6) pe_int (nomark _))
   (pss_one (ps_ret (pe_op op_add_str (pe_op op_add_str (pe_slice sl_str (pv 1) po_none (po_some (pv 5))) (pv 4)) (pe_slice sl_str (pv 1) (po_some (pe_op op_add (pv 5) (pv 6))) po_none))))
   pss_nil)
   (pss_cons (ps_if (pt_cmpR op_eq (pv 6) pe_int (nomark _))
   (pss_one (ps_ret (pe_op op_add_str (pe_slice sl_str (pv 1) po_none (po_some (pv 5))) (pe_slice sl_str (pv 1) (po_some (pe_op op_add (pv 5) pe_int)) po_none))))
   pss_nil)
   (pss_cons (ps_if (pt_cmpR op_eq (pv 6) pe_int (nomark _))
   (pss_one (ps_ret (pe_op op_add_str (pe_slice sl_str (pv 1) po_none (po_some (pe_op op_add (pv 5) pe_int))) (pe_slice sl_str (pv 1) (po_some (pv 5)) po_none))))
   pss_nil)
   (pss_cons (ps_if (pt_cmpR op_eq (pv 6) pe_int (nomark _))
   (pss_one (ps_ret (pe_op op_add_str (pe_op op_add_str (pe_slice sl_str (pv 1) po_none (po_some (pv 5))) (pe_revS (pe_slice sl_str (pv 1) (po_some (pv 5)) (po_some (pe_op op_add (pv 5) pe_int))))) (pe_slice sl_str (pv 1) (po_some (pe_op op_add (pv 5) pe_int)) po_none))))
   pss_nil)
   (pss_cons (ps_set (i := 7) scBent.nd rfl (Or.inl rfl) (pe_split (pv 1) pe_str))
   (pss_cons (ps_set (i := 5) scBent.nd rfl (Or.inl rfl) (pe_callF FT hr (by decide) (pa_cons (pv 0) (pa_cons (pe_callB call_len_seq rfl B.len_ bt_len (pa_cons (pv 7) pa_nil)) pa_nil))))
   (pss_cons (ps_set (i := 8) scBent.nd rfl (Or.inl rfl) (pe_ix ix_list (pe_lst (pa_cons (pe_lst pa_nil) (pa_cons (pe_op op_rep (pe_lst (pa_cons (pe_ix ix_list (pv 7) (pv 5) (fun _ _ => rfl)) pa_nil)) pe_int) (pa_cons (pe_lst (pa_cons (pe_ix ix_list (pv 7) (pe_callF FT hr (by decide) (pa_cons (pv 0) (pa_cons (pe_callB call_len_seq rfl B.len_ bt_len (pa_cons (pv 7) pa_nil)) pa_nil))) (fun _ _ => rfl)) pa_nil)) pa_nil)))) (pe_op op_sub (pv 6) pe_int) (fun _ _ => rfl)))
   (pss_one (ps_ret (pe_join pe_str (pe_op op_cat (pe_op op_cat (pe_slice sl_list (pv 7) po_none (po_some (pv 5))) (pv 8)) (pe_slice sl_list (pv 7) (po_some (pe_op op_add (pv 5) pe_int)) po_none)))))))))))))))), ?_⟩
  have B0 : But b H H := But.refl b H
  refine ⟨_, rfl, _, rfl, _, rfl, SG, rfl, by rw [SG_len, sizeLine_eq]; omega, b, x, y, _, rfl, hb, by rw [SG_len]; decide, by rw [SG_len]; decide, fun r1 H1 x1 y1 r10 r11 hb1 o1 => ?_⟩
  obtain ⟨c1, a1, m1⟩ := at_ex SG.cps.toList r10 (by have : SG.cps.toList.length = SG.length := Array.length_toList
                                                     omega)
  have B1 : But b H H1 := fun c u hc hu => (o1 c hc).trans hu
  refine ⟨SG, r1, c1, rfl, rfl, by rw [SG_len, sizeLine_eq]; omega, a1, ?_⟩
  refine ⟨_, rfl, _, rfl, _, rfl, lm, _, rfl, .inl (SqL.of (B1 _ _ nlm hlm)), b, x1, y1, _, rfl, hb1, by rw [List.length_map]; omega, by rw [List.length_map]; omega, fun r2 H2 x2 y2 r20 r21 hb2 o2 => ?_⟩
  have B2 : But b H H2 := fun c u hc hu => (o2 c hc).trans (B1 c u hc hu)
  rw [List.length_map] at r21
  obtain ⟨m2, a2, mm2⟩ := at_ex ms r20 r21
  have a2' : atI (ms.map V.str) r2 = some (.str m2) := by
    obtain ⟨j, rfl⟩ := Int.eq_ofNat_of_zero_le r20
    have hj : j < ms.length := by omega
    have e0 : atI ms (j : Int) = some ms[j] := atI_nat (List.getElem?_eq_getElem hj)
    have : ms[j]? = some m2 := by rw [List.getElem?_eq_getElem hj]; exact e0.symm.trans a2
    exact atI_nat (by rw [List.getElem?_map, this]; rfl)
  refine ⟨lm, _, _, _, rfl, rfl, SqL.of (B2 _ _ nlm hlm), a2', (by show 2 ≤ sizeLine; decide), fun l hl => ?_⟩
  have nlb : l ≠ b := fun z => by rw [z, hb2] at hl; cases hl
  have hb2l := up hl hb2 (o := .lst [V.str ⟨#[c1]⟩, V.str m2])
  have B2l : But b H (upd H2 l (.lst [V.str ⟨#[c1]⟩, V.str m2])) := B2.new hl
  have gl := upd_same (H := H2) (a := l) (o := .lst [V.str ⟨#[c1]⟩, V.str m2])
  generalize upd H2 l (.lst [V.str ⟨#[c1]⟩, V.str m2]) = H2l at hb2l B2l gl ⊢
  refine ⟨_, rfl, b, x2, y2, 2, rfl, hb2l, by decide, by decide, fun r3 H3 x3 y3 r30 r31 hb3 o3 => ?_⟩
  have B3 : But b H H3 := fun c u hc hu => (o3 c hc).trans (B2l c u hc hu)
  obtain ⟨sg, asg, hsg⟩ : ∃ sg : Str, atI [V.str ⟨#[c1]⟩, V.str m2] r3 = some (.str sg) ∧ (sg.length ≤ 10 ∧ cpOk sg) := by
    have : r3 = 0 ∨ r3 = 1 := by omega
    rcases this with rfl | rfl
    · exact ⟨_, at0 _ _, sign_ok (SG_ok c1 m1)⟩
    · exact ⟨m2, at1 _ _ _, hms m2 mm2⟩
  refine ⟨l, _, _, _, rfl, rfl, SqL.of ((o3 l nlb).trans gl), asg, ?_⟩
  refine ⟨_, rfl, _, rfl, z, rfl, by rw [sizeLine_eq]; omega, _, _, rfl, rfl, b, x3, y3, _, rfl, hb3, by omega, by omega, fun at_ H4 x4 y4 r40 r41 hb4 o4 => ?_⟩
  have B4 : But b H H4 := fun c u hc hu => (o4 c hc).trans (B3 c u hc hu)
  refine ⟨_, rfl, b, x4, y4, 8, rfl, hb4, by decide, by decide, fun way H5 x5 y5 r50 r51 hb5 o5 => ?_⟩
  have B5 : But b H H5 := fun c u hc hu => (o5 c hc).trans (B4 c u hc hu)
  have cl : ∀ lo hi, (cutS z lo hi).length ≤ z.length := fun lo hi => cutS_length z lo hi
  have cc : ∀ lo hi, cpOk (cutS z lo hi) := fun lo hi => cp_cut hc lo hi
  have hzz : z.length ≤ sizeLine := by rw [sizeLine_eq]; omega
  refine ⟨_, rfl, _, _, rfl, rfl, _, rfl, ite2 (fun cw => ?_) (fun cw => ?_)⟩
  · have l1 := cl none (some at_)
    have l2 := cl (some (at_ + way)) none
    refine ⟨_, rfl, _, rfl, _, rfl, z, rfl, hzz, _, rfl, _, _, rfl, rfl, by rw [sizeLine_eq]; omega, _, rfl, _, rfl, _, rfl, _, _, rfl, rfl, _, rfl, z, rfl, hzz, _, _, rfl, rfl, by rw [strLen_append, sizeLine_eq]; omega, ?_⟩
    exact q H5 _ x5 y5 B5 hb5 (by rw [strLen_append, strLen_append]; omega) (cp_app (cp_app (cc _ _) hsg.2) (cc _ _))
  refine ⟨_, rfl, rfl, _, rfl, ite2 (fun cw => ?_) (fun cw => ?_)⟩
  · have l1 := cl none (some at_)
    have l2 := cl (some (at_ + 1)) none
    refine ⟨_, rfl, _, rfl, _, rfl, z, rfl, hzz, _, rfl, _, rfl, _, _, rfl, rfl, _, rfl, z, rfl, hzz, _, _, rfl, rfl, by rw [sizeLine_eq]; omega, ?_⟩
    exact q H5 _ x5 y5 B5 hb5 (by rw [strLen_append]; omega) (cp_app (cc _ _) (cc _ _))
  refine ⟨_, rfl, rfl, _, rfl, ite2 (fun cw => ?_) (fun cw => ?_)⟩
  · have l1 := cl none (some (at_ + 1))
    have l2 := cl (some at_) none
    refine ⟨_, rfl, _, rfl, _, _, rfl, rfl, _, rfl, z, rfl, hzz, _, rfl, _, rfl, _, rfl, z, rfl, hzz, _, _, rfl, rfl, by rw [sizeLine_eq]; omega, ?_⟩
    exact q H5 _ x5 y5 B5 hb5 (by rw [strLen_append]; omega) (cp_app (cc _ _) (cc _ _))
  refine ⟨_, rfl, rfl, _, rfl, ite2 (fun cw => ?_) (fun cw => ?_)⟩
  · have l1 := cl none (some at_)
    have l2 := cl (some (at_ + 2)) none
    have l3 : (cutS z (some at_) (some (at_ + 2))).length ≤ 2 := cut_two z r40
    refine ⟨_, rfl, _, rfl, _, rfl, z, rfl, hzz, _, rfl, _, rfl, _, rfl, _, rfl, _, _, rfl, rfl, _, rfl, z, rfl, hzz, _, rfl, l3, fun z2 hz2 hm2 => ?_⟩
    have cz2 : cpOk z2 := fun c hc2 => cc _ _ c (hm2 c hc2)
    refine ⟨_, _, rfl, rfl, by rw [sizeLine_eq]; omega, _, rfl, _, rfl, _, _, rfl, rfl, _, rfl, z, rfl, hzz, _, _, rfl, rfl, by rw [strLen_append, sizeLine_eq]; omega, ?_⟩
    exact q H5 _ x5 y5 B5 hb5 (by rw [strLen_append, strLen_append]; omega) (cp_app (cp_app (cc _ _) cz2) (cc _ _))
  have hway : way = 5 ∨ way = 6 ∨ way = 7 := by
    rename_i c0 c1 c2
    have q0 : ¬ way < 2 := by simpa using c0
    have q1 : ¬ way = 2 := by simpa using c1
    have q2 : ¬ way = 3 := by simpa using c2
    have q3 : ¬ way = 4 := by simpa using cw
    omega
  obtain ⟨w0, ws, es, hl0, hp⟩ := splitw_ok hc
  have hsum := split_sum (z := z)
  rw [es] at hsum
  refine ⟨_, rfl, ⟨_, rfl⟩, z, blk, rfl, rfl, by decide +kernel, by rw [sizeLine_eq]; omega, fun lw hlw => ?_⟩
  rw [es]
  generalize hW : w0 :: ws = W at hl0 hp hsum ⊢
  have hWp : 1 ≤ W.length := by rw [← hW]; simp
  have nwb : lw ≠ b := fun e => by rw [e, hb5] at hlw; cases hlw
  have hb6 := up hlw hb5 (o := .lst (W.map V.str))
  have B6 : But b H (upd H5 lw (.lst (W.map V.str))) := B5.new hlw
  have g6 := upd_same (H := H5) (a := lw) (o := .lst (W.map V.str))
  generalize upd H5 lw (.lst (W.map V.str)) = H6 at hb6 B6 g6 ⊢
  refine ⟨_, rfl, _, rfl, lw, _, rfl, .inl (SqL.of g6), b, x5, y5, _, rfl, hb6, by rw [List.length_map]; omega, by rw [List.length_map]; omega, fun ak H7 x7 y7 r70 r71 hb7 o7 => ?_⟩
  rw [List.length_map] at r71
  have B7 : But b H H7 := fun c u hc hu => (o7 c hc).trans (B6 c u hc hu)
  have g7 : H7 lw = some (.lst (W.map V.str)) := (o7 lw nwb).trans g6
  obtain ⟨k, rfl⟩ := Int.eq_ofNat_of_zero_le r70
  have hk : k < W.length := by omega
  have hWk : ∀ j : Nat, j < W.length → ∃ p, atI (W.map V.str) (j : Int) = some (.str p) ∧ p ∈ W := fun j hj => ⟨W[j], atI_nat (by rw [List.getElem?_map, List.getElem?_eq_getElem hj]; rfl), List.getElem_mem hj⟩
  obtain ⟨wk, awk, mwk⟩ := hWk k hk
  refine ⟨(by show 0 ≤ sizeLine; decide), fun e0 he0 => ?_⟩
  have h8 := up he0 g7 (o := .lst [])
  have hb8 := up he0 hb7 (o := .lst [])
  have B8 : But b H (upd H7 e0 (.lst [])) := B7.new he0
  have ge8 := upd_same (H := H7) (a := e0) (o := .lst [])
  generalize upd H7 e0 (.lst []) = H8 at h8 hb8 B8 ge8 ⊢
  refine ⟨_, rfl, _, rfl, lw, _, _, _, rfl, rfl, SqL.of h8, awk, (by show 1 ≤ sizeLine; decide), fun l0 hl0' => ?_⟩
  have ge9 := up hl0' ge8 (o := .lst [V.str wk])
  have h9 := up hl0' h8 (o := .lst [V.str wk])
  have hb9 := up hl0' hb8 (o := .lst [V.str wk])
  have B9 : But b H (upd H8 l0 (.lst [V.str wk])) := B8.new hl0'
  have gl9 := upd_same (H := H8) (a := l0) (o := .lst [V.str wk])
  generalize upd H8 l0 (.lst [V.str wk]) = H9 at ge9 h9 hb9 B9 gl9 ⊢
  refine ⟨l0, _, _, rfl, rfl, gl9, by decide, by decide, (by show 1 * 2 ≤ _; rw [sizeLine_eq]; omega), fun la hla => ?_⟩
  have erep : (List.replicate (2 : Int).toNat [V.str wk]).flatten = [V.str wk, V.str wk] := rfl
  rw [erep]
  have ge10 := up hla ge9 (o := .lst [V.str wk, V.str wk])
  have h10 := up hla h9 (o := .lst [V.str wk, V.str wk])
  have hb10 := up hla hb9 (o := .lst [V.str wk, V.str wk])
  have B10 : But b H (upd H9 la (.lst [V.str wk, V.str wk])) := B9.new hla
  have gla10 := upd_same (H := H9) (a := la) (o := .lst [V.str wk, V.str wk])
  generalize upd H9 la (.lst [V.str wk, V.str wk]) = H10 at ge10 h10 hb10 B10 gla10 ⊢
  refine ⟨_, rfl, _, rfl, _, rfl, lw, _, rfl, .inl (SqL.of h10), b, x7, y7, _, rfl, hb10, by rw [List.length_map]; omega, by rw [List.length_map]; omega, fun r6 H11 x11 y11 r60 r61 hb11 o11 => ?_⟩
  rw [List.length_map] at r61
  have B11 : But b H H11 := fun c u hc hu => (o11 c hc).trans (B10 c u hc hu)
  have nb10 : ∀ c xs, H10 c = some (.lst (xs : List V)) → c ≠ b → H11 c = some (.lst xs) := fun c xs h hc => (o11 c hc).trans h
  have ne0b : e0 ≠ b := fun e => by rw [e, hb7] at he0; cases he0
  have nlab : la ≠ b := fun e => by rw [e, hb9] at hla; cases hla
  have h11 := nb10 _ _ h10 nwb
  have ge11 := nb10 _ _ ge10 ne0b
  have gla11 := nb10 _ _ gla10 nlab
  obtain ⟨j6, rfl⟩ := Int.eq_ofNat_of_zero_le r60
  obtain ⟨w6, aw6, mw6⟩ := hWk j6 (by omega)
  refine ⟨lw, _, _, _, rfl, rfl, SqL.of h11, aw6, (by show 1 ≤ sizeLine; decide), fun l2 hl2 => ?_⟩
  have h12 := up hl2 h11 (o := .lst [V.str w6])
  have hb12 := up hl2 hb11 (o := .lst [V.str w6])
  have ge12 := up hl2 ge11 (o := .lst [V.str w6])
  have gla12 := up hl2 gla11 (o := .lst [V.str w6])
  have B12 : But b H (upd H11 l2 (.lst [V.str w6])) := B11.new hl2
  have gl12 := upd_same (H := H11) (a := l2) (o := .lst [V.str w6])
  generalize upd H11 l2 (.lst [V.str w6]) = H12 at h12 hb12 ge12 gla12 B12 gl12 ⊢
  refine ⟨(by show 3 ≤ sizeLine; decide), fun lo hlo => ?_⟩
  have h13 := up hlo h12 (o := .lst [V.ref e0, V.ref la, V.ref l2])
  have hb13 := up hlo hb12 (o := .lst [V.ref e0, V.ref la, V.ref l2])
  have B13 : But b H (upd H12 lo (.lst [V.ref e0, V.ref la, V.ref l2])) := B12.new hlo
  have glo := upd_same (H := H12) (a := lo) (o := .lst [V.ref e0, V.ref la, V.ref l2])
  obtain ⟨sa, sm, asa, gsa, hsm, lsm, csm⟩ : ∃ (sa : Addr) (sm : List Str), atI [V.ref e0, V.ref la, V.ref l2] (way - 5) = some (.ref sa) ∧ upd H12 lo (.lst [V.ref e0, V.ref la, V.ref l2]) sa = some (.lst (sm.map V.str)) ∧ sm.length ≤ 2 ∧ (sm.map (·.length)).sum ≤ 2 * z.length ∧ ∀ p ∈ sm, cpOk p := by
    have p1 := hp wk mwk
    have p2 := hp w6 mw6
    rcases hway with rfl | rfl | rfl
    · exact ⟨e0, [], at0 _ _, up hlo ge12, by simp, by simp, nofun⟩
    · exact ⟨la, [wk, wk], at1 _ _ _, up hlo gla12, by simp, by simp; omega, fun p hp => by
        have : p = wk := by simpa using hp
        rw [this]; exact p1.2⟩
    · exact ⟨l2, [w6], atI_nat (j := 2) rfl, up hlo gl12, by simp, by simp; omega, fun p hp => by
        have : p = w6 := by simpa using hp
        rw [this]; exact p2.2⟩
  generalize upd H12 lo (.lst [V.ref e0, V.ref la, V.ref l2]) = H13 at h13 hb13 B13 glo gsa ⊢
  refine ⟨_, rfl, _, _, rfl, rfl, lo, _, _, _, rfl, rfl, SqL.of glo, asa, ?_⟩
  have ct : cutV (W.map V.str) none (some (k : Int)) = (W.take k).map V.str := by
    unfold cutV
    rw [HT.sIx_none, HT.sIx_nat, List.length_map, Nat.min_eq_left (by omega), List.drop_zero, Nat.sub_zero, List.map_take]
  have cd : cutV (W.map V.str) (some ((k : Int) + 1)) none = (W.drop (k + 1)).map V.str := by
    have e1 : ((k : Int) + 1) = ((k + 1 : Nat) : Int) := by omega
    unfold cutV
    rw [e1, HT.sIx_none, HT.sIx_nat, List.length_map, Nat.min_eq_left (by omega), ← List.map_drop, ← List.map_take, List.take_of_length_le (by rw [List.length_drop]; omega)]
  refine ⟨⟨_, rfl⟩, _, rfl, _, rfl, _, rfl, lw, _, rfl, SqL.of h13, fun p1 hp1 => ?_⟩
  rw [ct]
  have h14 := up hp1 h13 (o := .lst ((W.take k).map V.str))
  have gsa14 := up hp1 gsa (o := .lst ((W.take k).map V.str))
  have hb14 := up hp1 hb13 (o := .lst ((W.take k).map V.str))
  have B14 : But b H (upd H13 p1 (.lst ((W.take k).map V.str))) := B13.new hp1
  have g14 := upd_same (H := H13) (a := p1) (o := .lst ((W.take k).map V.str))
  generalize upd H13 p1 (.lst ((W.take k).map V.str)) = H14 at h14 gsa14 hb14 B14 g14 ⊢
  have lt : (W.take k).length + (W.drop (k + 1)).length ≤ W.length := by rw [List.length_take, List.length_drop]; omega
  have st : ((W.take k).map (·.length)).sum + ((W.drop (k + 1)).map (·.length)).sum ≤ (W.map (·.length)).sum := by
    have e : W = W.take k ++ W.drop k := (List.take_append_drop k W).symm
    have h1 : ((W.drop (k + 1)).map (·.length)).sum ≤ ((W.drop k).map (·.length)).sum := sub_sum (by rw [← List.drop_drop]; exact List.drop_sublist _ _)
    have h2 : (W.map (·.length)).sum = ((W.take k).map (·.length)).sum + ((W.drop k).map (·.length)).sum := by
      rw [← List.sum_append, ← List.map_append, List.take_append_drop]
    omega
  refine ⟨_, rfl, p1, sa, _, _, rfl, rfl, g14, gsa14, by rw [List.length_map, List.length_map, sizeLine_eq]; omega, fun p2 hp2 => ?_⟩
  rw [← List.map_append]
  have h15 := up hp2 h14 (o := .lst ((W.take k ++ sm).map V.str))
  have hb15 := up hp2 hb14 (o := .lst ((W.take k ++ sm).map V.str))
  have B15 : But b H (upd H14 p2 (.lst ((W.take k ++ sm).map V.str))) := B14.new hp2
  have g15 := upd_same (H := H14) (a := p2) (o := .lst ((W.take k ++ sm).map V.str))
  generalize upd H14 p2 (.lst ((W.take k ++ sm).map V.str)) = H15 at h15 hb15 B15 g15 ⊢
  refine ⟨_, rfl, _, rfl, _, _, rfl, rfl, _, rfl, lw, _, rfl, SqL.of h15, fun p3 hp3 => ?_⟩
  rw [cd]
  have hb16 := up hp3 hb15 (o := .lst ((W.drop (k + 1)).map V.str))
  have g16 := up hp3 g15 (o := .lst ((W.drop (k + 1)).map V.str))
  have B16 : But b H (upd H15 p3 (.lst ((W.drop (k + 1)).map V.str))) := B15.new hp3
  have gp3 := upd_same (H := H15) (a := p3) (o := .lst ((W.drop (k + 1)).map V.str))
  generalize upd H15 p3 (.lst ((W.drop (k + 1)).map V.str)) = H16 at hb16 g16 B16 gp3 ⊢
  refine ⟨p2, p3, _, _, rfl, rfl, g16, gp3, by rw [List.length_map, List.length_map, List.length_append, sizeLine_eq]; omega, fun p4 hp4 => ?_⟩
  rw [← List.map_append]
  have hcp : ∀ p ∈ W.take k ++ sm ++ W.drop (k + 1), cpOk p := fun p hpm => by
    rcases List.mem_append.mp hpm with hpm | hpm
    · rcases List.mem_append.mp hpm with hpm | hpm
      · exact (hp p (List.mem_of_mem_take hpm)).2
      · exact csm p hpm
    · exact (hp p (List.mem_of_mem_drop hpm)).2
  obtain ⟨j1, j2⟩ := cp_join _ hcp
  have hsumA : ((W.take k ++ sm ++ W.drop (k + 1)).map (·.length)).sum ≤ 3 * z.length := by
    rw [List.map_append, List.map_append, List.sum_append, List.sum_append]; omega
  have hlenA : (W.take k ++ sm ++ W.drop (k + 1)).length ≤ z.length + 3 := by
    rw [List.length_append, List.length_append]; omega
  refine ⟨blk, p4, _, rfl, rfl, .inl (SqL.of upd_same), ?_, ?_⟩
  · have : blk.length = 1 := by decide +kernel
    rw [this]; omega
  · rw [TL.join_eq]
    exact q _ _ x11 y11 (B16.new hp4) (up hp4 hb16) (by omega) j1
end
end Hs
set_option Elab.async false
set_option linter.all false
set_option maxRecDepth 100000
set_option maxHeartbeats 1000000
namespace Hs
open PySem L2
section
variable {P : Program} {w : World} {K : PySem.W.Frag} {mg : Str → Option Value} {base : Heap} {f : Addr} {fd : FuncData}
theorem scLaw : FnScope ["script", "k", "thing", "bag", "word", "numbers", "j", "text", "turn", "number"] ["script"] (defScope sLaw) := ⟨rfl, rfl, rfl, by decide +kernel, rfl, by decide +kernel, by decide +kernel⟩
abbrev fTg : Stmt → Expr
  | .For t _ _ _ _ => t
  | _ => .Constant .none 0 ⟨0, 0, 0, 0⟩
abbrev fIt : Stmt → Expr
  | .For _ i _ _ _ => i
  | _ => .Constant .none 0 ⟨0, 0, 0, 0⟩
abbrev fBd : Stmt → List Stmt
  | .For _ _ b _ _ => b
  | _ => []
abbrev fPs : Stmt → Pos
  | .For _ _ _ _ p => p
  | _ => ⟨0, 0, 0, 0⟩
abbrev cAr : Expr → List Expr
  | .Call _ as _ _ => as
  | _ => []
abbrev S0 : Stmt := (defBody sLaw).getD 0 (.Pass ⟨0, 0, 0, 0⟩)
abbrev S1 : Stmt := (fBd S0).getD 1 (.Pass ⟨0, 0, 0, 0⟩)
abbrev S4 : Stmt := (fBd S1).getD 4 (.Pass ⟨0, 0, 0, 0⟩)
abbrev SH : Stmt := (defBody sLaw).getD 1 (.Pass ⟨0, 0, 0, 0⟩)
@[irreducible] def stZ (i : Nat) : Stmt := (defBody sLaw).getD i (.Pass ⟨0, 0, 0, 0⟩)
@[irreducible] def stI (i : Nat) : Stmt := (fBd S0).getD i (.Pass ⟨0, 0, 0, 0⟩)
@[irreducible] def stV (i : Nat) : Stmt := (fBd S1).getD i (.Pass ⟨0, 0, 0, 0⟩)
@[irreducible] def BES : List Expr := listIn ((cAr (asgVal ((fBd S4).getD 0 (.Pass ⟨0, 0, 0, 0⟩)))).getD 2 (.Constant .none 0 ⟨0, 0, 0, 0⟩))
@[irreducible] def HES : List Expr := listIn (fIt SH)
@[irreducible] def HBD : List Stmt := fBd SH
theorem stz_un {X : Cx} {t : TS} (i : Nat) (h : PS X ((defBody sLaw).getD i (.Pass ⟨0, 0, 0, 0⟩)) t) : PS X (stZ i) t := by unfold stZ; exact h
theorem sti_un {X : Cx} {t : TS} (i : Nat) (h : PS X ((fBd S0).getD i (.Pass ⟨0, 0, 0, 0⟩)) t) : PS X (stI i) t := by unfold stI; exact h
theorem stv_un {X : Cx} {t : TS} (i : Nat) (h : PS X ((fBd S1).getD i (.Pass ⟨0, 0, 0, 0⟩)) t) : PS X (stV i) t := by unfold stV; exact h
theorem thb_un {X : Cx} {t : TS} (h : PSs X (fBd SH) t) : PSs X HBD t := by unfold HBD; exact h
theorem ps_ofeq {X : Cx} {st st' : Stmt} {t : TS} (e : st = st') (h : PS X st' t) : PS X st t := by rw [e]; exact h
theorem body_law : defBody sLaw = [stZ 0, stZ 1, stZ 2] := by kernel_rfl
theorem kZ0 : (defBody sLaw).getD 0 (.Pass ⟨0, 0, 0, 0⟩) = .For (fTg S0) (fIt S0) [stI 0, stI 1] [] (fPs S0) := by kernel_rfl
theorem kW1 : (fBd S0).getD 1 (.Pass ⟨0, 0, 0, 0⟩) = .For (fTg S1) (fIt S1) [stV 0, stV 1, stV 2, stV 3, stV 4, stV 5] [] (fPs S1) := by kernel_rfl
theorem kT4 : (fBd S1).getD 4 (.Pass ⟨0, 0, 0, 0⟩) = .For (fTg S4) (fIt S4) [.Assign [.Name "text" ⟨145, 16, 145, 20⟩] (.Call (.Name "_law_bent" ⟨145, 23, 145, 32⟩) [.Name "bag" ⟨145, 33, 145, 36⟩, .Name "text" ⟨145, 38, 145, 42⟩, .List BES ⟨145, 44, 145, 88⟩] [] ⟨145, 23, 145, 89⟩) ⟨145, 16, 145, 89⟩] [] (fPs S4) := by kernel_rfl
theorem kH1 : (defBody sLaw).getD 1 (.Pass ⟨0, 0, 0, 0⟩) = .For (.Name "thing" ⟨148, 8, 148, 13⟩) (.List HES ⟨148, 17, 148, 114⟩) HBD [] ⟨148, 4, 150, 24⟩ := by kernel_rfl
def BE : List Str := ([" ", "0", "1", "-", "cut", "split", "mark"] : List Str)
theorem BES_ok : strsD BES = some BE := by unfold BES; kernel_rfl
def thD : List PyData := [.none, .int 7, .bool true, .list [], .tuple [.str "cut 1 2"], .list [.str "cut"], .str "", .str "cut", .str "mark 1 a", .str "undo", .str "split 1 ", .str " split 1"]
theorem HES_ok : litDs HES = some thD := by unfold HES; kernel_rfl
theorem ps_things {X : Cx} {tb : TS} (hN : X.N.Nodup) (hi : X.N[2]? = some (Str.ofString "thing")) (hx : Loc X.env.scope (Str.ofString "thing")) (hf : X.calm = true) (hb : PSs X HBD tb) (hpo : PassesOwn (model X.prog X.w) X.A X.env X.xe) (hfn : X.fn (Str.ofString "thing") = true) : PS X (stZ 1) (tFor (iList X.K (tLst (tLitA X.K thD))) (gName 2) tb) := by
  unfold stZ
  rw [kH1]
  exact @ps_for X (.Name (Str.ofString "thing") ⟨148, 8, 148, 13⟩) (.List HES ⟨148, 17, 148, 114⟩) HBD _ _ tb ⟨148, 4, 150, 24⟩ hpo hf (pi_list (pe_lst (pa_lit HES thD HES_ok))) (pg_name (i := 2) hN hi hx (.inl hfn)) hb (by intro _; rfl)
def spLaw (K : PySem.W.Frag) : Sp := fun vs H Q _ => ∃ (a : Addr) (ns : List Int), vs = [.ref a] ∧ SqL K H a (ns.map V.int) ∧ ns.length ≤ 63 ∧ ∀ H', Q (.bl true) H'
theorem in_w2 (z : Str) : (if false = true then !inV (.str z) (W2s.map V.str) else inV (.str z) (W2s.map V.str)) = W2s.contains z := by rw [if_neg (by decide), in_strs]
theorem lws_ok : ∀ x ∈ LWs, x.length ≤ 6 ∧ cpOk x ∧ 32 ∉ x.cps.toList ∧ PyData.strOk x = true := by unfold cpOk; decide +kernel
theorem told_deed {wd : Str} {ns : List Int} (hw : wd ∈ LWs) (h1 : 1 ≤ ns.length) (hn : ∀ n ∈ ns, Nine n) (hl : (ns.length : Int) = manyW wd) : deedOf (Txt.join blk (wd :: ns.map tS)) = some (wd, ns) := by
  have es : Txt.split (Txt.join blk (wd :: ns.map tS)) blk = wd :: ns.map tS := by
    refine TL.split_join (s := 32) (S := []) (by decide +kernel) (by decide +kernel) (by simp) fun p hp => ?_
    rcases List.mem_cons.mp hp with rfl | hp
    · exact (lws_ok p hw).2.2.1
    · obtain ⟨n, hn1, rfl⟩ := List.mem_map.mp hp
      exact (tS_ok (hn n hn1)).2
  have e1 : (ns.map tS).map numT = ns.map some := by
    rw [List.map_map]
    exact List.map_congr_left fun n h => tS_num (hn n h)
  have e2 : (ns.map tS).map (fun p => (numT p).getD 0) = ns := by
    rw [List.map_map]
    have : ns.map ((fun p => (numT p).getD 0) ∘ tS) = ns.map id := List.map_congr_left fun n h => by
      show (numT (tS n)).getD 0 = n
      rw [tS_num (hn n h)]; rfl
    rw [this, List.map_id]
  have ok : okDeed wd ((ns.map tS).map numT) = true := by
    rw [okDeed_law, e1, List.contains_iff_mem.mpr hw, List.length_map, decide_eq_true hl, Bool.true_and, Bool.true_and, List.all_map]
    exact List.all_eq_true.mpr fun _ _ => rfl
  unfold deedOf
  rw [wds_eq es]
  show (if okDeed wd ((ns.map tS).map numT) = true then some (wd, (ns.map tS).map fun p => (numT p).getD 0) else none) = _
  rw [if_pos ok, e2]
theorem deed_in_words {z : Str} {d : Str × List Int} (h : deedOf z = some d) : d.1 ∈ LWs ∧ d.2.length ≤ 2 := by
  unfold deedOf at h
  split at h
  · rename_i c
    cases h
    rw [okDeed_law, Bool.and_eq_true, Bool.and_eq_true, decide_eq_true_iff] at c
    refine ⟨List.contains_iff_mem.mp c.1.1, ?_⟩
    have := c.1.2
    rw [List.length_map] at this ⊢
    unfold manyW at this
    split at this <;> omega
  · cases h
theorem gd_d {wd : Str} {ns : List Int} (hw : wd ∈ LWs) (hl : ns.length ≤ 2) : Gd 1 (.tuple (.str wd :: ns.map PyData.int)) := Gd.tup (k := 0) (fun d hd => by
  rcases List.mem_cons.mp hd with rfl | hd
  · exact gd_s 0 (lws_ok wd hw).2.2.2
  · obtain ⟨n, _, rfl⟩ := List.mem_map.mp hd
    exact gd_i 0 n) (by rw [List.length_cons, List.length_map]; omega)
theorem dp_d {H : Hp} {r : Addr} {d : Str × List Int} (h : DeedAt H r d) : Dp K H (.ref r) (.tuple (.str d.1 :: d.2.map PyData.int)) := .tup (SqT.of h) (.cons (.str _) (dp_ints _))
theorem at4 {r1 r2 c r : Int} (h1 : Nine r1) (h2 : Nine r2) (hc : Nine c) (p : 0 ≤ r) (q : r < 4) : ∃ n, atI [V.int r1, V.int r2, V.int 0, V.int c] r = some (.int n) ∧ Nine n := by
  obtain ⟨m, rfl⟩ := Int.eq_ofNat_of_zero_le p
  match m, q with
  | 0, _ => exact ⟨r1, atI_nat (j := 0) rfl, h1⟩
  | 1, _ => exact ⟨r2, atI_nat (j := 1) rfl, h2⟩
  | 2, _ => exact ⟨0, atI_nat (j := 2) rfl, by unfold Nine; decide⟩
  | 3, _ => exact ⟨c, atI_nat (j := 3) rfl, hc⟩
  | m + 4, q => omega
theorem cpw9 : CPow 10 9 := by unfold CPow; decide
def bnd (t : Nat) : Nat := if t = 0 then 27 else if t = 1 then 123 else if t = 2 then 507 else 2043
theorem bnd_step {t L L' : Nat} (h : t < 3) (hL : L ≤ bnd t) (h2 : L' ≤ 4 * L + 15) : L' ≤ bnd (t + 1) := by
  have : t = 0 ∨ t = 1 ∨ t = 2 := by omega
  rcases this with rfl | rfl | rfl
  · have : bnd 0 = 27 := rfl
    have : bnd (0 + 1) = 123 := rfl
    omega
  · have : bnd 1 = 123 := rfl
    have : bnd (1 + 1) = 507 := rfl
    omega
  · have : bnd 2 = 507 := rfl
    have : bnd (2 + 1) = 2043 := rfl
    omega
theorem bnd_le (t : Nat) : bnd t ≤ 2043 := by
  unfold bnd
  split
  · decide
  split
  · decide
  split <;> decide
theorem nt_sh : SeqAt.shaped (.str "NoText+") = true := (gd_s 0 (by decide +kernel)).shaped (by decide)
def thOk (d : PyData) : Bool := match d with
  | .str z => decide (z.length ≤ 4000) && z.cps.toList.all (fun c => decide (c < 1114112)) && (deedOf z).isNone
  | _ => true
theorem th_all : thD.all thOk = true := by decide +kernel
theorem th_ok {H : Hp} {v : V} {d : PyData} (hd : d ∈ thD) (h : Dp K H v d) : AnyOk K H v ∧ textD v = none := by
  have e := List.all_eq_true.mp th_all d hd
  have hk := h.kind
  cases h with
  | str z =>
    unfold thOk at e
    rw [Bool.and_eq_true, Bool.and_eq_true, decide_eq_true_iff, List.all_eq_true] at e
    exact ⟨⟨_, hk, fun _ => ⟨z, rfl, e.1.1, fun c hc => of_decide_eq_true (e.1.2 c hc)⟩⟩, by
      show deedOf z = none
      exact Option.isNone_iff_eq_none.mp e.2⟩
  | non => exact ⟨⟨_, hk, fun ek => by cases ek⟩, rfl⟩
  | bl b => exact ⟨⟨_, hk, fun ek => by cases ek⟩, rfl⟩
  | int n => exact ⟨⟨_, hk, fun ek => by cases ek⟩, rfl⟩
  | lst h1 h2 => exact ⟨⟨_, hk, fun ek => by cases ek⟩, rfl⟩
  | tup h1 h2 => exact ⟨⟨_, hk, fun ek => by cases ek⟩, rfl⟩
theorem BE_facts : 1 ≤ BE.length ∧ BE.length ≤ 100 ∧ ∀ m ∈ BE, m.length ≤ 10 ∧ cpOk m := by unfold cpOk; decide +kernel
theorem ok_law (B : Bi mg) (hStr : mg "str" = none) (FT : Fn P w K mg base "_law_take" ["bag", "many"] 1 spTake) (FG : Fn P w K mg base "_law_bag" ["script", "k"] 1 (spBag K)) (FWd : Fn P w K mg base "_law_words" [] 1 spWords) (FDt : Fn P w K mg base "deed_text" ["deed"] 2 (spDeedText K))
    (FTd : Fn P w K mg base "_law_told_text" ["text"] 5 (spTold K)) (FLr : Fn P w K mg base "_law_read_deed" ["text"] 3 spLRead) (FBt : Fn P w K mg base "_law_bent" ["bag", "text", "more"] 2 (spBent K)) (F : Fun K "law" "law" sLaw f fd) : FnOk P w K mg base CX0 6 f fd ["script"] (spLaw K) := by
  refine F.ok scLaw (fun vs H Q E h => ?_) (fun cdv A outer s H vs Q E hr h => ?_)
  · obtain ⟨a, ns, rfl, _⟩ := h; rfl
  obtain ⟨a, ns, rfl, hS, h63, q⟩ := h
  rw [body_law]
  refine ⟨_, (pss_cons (stz_un 0 (ps_ofeq kZ0 (ps_for PassesOwn.never rfl (pi_range1 rfl B.range_ (pa_cons (pe_op op_add pe_int (pe_callB (call_min2 rfl) rfl B.min_ bt_min (pa_cons (pe_callB call_len_seq rfl B.len_ bt_len (pa_cons (pv 0) pa_nil)) (pa_cons pe_int pa_nil)))) pa_nil)) (pg_name (i := 1) scLaw.nd rfl (Or.inl rfl))
   (pss_cons (sti_un 0 (ps_set (i := 3) scLaw.nd rfl (Or.inl rfl) (pe_callF FG hr (by decide) (pa_cons (pv 0) (pa_cons (pv 1) pa_nil))))) (pss_one (sti_un 1 (ps_ofeq kW1 (ps_for PassesOwn.never rfl (pi_list (pe_callF0 FWd hr (by decide))) (pg_name (i := 4) scLaw.nd rfl (Or.inl rfl))
   (pss_cons (stv_un 0 (ps_set (i := 5) scLaw.nd rfl (Or.inl rfl) (pe_lst pa_nil)))
   (pss_cons (stv_un 1 (ps_for PassesOwn.never rfl (pi_range1 rfl B.range_ (pa_cons (pe_op op_add pe_int (pe_callTy call_int1 rfl B.int_ bt_int (pa_cons (pe_cmpR op_in_seq (pv 4) (pe_lst (pa_cons pe_str (pa_cons pe_str (pa_cons pe_str pa_nil)))) rfl) pa_nil))) pa_nil)) (pg_name (i := 6) scLaw.nd rfl (Or.inl rfl))
   (pss_one (ps_expr (pe_bm PySem.F.plainAttrs_list PySem.F.slot_list_append PySem.F.type_list_append mt_append (pv 5) (pa_cons (pe_ix ix_list (pe_lst (pa_cons (pe_callF FT hr (by decide) (pa_cons (pv 3) (pa_cons pe_int pa_nil))) (pa_cons (pe_callF FT hr (by decide) (pa_cons (pv 3) (pa_cons (pe_op op_pow pe_int pe_int) pa_nil))) (pa_cons pe_int (pa_cons (pe_op op_sub (pe_op op_pow pe_int pe_int) pe_int) pa_nil))))) (pe_callF FT hr (by decide) (pa_cons (pv 3) (pa_cons pe_int pa_nil))) (fun _ _ => rfl)) pa_nil))))))
   (pss_cons (stv_un 2 (ps_set (i := 7) scLaw.nd rfl (Or.inl rfl) (pe_join pe_str (pe_op op_cat (pe_lst (pa_cons (pv 4) pa_nil)) (pe_lc (own := [("number", 9)]) (g := gName 9) rfl scLaw.nd (pi_list (pv 5)) (blkOk_by (own := [("number", 9)]) (N := ["script", "k", "thing", "bag", "word", "numbers", "j", "text", "turn", "number"]) (sc := (defScope sLaw)) (by decide +kernel)) (fun _ _ _ _ _ => (pg_name (i := 9) scLaw.nd rfl (Or.inl rfl))) (fun _ _ _ _ _ => pts_nil) (fun _ _ _ _ _ => (pe_callTy call_str_int rfl hStr bt_str (pa_cons (pv 9) pa_nil))))))))
   (pss_cons (stv_un 3 (ps_if (PW.pt (pw_or (pt_cmpR op_ne (pe_callF FDt hr (by decide) (pa_cons (pe_op op_catT (pe_tup (pa_cons (pv 4) pa_nil)) (pe_callTy call_tuple_of rfl B.tuple_ bt_tuple (pa_cons (pv 5) pa_nil))) pa_nil)) (pv 7) (nomark _)) (pw_or1 (pt_cmpR (op_neD hr.units) (pe_callF FTd hr (by decide) (pa_cons (pv 7) pa_nil)) (pe_op op_catT (pe_tup (pa_cons (pv 4) pa_nil)) (pe_callTy call_tuple_of rfl B.tuple_ bt_tuple (pa_cons (pv 5) pa_nil))) (nomark _)))))
   (pss_one (ps_ret pe_bl))
   pss_nil))
   (pss_cons (stv_un 4 (ps_ofeq kT4 (ps_for PassesOwn.never rfl (pi_range1 rfl B.range_ (pa_cons (pe_op op_add pe_int (pe_callF FT hr (by decide) (pa_cons (pv 3) (pa_cons pe_int pa_nil)))) pa_nil)) (pg_name (i := 8) scLaw.nd rfl (Or.inl rfl)) (pss_one (ps_set (i := 7) scLaw.nd rfl (Or.inl rfl) (pe_callF FBt hr (by decide) (pa_cons (pv 3) (pa_cons (pv 7) (pa_cons (pe_lst (pa_strs _ _ BES_ok)) pa_nil)))))))))
   (pss_one (stv_un 5 (ps_if (pt_cmpR (op_neD hr.units) (pe_callF FTd hr (by decide) (pa_cons (pv 7) pa_nil)) (pe_callF FLr hr (by decide) (pa_cons (pv 7) pa_nil)) (nomark _))
   (pss_one (ps_ret pe_bl))
   pss_nil))))))))))))))))
   (pss_cons (ps_things scLaw.nd rfl (Or.inl rfl) rfl (thb_un (pss_one (ps_if (pt_cmpR op_ne (pe_callF FTd hr (by decide) (pa_cons (pv 2) pa_nil)) pe_str (nomark _))
   (pss_one (ps_ret pe_bl))
   pss_nil))) PassesOwn.never rfl)
   (pss_one (stz_un 2 (ps_ret pe_bl))))), ?_⟩
  have hln : (ns.map V.int).length = ns.length := List.length_map _
  refine ⟨_, rfl, a, _, rfl, .inl hS, _, _, rfl, _, _, rfl, rfl, ?_⟩
  refine ⟨_, rfl, by rw [hln]; split <;> omega, by rw [hln]; split <;> omega, for_range (lo := 0)
    (fun i σ H1 => ∃ v1 v2 v3 v4 v5 v6 v7 v8 v9 : Option V, σ = [some (.ref a), v1, v2, v3, v4, v5, v6, v7, v8, v9] ∧ Same H H1)
    ⟨none, none, none, none, none, none, none, none, none, rfl, Same.refl _⟩ ?_ ?_⟩
  · rintro i σ H1 _ ⟨v1, v2, v3, v4, v5, v6, v7, v8, v9, rfl, s1⟩
    rw [Int.zero_add]
    refine ⟨_, rfl, _, rfl, a, ns, (i : Int), rfl, s1.seq hS, h63, by omega, fun b x y hb0 => ?_⟩
    have fb : H b = none := s1.free hb0
    have s2 := s1.trans (same_new hb0 (.lst [.int x, .int y]))
    have hb2 := upd_same (H := H1) (a := b) (o := .lst [.int x, .int y])
    generalize upd H1 b (.lst [.int x, .int y]) = H2 at s2 hb2 ⊢
    have nb : ∀ c u, H c = some u → c ≠ b := fun c u hu => ne_of_none hu fb
    refine ⟨rfl, fun pw Hw sw fw hw => ⟨pw, rfl, ⟨_, SqL.of hw⟩, ?_⟩⟩
    have hbw := sw _ _ hb2
    have npw : pw ≠ b := (ne_of_none hb2 fw).symm
    have s3 := s2.trans sw
    refine for_list (K := K) (a := pw) (xs := LWs.map V.str)
      (fun j σ H3 => ∃ v2 v4 v5 v6 v7 v8 v9 : Option V, σ = [some (.ref a), some (.int (i : Int)), v2, some (.ref b), v4, v5, v6, v7, v8, v9] ∧ But b Hw H3 ∧ ∃ x3 y3, H3 b = some (.lst [.int x3, .int y3]))
      ⟨_, _, _, _, _, _, _, rfl, But.refl b Hw, x, y, hbw⟩ (fun j σ H3 _ ⟨v2, v4, v5, v6, v7, v8, v9, _, B3, _⟩ => SqL.of (B3 _ _ npw hw)) ?_ ?_
    rotate_left
    · rintro σ H3 ⟨v2, v4, v5, v6, v7, v8, v9, rfl, B3, _⟩
      exact ⟨_, _, _, _, _, _, _, _, _, rfl, fun c u hu => B3 c u (nb c u hu) (s3 c u hu)⟩
    rintro j z σ H3 hz ⟨v2, v4, v5, v6, v7, v8, v9, rfl, B3, x3, y3, hb3⟩
    obtain ⟨wd, hwd, rfl⟩ : ∃ wd, wd ∈ LWs ∧ z = .str wd := by
      rw [List.getElem?_map] at hz
      obtain ⟨wd, h1, h2⟩ := Option.map_eq_some_iff.mp hz
      exact ⟨wd, List.mem_of_getElem? h1, h2.symm⟩
    have hwl := lws_ok wd hwd
    refine ⟨(by show 0 ≤ sizeLine; decide), fun ln hln0 => ?_⟩
    have nln : ln ≠ b := fun e => by rw [e, hb3] at hln0; cases hln0
    have hb4 := up hln0 hb3 (o := .lst [])
    have B4 := B3.new hln0 (o := .lst [])
    have g4 := upd_same (H := H3) (a := ln) (o := .lst [])
    have fln : Hw ln = none := B3.newN hln0 (by rw [hbw]; exact fun z => nomatch z) nln
    generalize upd H3 ln (.lst []) = H4 at hb4 B4 g4 ⊢
    refine ⟨_, rfl, (by show 3 ≤ sizeLine; decide), fun l hl => ⟨l, W2s.map V.str, rfl, .inl (SqL.of upd_same), rfl, flat_strs _, .inr ⟨_, rfl, _, _, rfl, rfl, ?_⟩⟩⟩
    rw [in_w2]
    have B5 := B4.new hl (o := .lst [.str "cut", .str "part", .str "sew"])
    have hb5 := up hl hb4 (o := .lst [.str "cut", .str "part", .str "sew"])
    have g5 := up hl g4 (o := .lst [.str "cut", .str "part", .str "sew"])
    generalize upd H4 l (.lst [.str "cut", .str "part", .str "sew"]) = H5 at B5 hb5 g5 ⊢
    have emw : (1 + (if W2s.contains wd = true then (1 : Int) else 0)) = manyW wd := by unfold manyW; split <;> rfl
    have hmw : manyW wd = 1 ∨ manyW wd = 2 := by unfold manyW; split <;> simp
    refine ⟨_, rfl, by omega, by omega, for_range (lo := 0)
      (fun j2 σ H6 => ∃ v2 v6 v7 v8 v9 : Option V, σ = [some (.ref a), some (.int (i : Int)), v2, some (.ref b), some (.str wd), some (.ref ln), v6, v7, v8, v9] ∧ But b Hw H6 ∧ (∃ x6 y6, H6 b = some (.lst [.int x6, .int y6])) ∧ ∃ ms : List Int, ms.length = j2 ∧ (∀ n ∈ ms, Nine n) ∧ H6 ln = some (.lst (ms.map V.int)))
      ⟨_, _, _, _, _, rfl, B5, ⟨x3, y3, hb5⟩, [], rfl, (fun _ h => nomatch h), g5⟩ ?_ ?_⟩
    · rintro j2 σ H6 hj2 ⟨v2, v6, v7, v8, v9, rfl, B6, ⟨x6, y6, hb6⟩, ms, lms, nms, g6⟩
      have hj2' : j2 < 2 := by rw [emw] at hj2; omega
      refine ⟨_, rfl, .inl ⟨rfl, _, SqL.of g6⟩, _, rfl, b, x6, y6, 400, rfl, hb6, by decide, by decide, fun r1 H7 x7 y7 p1 q1 hb7 O7 => ?_⟩
      refine ⟨_, rfl, _, _, rfl, rfl, cpw9, ?_⟩
      refine ⟨b, x7, y7, 1000000000, rfl, hb7, by decide, by decide, fun r2 H8 x8 y8 p2 q2 hb8 O8 => ?_⟩
      refine ⟨_, _, rfl, rfl, cpw9, _, _, rfl, rfl, (by show 4 ≤ sizeLine; decide), fun l4 hl4 => ?_⟩
      have n4 : l4 ≠ b := fun e => by rw [e, hb8] at hl4; cases hl4
      refine ⟨_, rfl, b, x8, y8, 4, rfl, up hl4 hb8, by decide, by decide, fun r3 H9 x9 y9 p3 q3 hb9 O9 => ?_⟩
      obtain ⟨n, en, nn⟩ := at4 (r1 := r1) (r2 := r2) (c := 10 ^ Int.toNat 9 - 1) (r := r3) ⟨p1, by omega⟩ ⟨p2, by omega⟩ (by unfold Nine; decide) p3 q3
      refine ⟨l4, _, _, _, rfl, rfl, SqL.of ((O9 _ n4).trans upd_same), en, ?_⟩
      have g9 : H9 ln = some (.lst (ms.map V.int)) := (O9 _ nln).trans (up hl4 ((O8 _ nln).trans ((O7 _ nln).trans g6)))
      have B9 : But b Hw H9 := (((B6.one O7).one O8).new hl4).one O9
      refine ⟨ln, _, _, rfl, rfl, g9, by rw [List.length_map, sizeLine_eq]; omega, ?_⟩
      refine ⟨_, _, _, _, _, rfl, B9.put (.inr fln), ⟨x9, y9, (upd_ne nln.symm).trans hb9⟩, ms ++ [n], by rw [List.length_append, lms]; rfl, fun m hm => ?_, ?_⟩
      · rcases List.mem_append.mp hm with h | h
        · exact nms m h
        · rw [List.mem_singleton.mp h]; exact nn
      · rw [List.map_append]; exact upd_same
    · rintro σ H6 ⟨v2, v6, v7, v8, v9, rfl, B6, ⟨x6, y6, hb6⟩, ms, lms, nms, g6⟩
      rw [emw] at lms
      have lms2 : (ms.length : Int) = manyW wd := by omega
      have lms1 : 1 ≤ ms.length := by omega
      have lms3 : ms.length ≤ 2 := by omega
      refine ⟨⟨_, rfl⟩, _, rfl, (by show 1 ≤ sizeLine; decide), fun lw hlw => ?_⟩
      have B7 := B6.new hlw (o := .lst [.str wd])
      have hb7 := up hlw hb6 (o := .lst [.str wd])
      have g7 := up hlw g6 (o := .lst [.str wd])
      have gw7 := upd_same (H := H6) (a := lw) (o := .lst [.str wd])
      generalize upd H6 lw (.lst [.str wd]) = H7 at B7 hb7 g7 gw7 ⊢
      refine ⟨_, rfl, ln, rfl, ⟨_, SqL.of g7⟩, fun D hD => ?_⟩
      refine lc_list (K := K) (a := ln) (xs := ms.map V.int) (Pv := fun i8 H8 => Same H7 H8 ∧ H8 D = some (.lst (((ms.take i8).map tS).map V.str))) ⟨same_put hD _, upd_same⟩ (fun i8 H8 _ pv => SqL.of (pv.1 _ _ g7)) ?_ ?_
      · rintro i8 x H8 hx ⟨s8, g8⟩
        rw [List.getElem?_map] at hx
        obtain ⟨n, hn1, rfl⟩ := Option.map_eq_some_iff.mp hx
        refine ⟨rfl, yesT ⟨_, rfl, n, rfl, log_nine (nms n (List.mem_of_getElem? hn1)), _, g8, ?_, same_set s8 hD, ?_⟩⟩
        · rw [List.length_map, List.length_map, List.length_take, sizeLine_eq]; omega
        · rw [upd_same, List.take_succ, hn1, List.map_append, List.map_append]; rfl
      rintro H8 ⟨s8, g8⟩
      rw [List.length_map, List.take_of_length_le (Nat.le_refl _)] at g8
      have sl := strs_len nms
      refine ⟨lw, D, [.str wd], _, rfl, rfl, s8 _ _ gw7, g8, (by rw [List.length_map, List.length_map, sizeLine_eq, List.length_singleton]; omega), fun p hp => ?_⟩
      have B9 : But b Hw H8 := fun c u hc q => s8 _ _ (B7 c u hc q)
      have hb9 := up hp (s8 _ _ hb7) (o := .lst ([V.str wd] ++ (ms.map tS).map V.str))
      have g9 := up hp (s8 _ _ g7) (o := .lst ([V.str wd] ++ (ms.map tS).map V.str))
      have gp9 := upd_same (H := H8) (a := p) (o := .lst ([V.str wd] ++ (ms.map tS).map V.str))
      have B10 := B9.new hp (o := .lst ([V.str wd] ++ (ms.map tS).map V.str))
      refine ⟨blk, p, wd :: ms.map tS, rfl, rfl, .inl (SqL.of upd_same), ?_, ?_⟩
      · rw [List.map_cons, List.sum_cons, List.length_cons, List.length_map]
        show _ + (ms.length + 1) * 1 ≤ _
        omega
      have ez : deedOf (Txt.join blk (wd :: ms.map tS)) = some (wd, ms) := told_deed hwd lms1 nms lms2
      have zl : (Txt.join blk (wd :: ms.map tS)).length ≤ 27 ∧ cpOk (Txt.join blk (wd :: ms.map tS)) := by
        rw [TL.join_eq]
        obtain ⟨j1, j2⟩ := cp_join (wd :: ms.map tS) (fun p hp => by
          rcases List.mem_cons.mp hp with rfl | hp
          · exact hwl.2.1
          · obtain ⟨n, hn1, rfl⟩ := List.mem_map.mp hp
            exact (tS_ok (nms n hn1)).1)
        refine ⟨?_, j1⟩
        have s9 := sum_le (f := fun n => (tS n).length) (b := 9) ms fun n hn => (tS_nine (nms n hn)).2
        rw [List.map_cons, List.sum_cons, List.length_cons, List.length_map, List.map_map] at j2
        have : (ms.map ((fun x => x.length) ∘ tS)).sum ≤ ms.length * 9 := s9
        omega
      generalize hz0 : Txt.join blk (wd :: ms.map tS) = z0 at ez zl ⊢
      generalize upd H8 p (.lst ([V.str wd] ++ (ms.map tS).map V.str)) = H9 at B10 hb9 g9 gp9 ⊢
      refine ⟨_, rfl, (by show 1 ≤ sizeLine; decide), fun t1 ht1 => ?_⟩
      refine ⟨_, rfl, ln, _, rfl, .inl ⟨SqL.of (up ht1 g9), fun t2 ht2 => ?_⟩⟩
      refine ⟨t1, t2, _, _, rfl, rfl, SqT.of (up ht2 upd_same), SqT.of upd_same, nofun, (by rw [List.length_map, sizeLine_eq]; show 1 + _ ≤ _; omega), (fun e => ?_), fun _ t3 ht3 => ?_⟩
      · have : ms = [] := List.map_eq_nil_iff.mp e
        rw [this] at lms1; cases lms1
      have S3 := ((same_put ht1 (.tup [.str wd])).trans (same_put ht2 (.tup (ms.map V.int)))).trans (same_put ht3 (.tup ([.str wd] ++ ms.map V.int)))
      have gt3 := upd_same (H := upd (upd H9 t1 (.tup [.str wd])) t2 (.tup (ms.map V.int))) (a := t3) (o := .tup ([.str wd] ++ ms.map V.int))
      generalize upd (upd (upd H9 t1 (.tup [.str wd])) t2 (.tup (ms.map V.int))) t3 (.tup ([.str wd] ++ ms.map V.int)) = H10 at S3 gt3 ⊢
      refine ⟨t3, wd, ms, rfl, SqT.of gt3, by omega, lms1, lms3, nms, fun H11 s11 => ?_⟩
      rw [hz0]
      refine ⟨_, rfl, rfl, _, rfl, ite2 (fun c => absurd c (by simp)) fun _ => ?_⟩
      refine ⟨_, rfl, _, rfl, ⟨.str, rfl, fun _ => ⟨z0, rfl, by omega, zl.2⟩⟩, fun H12 s12 => ⟨fun e => ?_, fun d r e hr12 => ?_⟩⟩
      · rw [show textD (.str z0) = deedOf z0 from rfl, ez] at e; cases e
      rw [show textD (.str z0) = deedOf z0 from rfl, ez] at e
      cases e
      have S4 := (S3.trans s11).trans s12
      refine ⟨_, rfl, (by show 1 ≤ sizeLine; decide), fun t4 ht4 => ?_⟩
      refine ⟨_, rfl, ln, _, rfl, .inl ⟨SqL.of (up ht4 (S4 _ _ g9)), fun t5 ht5 => ?_⟩⟩
      refine ⟨t4, t5, _, _, rfl, rfl, SqT.of (up ht5 upd_same), SqT.of upd_same, nofun, (by rw [List.length_map, sizeLine_eq]; show 1 + _ ≤ _; omega), (fun e => ?_), fun _ t6 ht6 => ?_⟩
      · have : ms = [] := List.map_eq_nil_iff.mp e
        rw [this] at lms1; cases lms1
      have S6 := ((same_put ht4 (.tup [.str wd])).trans (same_put ht5 (.tup (ms.map V.int)))).trans (same_put ht6 (.tup ([.str wd] ++ ms.map V.int)))
      have gt6 := upd_same (H := upd (upd H12 t4 (.tup [.str wd])) t5 (.tup (ms.map V.int))) (a := t6) (o := .tup ([.str wd] ++ ms.map V.int))
      generalize upd (upd (upd H12 t4 (.tup [.str wd])) t5 (.tup (ms.map V.int))) t6 (.tup ([.str wd] ++ ms.map V.int)) = H13 at S6 gt6 ⊢
      have gdd := gd_d hwd lms3
      refine ⟨_, _, dp_d (d := (wd, ms)) (S6 _ _ hr12), dp_d (d := (wd, ms)) gt6, gdd.shaped (by decide), gdd.shaped (by decide), _, rfl, itN (by rw [gdd.eqv]; rfl) ?_⟩
      have S13 := S4.trans S6
      have hb13 := S13 _ _ hb9
      have B13 : But b Hw H13 := fun c u hc q => S13 _ _ (B10 c u hc q)
      refine ⟨_, rfl, b, x6, y6, 3, rfl, hb13, by decide, by decide, fun r14 H14 x14 y14 p14 q14 hb14 O14 => ?_⟩
      refine ⟨_, _, rfl, rfl, _, rfl, by omega, by omega, for_range (lo := 0)
        (fun t σ H15 => ∃ (z : Str) (v2 v6 v8 v9 : Option V), σ = [some (.ref a), some (.int (i : Int)), v2, some (.ref b), some (.str wd), some (.ref ln), v6, some (.str z), v8, v9] ∧ But b Hw H15 ∧ (∃ x y, H15 b = some (.lst [.int x, .int y])) ∧ z.length ≤ bnd t ∧ cpOk z)
        ⟨z0, _, _, _, _, rfl, B13.one O14, ⟨x14, y14, hb14⟩, zl.1, zl.2⟩ ?_ ?_⟩
      · rintro t σ H15 ht ⟨z, v2, v6, v8, v9, rfl, B15, ⟨x15, y15, hb15⟩, zb, zc⟩
        have ht3 : t < 3 := by omega
        have zb2 := bnd_le t
        refine ⟨_, rfl, _, rfl, (by show BE.length ≤ sizeLine; decide), fun lm hlm => ?_⟩
        have nlm : lm ≠ b := fun e => by rw [e, hb15] at hlm; cases hlm
        refine ⟨b, lm, x15, y15, z, BE, rfl, up hlm hb15, upd_same, nlm, BE_facts.1, BE_facts.2.1, BE_facts.2.2, by omega, zc, fun H16 z16 x16 y16 B16 hb16 zb16 zc16 => ?_⟩
        have B15' := B15.new hlm (o := .lst (BE.map V.str))
        exact ⟨z16, _, _, _, _, rfl, fun c u hc q => B16 c u hc (B15' c u hc q), ⟨x16, y16, hb16⟩, bnd_step ht3 zb zb16, zc16⟩
      rintro σ H15 ⟨z, v2, v6, v8, v9, rfl, B15, ⟨x15, y15, hb15⟩, zb, zc⟩
      have zb2 := Nat.le_trans zb (bnd_le _)
      refine ⟨_, rfl, _, rfl, ⟨.str, rfl, fun _ => ⟨z, rfl, by omega, zc⟩⟩, fun H16 s16 => ?_⟩
      refine ⟨fun e => ?_, fun d r e hr16 => ?_⟩
      · refine ⟨_, rfl, z, rfl, by omega, zc, fun H17 s17 => ⟨fun e2 => ?_, fun d r e2 hr17 => ?_⟩⟩
        · refine ⟨_, _, .str _, .str _, nt_sh, nt_sh, _, rfl, itN (by decide +kernel) ?_⟩
          exact ⟨_, _, _, _, _, _, _, rfl, fun c u hc q => (s16.trans s17) _ _ (B15 c u hc q), x15, y15, (s16.trans s17) _ _ hb15⟩
        · rw [show textD (.str z) = deedOf z from rfl, e2] at e; cases e
      · rw [show textD (.str z) = deedOf z from rfl] at e
        refine ⟨_, rfl, z, rfl, by omega, zc, fun H17 s17 => ⟨fun e2 => ?_, fun d2 r2 e2 hr17 => ?_⟩⟩
        · rw [e2] at e; cases e
        rw [e] at e2
        cases e2
        have hd := deed_in_words e
        have gdd2 := gd_d hd.1 hd.2
        refine ⟨_, _, dp_d (d := d) (s17 _ _ hr16), dp_d (d := d) hr17, gdd2.shaped (by decide), gdd2.shaped (by decide), _, rfl, itN (by rw [gdd2.eqv]; rfl) ?_⟩
        exact ⟨_, _, _, _, _, _, _, rfl, fun c u hc q => (s16.trans s17) _ _ (B15 c u hc q), x15, y15, (s16.trans s17) _ _ hb15⟩
  · rintro σ H1 ⟨v1, v2, v3, v4, v5, v6, v7, v8, v9, rfl, s1⟩
    refine fun vs H2 s2 dA => ⟨by rw [dA.len]; decide, fun p hp => ⟨p, rfl, ⟨_, SqL.of upd_same⟩, for_list (K := K) (a := p) (xs := vs)
      (fun j σ H3 => ∃ v1 v2 v3 v4 v5 v6 v7 v8 v9 : Option V, σ = [some (.ref a), v1, v2, v3, v4, v5, v6, v7, v8, v9] ∧ Same (upd H2 p (.lst vs)) H3) ⟨_, _, _, _, _, _, _, _, _, rfl, Same.refl _⟩ (fun j σ H3 _ ⟨v1, v2, v3, v4, v5, v6, v7, v8, v9, _, s3⟩ => SqL.of (s3 _ _ upd_same)) ?_ ?_⟩⟩
    · rintro j v σ H3 hv ⟨v1, v2, v3, v4, v5, v6, v7, v8, v9, rfl, s3⟩
      obtain ⟨d, hd1, hd2⟩ := dA.get hv
      have dp3 : Dp K H3 v d := Dp.same (fun c u hu => s3 _ _ (up hp (nwr_same _ _ hu))) d v hd2
      have tk := th_ok (List.mem_of_getElem? hd1) dp3
      refine ⟨_, rfl, v, rfl, tk.1, fun H4 s4 => ⟨fun _ => ?_, fun d r e _ => ?_⟩⟩
      · exact ⟨rfl, _, rfl, itN (by decide) ⟨_, _, _, _, _, _, _, _, _, rfl, s3.trans s4⟩⟩
      · rw [tk.2] at e; cases e
    · rintro σ H3 ⟨v1, v2, v3, v4, v5, v6, v7, v8, v9, rfl, s3⟩
      exact q H3
end
end Hs
set_option Elab.async false
set_option linter.all false
set_option maxRecDepth 100000
set_option maxHeartbeats 600000
namespace Hs
open PySem L2
theorem fn_of {P : Program} {w : World} {K : PySem.W.Frag} {mg : Str → Option Value} {base : Heap} {x : Str} {st : Stmt} {f : Addr} {fd : FuncData} {ps : List Str} {k : Nat} {sp : Sp} (F : Fun K x x st f fd) (G : FnOk P w K mg base CX0 k f fd ps sp) (b : Binds K fd ps []) (m : mg x = some (.ref f)) :
    Fn P w K mg base x ps k sp := ⟨f, fd, G, b, F.kp, m⟩
theorem fnx_of {P : Program} {w : World} {K : PySem.W.Frag} {mg : Str → Option Value} {base : Heap} {x : Str} {st : Stmt} {f : Addr} {fd : FuncData} {ps : List Str} {k : Nat} {sp : Sp} (F : Fun K x x st f fd) (G : FnOk P w K mg base (CXf P w) k f fd ps sp) (b : Binds K fd ps []) (m : mg x = some (.ref f)) :
    FnX P w K mg base x ps k sp := ⟨f, fd, G, b, F.kp, m⟩
theorem kitOne_of {K : PySem.W.Frag} {t : Value} {C : Addr} {b : Bool} {cd : ClassData} (hs : PySem.W.subIn K t t = some true) (h1 : PySem.W.clsIn K C = some cd) (h2 : PySem.W.typeIn K (.ref C) = some (.type "type")) (h3 : PySem.W.subIn K t (.ref C) = some b) : PySem.W.kitOne K t (.ref C) = some b := by
  unfold PySem.W.kitOne
  split
  next e =>
    have e : t = .ref C := beq_iff_eq.mp e
    rw [← e, hs] at h3; exact h3
  next => unfold PySem.W.kitCls; simp [h1, h2, h3]
theorem meta_V : PySem.W.kitMeta "ValueError" = true := by decide +kernel
theorem kitOne_V {K : PySem.W.Frag} {C : Addr} (h : PySem.W.subIn K (.ref C) (.type "ValueError") = some true) : PySem.W.kitOne K (.ref C) (.type "ValueError") = some true := by
  unfold PySem.W.kitOne
  rw [if_neg (by intro z; cases z)]
  unfold PySem.W.kitCls
  simp only
  rw [if_pos meta_V, h]
theorem exm_of {K : PySem.W.Frag} {t : Value} {C : Addr} {cd : ClassData} (h0 : PySem.W.subIn K (.ref C) (.type "BaseException") = some true) (h1 : PySem.W.clsIn K C = some cd) (h2 : PySem.W.typeIn K (.ref C) = some (.type "type")) (h3 : PySem.W.subIn K t (.ref C) = some true) : PySem.W.exmOne K t (.ref C) = some true := by
  unfold PySem.W.exmOne
  rw [if_pos (by rw [h0]; rfl)]
  unfold PySem.W.kitCls
  simp [h1, h2, h3]
def strsV : List Value → Option (List Str)
  | [] => some []
  | .str x _ :: r => (strsV r).map (x :: ·)
  | _ => none
theorem vals_strs : ∀ {us : List Value} {ws : List Str}, strsV us = some ws → Vals (ws.map V.str) us
  | [], _, h => by cases h; exact .nil
  | .str x t :: r, ws, h => by
    obtain ⟨v, hv, rfl⟩ := Option.map_eq_some_iff.mp (show (strsV r).map (x :: ·) = some ws from h)
    exact .cons ⟨t, rfl⟩ (vals_strs hv)
theorem all_mk {l : PySem.W.OpenLaw} {w : World} {K : PySem.W.Frag} {h : Heap} {mg : Str → Option Value} {fa f1 f2 f3 f4 f5 f6 f7 f8 f9 f10 f11 f12 f13 f14 f15 f16 : Addr} (X : K.In h) (G : h.Ns mainGlobals mg) (hfa : mg "law" = some (.ref fa))
    {od1 an1 od2 an2 od3 an3 od4 an4 od5 an5 od6 an6 od7 an7 od8 an8 od9 an9 od10 an10 od11 an11 od12 an12 od13 an13 od14 an14 od15 an15 od16 an16 : Option Addr} {sl1 sl2 sl3 sl4 sl5 sl6 sl7 sl8 sl9 sl10 sl11 sl12 sl13 sl14 sl15 sl16 : Array (Option Value)} {oc1 kV1 dc1 pm1 cd1 ct1 oc2 kV2 dc2 pm2 cd2 ct2 oc3 kV3 dc3 pm3 cd3 ct3 oc4 kV4 dc4 pm4 cd4 ct4 oc5 kV5 dc5 pm5 cd5 ct5 oc6 kV6 dc6 pm6 cd6 ct6 oc7 kV7 dc7 pm7 cd7 ct7 oc8 kV8 dc8 pm8 cd8 ct8 oc9 kV9 dc9 pm9 cd9 ct9 oc10 kV10 dc10 pm10 cd10 ct10 oc11 kV11 dc11 pm11 cd11 ct11 oc12 kV12 dc12 pm12 cd12 ct12 oc13 kV13 dc13 pm13 cd13 ct13 oc14 kV14 dc14 pm14 cd14 ct14 oc15 kV15 dc15 pm15 cd15 ct15 oc16 kV16 dc16 pm16 cd16 ct16 : Value} {t_FIGURES t_MOST_FIGURES : Tok}
    (a1 : PySem.W.nsIn K mainGlobals "is_whole" = some (some (.ref f1)))
    (l1 : K.lookup f1 = some ⟨oc1, od1, .func (PySem.W.fnOf "is_whole" "is_whole" (defArgs sWhole) (defBody sWhole) (defScope sWhole) .none kV1 dc1 pm1 an1 cd1 ct1), sl1⟩)
    (c1 : PySem.W.codeIn K cd1 "is_whole" = true)
    (k1 : PySem.W.keepIn K (.ref f1) = true)
    (a2 : PySem.W.nsIn K mainGlobals "is_deed" = some (some (.ref f2)))
    (l2 : K.lookup f2 = some ⟨oc2, od2, .func (PySem.W.fnOf "is_deed" "is_deed" (defArgs s_is_deed) (defBody s_is_deed) (defScope s_is_deed) .none kV2 dc2 pm2 an2 cd2 ct2), sl2⟩)
    (c2 : PySem.W.codeIn K cd2 "is_deed" = true)
    (k2 : PySem.W.keepIn K (.ref f2) = true)
    (a3 : PySem.W.nsIn K mainGlobals "numbers_text" = some (some (.ref f3)))
    (l3 : K.lookup f3 = some ⟨oc3, od3, .func (PySem.W.fnOf "numbers_text" "numbers_text" (defArgs s_numbers_text) (defBody s_numbers_text) (defScope s_numbers_text) .none kV3 dc3 pm3 an3 cd3 ct3), sl3⟩)
    (c3 : PySem.W.codeIn K cd3 "numbers_text" = true)
    (k3 : PySem.W.keepIn K (.ref f3) = true)
    (a4 : PySem.W.nsIn K mainGlobals "deed_text" = some (some (.ref f4)))
    (l4 : K.lookup f4 = some ⟨oc4, od4, .func (PySem.W.fnOf "deed_text" "deed_text" (defArgs s_deed_text) (defBody s_deed_text) (defScope s_deed_text) .none kV4 dc4 pm4 an4 cd4 ct4), sl4⟩)
    (c4 : PySem.W.codeIn K cd4 "deed_text" = true)
    (k4 : PySem.W.keepIn K (.ref f4) = true)
    (a5 : PySem.W.nsIn K mainGlobals "read_deed" = some (some (.ref f5)))
    (l5 : K.lookup f5 = some ⟨oc5, od5, .func (PySem.W.fnOf "read_deed" "read_deed" (defArgs s_read_deed) (defBody s_read_deed) (defScope s_read_deed) .none kV5 dc5 pm5 an5 cd5 ct5), sl5⟩)
    (c5 : PySem.W.codeIn K cd5 "read_deed" = true)
    (k5 : PySem.W.keepIn K (.ref f5) = true)
    (a6 : PySem.W.nsIn K mainGlobals "read_number" = some (some (.ref f6)))
    (l6 : K.lookup f6 = some ⟨oc6, od6, .func (PySem.W.fnOf "read_number" "read_number" (defArgs s_read_number) (defBody s_read_number) (defScope s_read_number) .none kV6 dc6 pm6 an6 cd6 ct6), sl6⟩)
    (c6 : PySem.W.codeIn K cd6 "read_number" = true)
    (k6 : PySem.W.keepIn K (.ref f6) = true)
    (a7 : PySem.W.nsIn K mainGlobals "deed_in" = some (some (.ref f7)))
    (l7 : K.lookup f7 = some ⟨oc7, od7, .func (PySem.W.fnOf "deed_in" "deed_in" (defArgs s_deed_in) (defBody s_deed_in) (defScope s_deed_in) .none kV7 dc7 pm7 an7 cd7 ct7), sl7⟩)
    (c7 : PySem.W.codeIn K cd7 "deed_in" = true)
    (k7 : PySem.W.keepIn K (.ref f7) = true)
    (a8 : PySem.W.nsIn K mainGlobals "_law_told_text" = some (some (.ref f8)))
    (l8 : K.lookup f8 = some ⟨oc8, od8, .func (PySem.W.fnOf "_law_told_text" "_law_told_text" (defArgs s__law_told_text) (defBody s__law_told_text) (defScope s__law_told_text) .none kV8 dc8 pm8 an8 cd8 ct8), sl8⟩)
    (c8 : PySem.W.codeIn K cd8 "_law_told_text" = true)
    (k8 : PySem.W.keepIn K (.ref f8) = true)
    (a9 : PySem.W.nsIn K mainGlobals "_law_read_deed" = some (some (.ref f9)))
    (l9 : K.lookup f9 = some ⟨oc9, od9, .func (PySem.W.fnOf "_law_read_deed" "_law_read_deed" (defArgs s__law_read_deed) (defBody s__law_read_deed) (defScope s__law_read_deed) .none kV9 dc9 pm9 an9 cd9 ct9), sl9⟩)
    (c9 : PySem.W.codeIn K cd9 "_law_read_deed" = true)
    (k9 : PySem.W.keepIn K (.ref f9) = true)
    (a10 : PySem.W.nsIn K mainGlobals "_law_bag" = some (some (.ref f10)))
    (l10 : K.lookup f10 = some ⟨oc10, od10, .func (PySem.W.fnOf "_law_bag" "_law_bag" (defArgs sBag) (defBody sBag) (defScope sBag) .none kV10 dc10 pm10 an10 cd10 ct10), sl10⟩)
    (c10 : PySem.W.codeIn K cd10 "_law_bag" = true)
    (k10 : PySem.W.keepIn K (.ref f10) = true)
    (a11 : PySem.W.nsIn K mainGlobals "_law_take" = some (some (.ref f11)))
    (l11 : K.lookup f11 = some ⟨oc11, od11, .func (PySem.W.fnOf "_law_take" "_law_take" (defArgs sTake) (defBody sTake) (defScope sTake) .none kV11 dc11 pm11 an11 cd11 ct11), sl11⟩)
    (c11 : PySem.W.codeIn K cd11 "_law_take" = true)
    (k11 : PySem.W.keepIn K (.ref f11) = true)
    (a12 : PySem.W.nsIn K mainGlobals "_law_kinds" = some (some (.ref f12)))
    (l12 : K.lookup f12 = some ⟨oc12, od12, .func (PySem.W.fnOf "_law_kinds" "_law_kinds" (defArgs s__law_kinds) (defBody s__law_kinds) (defScope s__law_kinds) .none kV12 dc12 pm12 an12 cd12 ct12), sl12⟩)
    (c12 : PySem.W.codeIn K cd12 "_law_kinds" = true)
    (k12 : PySem.W.keepIn K (.ref f12) = true)
    (a13 : PySem.W.nsIn K mainGlobals "_law_words" = some (some (.ref f13)))
    (l13 : K.lookup f13 = some ⟨oc13, od13, .func (PySem.W.fnOf "_law_words" "_law_words" (defArgs s__law_words) (defBody s__law_words) (defScope s__law_words) .none kV13 dc13 pm13 an13 cd13 ct13), sl13⟩)
    (c13 : PySem.W.codeIn K cd13 "_law_words" = true)
    (k13 : PySem.W.keepIn K (.ref f13) = true)
    (a14 : PySem.W.nsIn K mainGlobals "_law_number" = some (some (.ref f14)))
    (l14 : K.lookup f14 = some ⟨oc14, od14, .func (PySem.W.fnOf "_law_number" "_law_number" (defArgs s__law_number) (defBody s__law_number) (defScope s__law_number) .none kV14 dc14 pm14 an14 cd14 ct14), sl14⟩)
    (c14 : PySem.W.codeIn K cd14 "_law_number" = true)
    (k14 : PySem.W.keepIn K (.ref f14) = true)
    (a15 : PySem.W.nsIn K mainGlobals "_law_bent" = some (some (.ref f15)))
    (l15 : K.lookup f15 = some ⟨oc15, od15, .func (PySem.W.fnOf "_law_bent" "_law_bent" (defArgs sBent) (defBody sBent) (defScope sBent) .none kV15 dc15 pm15 an15 cd15 ct15), sl15⟩)
    (c15 : PySem.W.codeIn K cd15 "_law_bent" = true)
    (k15 : PySem.W.keepIn K (.ref f15) = true)
    (a16 : PySem.W.nsIn K mainGlobals "law" = some (some (.ref f16)))
    (l16 : K.lookup f16 = some ⟨oc16, od16, .func (PySem.W.fnOf "law" "law" (defArgs sLaw) (defBody sLaw) (defScope sLaw) .none kV16 dc16 pm16 an16 cd16 ct16), sl16⟩)
    (c16 : PySem.W.codeIn K cd16 "law" = true)
    (k16 : PySem.W.keepIn K (.ref f16) = true)
    (a_FIGURES : PySem.W.nsIn K mainGlobals "FIGURES" = some (some (.str (Str.ofString "0123456789") t_FIGURES)))
    (a_MOST_FIGURES : PySem.W.nsIn K mainGlobals "MOST_FIGURES" = some (some (.int 9 t_MOST_FIGURES)))
    (z_str : PySem.W.nsIn K mainGlobals "str" = some none)
    (z_len : PySem.W.nsIn K mainGlobals "len" = some none)
    (z_range : PySem.W.nsIn K mainGlobals "range" = some none)
    (z_list : PySem.W.nsIn K mainGlobals "list" = some none)
    (z_tuple : PySem.W.nsIn K mainGlobals "tuple" = some none)
    (z_min : PySem.W.nsIn K mainGlobals "min" = some none)
    (z_int : PySem.W.nsIn K mainGlobals "int" = some none)
    (z_bool : PySem.W.nsIn K mainGlobals "bool" = some none)
    (z_isinstance : PySem.W.nsIn K mainGlobals "isinstance" = some none)
    (z_set : PySem.W.nsIn K mainGlobals "set" = some none)
    (z_all : PySem.W.nsIn K mainGlobals "all" = some none)
    (z_enumerate : PySem.W.nsIn K mainGlobals "enumerate" = some none)
    (z_ValueError : PySem.W.nsIn K mainGlobals "ValueError" = some none)
    {t_a_WORDS_OF_ONE : Addr} {t_d_WORDS_OF_ONE : Option Addr} {t_i_WORDS_OF_ONE : Array Value} {t_n_WORDS_OF_ONE : Nat} {t_s_WORDS_OF_ONE : Array (Option Value)}
    (ta_WORDS_OF_ONE : PySem.W.nsIn K mainGlobals "WORDS_OF_ONE" = some (some (.ref t_a_WORDS_OF_ONE)))
    (tl_WORDS_OF_ONE : K.lookup t_a_WORDS_OF_ONE = some ⟨.type "tuple", t_d_WORDS_OF_ONE, .seq t_i_WORDS_OF_ONE t_n_WORDS_OF_ONE, t_s_WORDS_OF_ONE⟩)
    (tz_WORDS_OF_ONE : t_i_WORDS_OF_ONE.size ≤ sizeLine)
    (tv_WORDS_OF_ONE : Vals (W1s.map V.str) t_i_WORDS_OF_ONE.toList)
    {t_a_WORDS_OF_TWO : Addr} {t_d_WORDS_OF_TWO : Option Addr} {t_i_WORDS_OF_TWO : Array Value} {t_n_WORDS_OF_TWO : Nat} {t_s_WORDS_OF_TWO : Array (Option Value)}
    (ta_WORDS_OF_TWO : PySem.W.nsIn K mainGlobals "WORDS_OF_TWO" = some (some (.ref t_a_WORDS_OF_TWO)))
    (tl_WORDS_OF_TWO : K.lookup t_a_WORDS_OF_TWO = some ⟨.type "tuple", t_d_WORDS_OF_TWO, .seq t_i_WORDS_OF_TWO t_n_WORDS_OF_TWO, t_s_WORDS_OF_TWO⟩)
    (tz_WORDS_OF_TWO : t_i_WORDS_OF_TWO.size ≤ sizeLine)
    (tv_WORDS_OF_TWO : Vals (W2s.map V.str) t_i_WORDS_OF_TWO.toList)
    {c_Harm : Addr} {e_Harm : ClassData}
    (ac_Harm : PySem.W.nsIn K mainGlobals "Harm" = some (some (.ref c_Harm)))
    (hc_Harm : PySem.W.clsIn K c_Harm = some e_Harm)
    (ht_Harm : PySem.W.typeIn K (.ref c_Harm) = some (.type "type"))
    {c_NoHalf : Addr} {e_NoHalf : ClassData}
    (ac_NoHalf : PySem.W.nsIn K mainGlobals "NoHalf" = some (some (.ref c_NoHalf)))
    (hc_NoHalf : PySem.W.clsIn K c_NoHalf = some e_NoHalf)
    (ht_NoHalf : PySem.W.typeIn K (.ref c_NoHalf) = some (.type "type"))
    {c_NoMarks : Addr} {e_NoMarks : ClassData}
    (ac_NoMarks : PySem.W.nsIn K mainGlobals "NoMarks" = some (some (.ref c_NoMarks)))
    (hc_NoMarks : PySem.W.clsIn K c_NoMarks = some e_NoMarks)
    (ht_NoMarks : PySem.W.typeIn K (.ref c_NoMarks) = some (.type "type"))
    {c_NoPlain : Addr} {e_NoPlain : ClassData}
    (ac_NoPlain : PySem.W.nsIn K mainGlobals "NoPlain" = some (some (.ref c_NoPlain)))
    (hc_NoPlain : PySem.W.clsIn K c_NoPlain = some e_NoPlain)
    (ht_NoPlain : PySem.W.typeIn K (.ref c_NoPlain) = some (.type "type"))
    {c_NoRim : Addr} {e_NoRim : ClassData}
    (ac_NoRim : PySem.W.nsIn K mainGlobals "NoRim" = some (some (.ref c_NoRim)))
    (hc_NoRim : PySem.W.clsIn K c_NoRim = some e_NoRim)
    (ht_NoRim : PySem.W.typeIn K (.ref c_NoRim) = some (.type "type"))
    {c_NoRow : Addr} {e_NoRow : ClassData}
    (ac_NoRow : PySem.W.nsIn K mainGlobals "NoRow" = some (some (.ref c_NoRow)))
    (hc_NoRow : PySem.W.clsIn K c_NoRow = some e_NoRow)
    (ht_NoRow : PySem.W.typeIn K (.ref c_NoRow) = some (.type "type"))
    {c_NoSkin : Addr} {e_NoSkin : ClassData}
    (ac_NoSkin : PySem.W.nsIn K mainGlobals "NoSkin" = some (some (.ref c_NoSkin)))
    (hc_NoSkin : PySem.W.clsIn K c_NoSkin = some e_NoSkin)
    (ht_NoSkin : PySem.W.typeIn K (.ref c_NoSkin) = some (.type "type"))
    {c_NoText : Addr} {e_NoText : ClassData}
    (ac_NoText : PySem.W.nsIn K mainGlobals "NoText" = some (some (.ref c_NoText)))
    (hc_NoText : PySem.W.clsIn K c_NoText = some e_NoText)
    (ht_NoText : PySem.W.typeIn K (.ref c_NoText) = some (.type "type"))
    {c_NothingLeft : Addr} {e_NothingLeft : ClassData}
    (ac_NothingLeft : PySem.W.nsIn K mainGlobals "NothingLeft" = some (some (.ref c_NothingLeft)))
    (hc_NothingLeft : PySem.W.clsIn K c_NothingLeft = some e_NothingLeft)
    (ht_NothingLeft : PySem.W.typeIn K (.ref c_NothingLeft) = some (.type "type"))
    {c_TooMany : Addr} {e_TooMany : ClassData}
    (ac_TooMany : PySem.W.nsIn K mainGlobals "TooMany" = some (some (.ref c_TooMany)))
    (hc_TooMany : PySem.W.clsIn K c_TooMany = some e_TooMany)
    (ht_TooMany : PySem.W.typeIn K (.ref c_TooMany) = some (.type "type"))
    {c_Unfit : Addr} {e_Unfit : ClassData}
    (ac_Unfit : PySem.W.nsIn K mainGlobals "Unfit" = some (some (.ref c_Unfit)))
    (hc_Unfit : PySem.W.clsIn K c_Unfit = some e_Unfit)
    (ht_Unfit : PySem.W.typeIn K (.ref c_Unfit) = some (.type "type"))
    {c_Unlike : Addr} {e_Unlike : ClassData}
    (ac_Unlike : PySem.W.nsIn K mainGlobals "Unlike" = some (some (.ref c_Unlike)))
    (hc_Unlike : PySem.W.clsIn K c_Unlike = some e_Unlike)
    (ht_Unlike : PySem.W.typeIn K (.ref c_Unlike) = some (.type "type"))
    {c_SkinError : Addr} {e_SkinError : ClassData}
    (ac_SkinError : PySem.W.nsIn K mainGlobals "SkinError" = some (some (.ref c_SkinError)))
    (hc_SkinError : PySem.W.clsIn K c_SkinError = some e_SkinError)
    (ht_SkinError : PySem.W.typeIn K (.ref c_SkinError) = some (.type "type"))
    (bs_SkinError : PySem.W.subIn K (.ref c_SkinError) (.type "BaseException") = some true)
    (sb_NoText_Harm : PySem.W.subIn K (.ref c_NoText) (.ref c_Harm) = some false)
    (sb_NoText_NoHalf : PySem.W.subIn K (.ref c_NoText) (.ref c_NoHalf) = some false)
    (sb_NoText_NoMarks : PySem.W.subIn K (.ref c_NoText) (.ref c_NoMarks) = some false)
    (sb_NoText_NoPlain : PySem.W.subIn K (.ref c_NoText) (.ref c_NoPlain) = some false)
    (sb_NoText_NoRim : PySem.W.subIn K (.ref c_NoText) (.ref c_NoRim) = some false)
    (sb_NoText_NoRow : PySem.W.subIn K (.ref c_NoText) (.ref c_NoRow) = some false)
    (sb_NoText_NoSkin : PySem.W.subIn K (.ref c_NoText) (.ref c_NoSkin) = some false)
    (sb_NoText_NoText : PySem.W.subIn K (.ref c_NoText) (.ref c_NoText) = some true)
    (sb_NoText_NothingLeft : PySem.W.subIn K (.ref c_NoText) (.ref c_NothingLeft) = some false)
    (sb_NoText_TooMany : PySem.W.subIn K (.ref c_NoText) (.ref c_TooMany) = some false)
    (sb_NoText_Unfit : PySem.W.subIn K (.ref c_NoText) (.ref c_Unfit) = some false)
    (sb_NoText_Unlike : PySem.W.subIn K (.ref c_NoText) (.ref c_Unlike) = some false)
    (sb_NoText_SkinError : PySem.W.subIn K (.ref c_NoText) (.ref c_SkinError) = some true)
    (sv_NoText : PySem.W.subIn K (.ref c_NoText) (.type "ValueError") = some true)
    (be_NoText : PySem.W.subIn K (.ref c_NoText) (.type "BaseException") = some true)
    (ga_NoText : PySem.W.findIn K (.ref c_NoText) "__getattribute__" = some (some (.builtin "BaseException.__getattribute__")))
    (gn_NoText : PySem.W.findIn K (.ref c_NoText) "__getattr__" = some none)
    (cl_NoText : PySem.W.findIn K (.ref c_NoText) "__class__" = some (some (.builtin "object.__class__")))
    (sp_NoText : PySem.W.specialIn K (.builtin "object.__class__") "__get__" = some (some (.builtin "getset_descriptor.__get__")))
    (tk_NoText : PySem.W.takesIn K (.builtin "object.__class__") = some true)
    (mr_NoText : PySem.W.mroIn K c_NoText (.type "object") = some true)
    (ow_NoText : PySem.W.excIn K c_NoText [.type "ValueError", .type "Exception", .type "BaseException", .type "object"] "ValueError.__new__" = true)
    : ∃ fd : FuncData, (∀ (s : Shared) (v : Value), BindsTo s fd ⟨[v], []⟩ [("script", v)]) ∧ ∀ base : Heap, K.In base → base.Ns mainGlobals mg → FnOk l.prog w K mg base CX0 6 fa fd ["script"] (spLaw K) := by
  have e := hfa.symm.trans (PySem.W.mg_of X G a16)
  cases e
  have F1 := fun_mk (st := sWhole) l1 c1 k1
  have b1 := F1.binds (ps := ["thing"]) fun _ _ _ _ _ _ us hl => match us, hl with | [_], _ => rfl
  have m1 := PySem.W.mg_of X G a1
  have F2 := fun_mk (st := s_is_deed) l2 c2 k2
  have b2 := F2.binds (ps := ["thing"]) fun _ _ _ _ _ _ us hl => match us, hl with | [_], _ => rfl
  have m2 := PySem.W.mg_of X G a2
  have F3 := fun_mk (st := s_numbers_text) l3 c3 k3
  have b3 := F3.binds (ps := ["numbers"]) fun _ _ _ _ _ _ us hl => match us, hl with | [_], _ => rfl
  have m3 := PySem.W.mg_of X G a3
  have F4 := fun_mk (st := s_deed_text) l4 c4 k4
  have b4 := F4.binds (ps := ["deed"]) fun _ _ _ _ _ _ us hl => match us, hl with | [_], _ => rfl
  have m4 := PySem.W.mg_of X G a4
  have F5 := fun_mk (st := s_read_deed) l5 c5 k5
  have b5 := F5.binds (ps := ["text"]) fun _ _ _ _ _ _ us hl => match us, hl with | [_], _ => rfl
  have m5 := PySem.W.mg_of X G a5
  have F6 := fun_mk (st := s_read_number) l6 c6 k6
  have b6 := F6.binds (ps := ["text"]) fun _ _ _ _ _ _ us hl => match us, hl with | [_], _ => rfl
  have m6 := PySem.W.mg_of X G a6
  have F7 := fun_mk (st := s_deed_in) l7 c7 k7
  have b7 := F7.binds (ps := ["text"]) fun _ _ _ _ _ _ us hl => match us, hl with | [_], _ => rfl
  have m7 := PySem.W.mg_of X G a7
  have F8 := fun_mk (st := s__law_told_text) l8 c8 k8
  have b8 := F8.binds (ps := ["text"]) fun _ _ _ _ _ _ us hl => match us, hl with | [_], _ => rfl
  have m8 := PySem.W.mg_of X G a8
  have F9 := fun_mk (st := s__law_read_deed) l9 c9 k9
  have b9 := F9.binds (ps := ["text"]) fun _ _ _ _ _ _ us hl => match us, hl with | [_], _ => rfl
  have m9 := PySem.W.mg_of X G a9
  have F10 := fun_mk (st := sBag) l10 c10 k10
  have b10 := F10.binds (ps := ["script", "k"]) fun _ _ _ _ _ _ us hl => match us, hl with | [_, _], _ => rfl
  have m10 := PySem.W.mg_of X G a10
  have F11 := fun_mk (st := sTake) l11 c11 k11
  have b11 := F11.binds (ps := ["bag", "many"]) fun _ _ _ _ _ _ us hl => match us, hl with | [_, _], _ => rfl
  have m11 := PySem.W.mg_of X G a11
  have F12 := fun_mk (st := s__law_kinds) l12 c12 k12
  have b12 := F12.binds (ps := ["e"]) fun _ _ _ _ _ _ us hl => match us, hl with | [_], _ => rfl
  have m12 := PySem.W.mg_of X G a12
  have F13 := fun_mk (st := s__law_words) l13 c13 k13
  have b13 := F13.binds (ps := []) fun _ _ _ _ _ _ us hl => match us, hl with | [], _ => rfl
  have m13 := PySem.W.mg_of X G a13
  have F14 := fun_mk (st := s__law_number) l14 c14 k14
  have b14 := F14.binds (ps := ["word"]) fun _ _ _ _ _ _ us hl => match us, hl with | [_], _ => rfl
  have m14 := PySem.W.mg_of X G a14
  have F15 := fun_mk (st := sBent) l15 c15 k15
  have b15 := F15.binds (ps := ["bag", "text", "more"]) fun _ _ _ _ _ _ us hl => match us, hl with | [_, _, _], _ => rfl
  have m15 := PySem.W.mg_of X G a15
  have F16 := fun_mk (st := sLaw) l16 c16 k16
  have B : Bi mg := ⟨PySem.W.mg_none_of X G z_len, PySem.W.mg_none_of X G z_range, PySem.W.mg_none_of X G z_list, PySem.W.mg_none_of X G z_tuple, PySem.W.mg_none_of X G z_min, PySem.W.mg_none_of X G z_int, PySem.W.mg_none_of X G z_bool, PySem.W.mg_none_of X G z_isinstance, PySem.W.mg_none_of X G z_set, PySem.W.mg_none_of X G z_all, PySem.W.mg_none_of X G z_enumerate⟩
  have th_WORDS_OF_ONE := PySem.W.mg_of X G ta_WORDS_OF_ONE
  have tq_WORDS_OF_ONE : ∀ H, SqT K H t_a_WORDS_OF_ONE (W1s.map V.str) := fun H => .inr ⟨_, _, _, tl_WORDS_OF_ONE, rfl, rfl, tz_WORDS_OF_ONE, tv_WORDS_OF_ONE⟩
  have th_WORDS_OF_TWO := PySem.W.mg_of X G ta_WORDS_OF_TWO
  have tq_WORDS_OF_TWO : ∀ H, SqT K H t_a_WORDS_OF_TWO (W2s.map V.str) := fun H => .inr ⟨_, _, _, tl_WORDS_OF_TWO, rfl, rfl, tz_WORDS_OF_TWO, tv_WORDS_OF_TWO⟩
  have h_FIGURES := PySem.W.mg_of X G a_FIGURES
  have h_MOST_FIGURES := PySem.W.mg_of X G a_MOST_FIGURES
  have h_str := PySem.W.mg_none_of X G z_str
  let D : Nat → Addr := fun i => [c_Harm, c_NoHalf, c_NoMarks, c_NoPlain, c_NoRim, c_NoRow, c_NoSkin, c_NoText, c_NothingLeft, c_TooMany, c_Unfit, c_Unlike].getD i 0
  have M : Cls12 mg D := ⟨PySem.W.mg_of X G ac_Harm, PySem.W.mg_of X G ac_NoHalf, PySem.W.mg_of X G ac_NoMarks, PySem.W.mg_of X G ac_NoPlain, PySem.W.mg_of X G ac_NoRim, PySem.W.mg_of X G ac_NoRow, PySem.W.mg_of X G ac_NoSkin, PySem.W.mg_of X G ac_NoText, PySem.W.mg_of X G ac_NothingLeft, PySem.W.mg_of X G ac_TooMany, PySem.W.mg_of X G ac_Unfit, PySem.W.mg_of X G ac_Unlike, PySem.W.mg_none_of X G z_ValueError⟩
  have hS := PySem.W.mg_of X G ac_SkinError
  have Z_NoText : KindOf K D c_NoText (fun i => decide (i = 7)) := ⟨⟨ga_NoText, gn_NoText, cl_NoText, sp_NoText, tk_NoText, mr_NoText, by rw [hc_NoText]; rfl, be_NoText⟩, kitOne_of sb_NoText_NoText hc_Harm ht_Harm sb_NoText_Harm, kitOne_of sb_NoText_NoText hc_NoHalf ht_NoHalf sb_NoText_NoHalf, kitOne_of sb_NoText_NoText hc_NoMarks ht_NoMarks sb_NoText_NoMarks, kitOne_of sb_NoText_NoText hc_NoPlain ht_NoPlain sb_NoText_NoPlain, kitOne_of sb_NoText_NoText hc_NoRim ht_NoRim sb_NoText_NoRim, kitOne_of sb_NoText_NoText hc_NoRow ht_NoRow sb_NoText_NoRow, kitOne_of sb_NoText_NoText hc_NoSkin ht_NoSkin sb_NoText_NoSkin, kitOne_of sb_NoText_NoText hc_NoText ht_NoText sb_NoText_NoText, kitOne_of sb_NoText_NoText hc_NothingLeft ht_NothingLeft sb_NoText_NothingLeft, kitOne_of sb_NoText_NoText hc_TooMany ht_TooMany sb_NoText_TooMany, kitOne_of sb_NoText_NoText hc_Unfit ht_Unfit sb_NoText_Unfit, kitOne_of sb_NoText_NoText hc_Unlike ht_Unlike sb_NoText_Unlike, kitOne_V sv_NoText⟩
  have x_NoText := exm_of bs_SkinError hc_SkinError ht_SkinError sb_NoText_SkinError
  have g_NoText := PySem.W.mg_of X G ac_NoText
  refine ⟨PySem.W.fnOf "law" "law" (defArgs sLaw) (defBody sLaw) (defScope sLaw) .none kV16 dc16 pm16 an16 cd16 ct16, fun s v => .of_eq rfl, fun base _ _ => ?_⟩
  have FT : Fn l.prog w K mg base _ _ _ _ := fn_of F11 (ok_take F11) b11 m11
  have FG : Fn l.prog w K mg base _ _ _ _ := fn_of F10 (ok_bag B F10) b10 m10
  have FK := ok_kinds B M (P := l.prog) (w := w) (base := base) F12 b12 m12
  have FW : Fn l.prog w K mg base _ _ _ _ := fn_of F1 (ok_whole B F1) b1 m1
  have FRN : Fn l.prog w K mg base _ _ _ _ := fn_of F6 (ok_readnum B B.all_ B.int_ h_FIGURES h_MOST_FIGURES F6) b6 m6
  have FLN : Fn l.prog w K mg base _ _ _ _ := fn_of F14 (ok_lawnum B B.int_ F14) b14 m14
  have FNT : Fn l.prog w K mg base _ _ _ _ := fn_of F3 (ok_numt B h_str F3) b3 m3
  have FDt : Fn l.prog w K mg base _ _ _ _ := fn_of F4 (ok_deedt B FNT F4) b4 m4
  have FID : Fn l.prog w K mg base _ _ _ _ := fn_of F2 (ok_isdeed th_WORDS_OF_ONE th_WORDS_OF_TWO tq_WORDS_OF_ONE tq_WORDS_OF_TWO B h_str FW F2) b2 m2
  have FDI : Fn l.prog w K mg base _ _ _ _ := fn_of F7 (ok_deedin B FRN FID F7) b7 m7
  have FRd : FnX l.prog w K mg base _ _ _ _ := fnx_of F5 (ok_readdeed B h_str ow_NoText g_NoText FDI F5) b5 m5
  have FWd : Fn l.prog w K mg base _ _ _ _ := fn_of F13 (ok_words F13) b13 m13
  have FLr : Fn l.prog w K mg base _ _ _ _ := fn_of F9 (ok_lread B FLN FWd F9) b9 m9
  have FTd : Fn l.prog w K mg base _ _ _ _ := fn_of F8 (ok_told B hS x_NoText Z_NoText FK FRd F8) b8 m8
  have FBt : Fn l.prog w K mg base _ _ _ _ := fn_of F15 (ok_bent B FT F15) b15 m15
  exact ok_law B h_str FT FG FWd FDt FTd FLr FBt F16
theorem walk {l : PySem.W.OpenLaw} {q : Program} {loose : List Str} {XP : (Str → Option Value) → Heap → Prop} {YP : World → Heap → Prop} {d : DefRec} {K : Params → PySem.W.Frag} (hn : l.most = some 63) (hdf : d.params.defaults = [])
    (hY : ∀ (w : World) (h : Heap), YP w h → (K w.params).In h)
    (F : ∀ (w : World) (mg : Str → Option Value) (fa : Addr) (h : Heap), (K w.params).In h → h.Ns mainGlobals mg → mg d.name = some (.ref fa) →
      ∃ fd : FuncData, (∀ (s : Shared) (u : Value), BindsTo s fd ⟨[u], []⟩ [("script", u)]) ∧ ∀ base : Heap, (K w.params).In base → base.Ns mainGlobals mg → FnOk l.prog w (K w.params) mg base CX0 6 fa fd ["script"] (spLaw (K w.params))) :
    PySem.W.WalkO q loose XP YP l.row.toRowW d [] (fun f vs => PySem.call f vs) :=
  L2.walk_of (n := 63) (k := 6) (x := "script") (CX := fun _ => CX0) (sp := fun w => spLaw (K w.params)) hn (by decide) hdf ⟨rfl, by decide, by decide⟩ hY F (fun _ _ a ns hl _ hS => ⟨a, ns, rfl, hS, hl, fun _ => rfl⟩) fun _ _ _ _ _ z => z
end Hs
open PySem PySem.W PyProof.Rows
set_option maxRecDepth 100000 in
set_option maxHeartbeats 0 in
theorem PySem.Challenge.cw_halfseams_k44_deeds_as_texts_holds : PySem.Challenge.rw_halfseams_k44_deeds_as_texts.Holds := by
  w_on; o_law; k_head; (case hw => w_witness2)
  k_fill
  refine Hs.walk (l := PySem.Challenge.rw_halfseams_k44_deeds_as_texts) rfl rfl (fun w h Y => PySem.W.kIn_of Y) ?F
  case F =>
    intro w mg fa h KX G hmg
    refine' Hs.all_mk KX G hmg ?a1 ?l1 ?c1 ?k1 ?a2 ?l2 ?c2 ?k2 ?a3 ?l3 ?c3 ?k3 ?a4 ?l4 ?c4 ?k4 ?a5 ?l5 ?c5 ?k5 ?a6 ?l6 ?c6 ?k6 ?a7 ?l7 ?c7 ?k7 ?a8 ?l8 ?c8 ?k8 ?a9 ?l9 ?c9 ?k9 ?a10 ?l10 ?c10 ?k10 ?a11 ?l11 ?c11 ?k11 ?a12 ?l12 ?c12 ?k12 ?a13 ?l13 ?c13 ?k13 ?a14 ?l14 ?c14 ?k14 ?a15 ?l15 ?c15 ?k15 ?a16 ?l16 ?c16 ?k16 ?a_FIGURES ?a_MOST_FIGURES ?z_str ?z_len ?z_range ?z_list ?z_tuple ?z_min ?z_int ?z_bool ?z_isinstance ?z_set ?z_all ?z_enumerate ?z_ValueError ?ta_WORDS_OF_ONE ?tl_WORDS_OF_ONE ?tz_WORDS_OF_ONE ?tv_WORDS_OF_ONE ?ta_WORDS_OF_TWO ?tl_WORDS_OF_TWO ?tz_WORDS_OF_TWO ?tv_WORDS_OF_TWO ?ac_Harm ?hc_Harm ?ht_Harm ?ac_NoHalf ?hc_NoHalf ?ht_NoHalf ?ac_NoMarks ?hc_NoMarks ?ht_NoMarks ?ac_NoPlain ?hc_NoPlain ?ht_NoPlain ?ac_NoRim ?hc_NoRim ?ht_NoRim ?ac_NoRow ?hc_NoRow ?ht_NoRow ?ac_NoSkin ?hc_NoSkin ?ht_NoSkin ?ac_NoText ?hc_NoText ?ht_NoText ?ac_NothingLeft ?hc_NothingLeft ?ht_NothingLeft ?ac_TooMany ?hc_TooMany ?ht_TooMany ?ac_Unfit ?hc_Unfit ?ht_Unfit ?ac_Unlike ?hc_Unlike ?ht_Unlike ?ac_SkinError ?hc_SkinError ?ht_SkinError ?bs_SkinError ?sb_NoText_Harm ?sb_NoText_NoHalf ?sb_NoText_NoMarks ?sb_NoText_NoPlain ?sb_NoText_NoRim ?sb_NoText_NoRow ?sb_NoText_NoSkin ?sb_NoText_NoText ?sb_NoText_NothingLeft ?sb_NoText_TooMany ?sb_NoText_Unfit ?sb_NoText_Unlike ?sb_NoText_SkinError ?sv_NoText ?be_NoText ?ga_NoText ?gn_NoText ?cl_NoText ?sp_NoText ?tk_NoText ?mr_NoText ?ow_NoText
    (case a1 => k_is)
    (case l1 => k_is)
    (case c1 => k_is)
    (case k1 => k_is)
    (case a2 => k_is)
    (case l2 => k_is)
    (case c2 => k_is)
    (case k2 => k_is)
    (case a3 => k_is)
    (case l3 => k_is)
    (case c3 => k_is)
    (case k3 => k_is)
    (case a4 => k_is)
    (case l4 => k_is)
    (case c4 => k_is)
    (case k4 => k_is)
    (case a5 => k_is)
    (case l5 => k_is)
    (case c5 => k_is)
    (case k5 => k_is)
    (case a6 => k_is)
    (case l6 => k_is)
    (case c6 => k_is)
    (case k6 => k_is)
    (case a7 => k_is)
    (case l7 => k_is)
    (case c7 => k_is)
    (case k7 => k_is)
    (case a8 => k_is)
    (case l8 => k_is)
    (case c8 => k_is)
    (case k8 => k_is)
    (case a9 => k_is)
    (case l9 => k_is)
    (case c9 => k_is)
    (case k9 => k_is)
    (case a10 => k_is)
    (case l10 => k_is)
    (case c10 => k_is)
    (case k10 => k_is)
    (case a11 => k_is)
    (case l11 => k_is)
    (case c11 => k_is)
    (case k11 => k_is)
    (case a12 => k_is)
    (case l12 => k_is)
    (case c12 => k_is)
    (case k12 => k_is)
    (case a13 => k_is)
    (case l13 => k_is)
    (case c13 => k_is)
    (case k13 => k_is)
    (case a14 => k_is)
    (case l14 => k_is)
    (case c14 => k_is)
    (case k14 => k_is)
    (case a15 => k_is)
    (case l15 => k_is)
    (case c15 => k_is)
    (case k15 => k_is)
    (case a16 => k_is)
    (case l16 => k_is)
    (case c16 => k_is)
    (case k16 => k_is)
    (case a_FIGURES => k_is)
    (case a_MOST_FIGURES => k_is)
    (case z_str => k_is)
    (case z_len => k_is)
    (case z_range => k_is)
    (case z_list => k_is)
    (case z_tuple => k_is)
    (case z_min => k_is)
    (case z_int => k_is)
    (case z_bool => k_is)
    (case z_isinstance => k_is)
    (case z_set => k_is)
    (case z_all => k_is)
    (case z_enumerate => k_is)
    (case z_ValueError => k_is)
    (case ta_WORDS_OF_ONE => k_is)
    (case tl_WORDS_OF_ONE => k_is)
    (case tz_WORDS_OF_ONE => decide)
    (case tv_WORDS_OF_ONE => exact Hs.vals_strs rfl)
    (case ta_WORDS_OF_TWO => k_is)
    (case tl_WORDS_OF_TWO => k_is)
    (case tz_WORDS_OF_TWO => decide)
    (case tv_WORDS_OF_TWO => exact Hs.vals_strs rfl)
    (case ac_Harm => k_is)
    (case hc_Harm => k_is)
    (case ht_Harm => k_is)
    (case ac_NoHalf => k_is)
    (case hc_NoHalf => k_is)
    (case ht_NoHalf => k_is)
    (case ac_NoMarks => k_is)
    (case hc_NoMarks => k_is)
    (case ht_NoMarks => k_is)
    (case ac_NoPlain => k_is)
    (case hc_NoPlain => k_is)
    (case ht_NoPlain => k_is)
    (case ac_NoRim => k_is)
    (case hc_NoRim => k_is)
    (case ht_NoRim => k_is)
    (case ac_NoRow => k_is)
    (case hc_NoRow => k_is)
    (case ht_NoRow => k_is)
    (case ac_NoSkin => k_is)
    (case hc_NoSkin => k_is)
    (case ht_NoSkin => k_is)
    (case ac_NoText => k_is)
    (case hc_NoText => k_is)
    (case ht_NoText => k_is)
    (case ac_NothingLeft => k_is)
    (case hc_NothingLeft => k_is)
    (case ht_NothingLeft => k_is)
    (case ac_TooMany => k_is)
    (case hc_TooMany => k_is)
    (case ht_TooMany => k_is)
    (case ac_Unfit => k_is)
    (case hc_Unfit => k_is)
    (case ht_Unfit => k_is)
    (case ac_Unlike => k_is)
    (case hc_Unlike => k_is)
    (case ht_Unlike => k_is)
    (case ac_SkinError => k_is)
    (case hc_SkinError => k_is)
    (case ht_SkinError => k_is)
    (case bs_SkinError => k_is)
    (case sb_NoText_Harm => k_is)
    (case sb_NoText_NoHalf => k_is)
    (case sb_NoText_NoMarks => k_is)
    (case sb_NoText_NoPlain => k_is)
    (case sb_NoText_NoRim => k_is)
    (case sb_NoText_NoRow => k_is)
    (case sb_NoText_NoSkin => k_is)
    (case sb_NoText_NoText => k_is)
    (case sb_NoText_NothingLeft => k_is)
    (case sb_NoText_TooMany => k_is)
    (case sb_NoText_Unfit => k_is)
    (case sb_NoText_Unlike => k_is)
    (case sb_NoText_SkinError => k_is)
    (case sv_NoText => k_is)
    (case be_NoText => k_is)
    (case ga_NoText => k_is)
    (case gn_NoText => k_is)
    (case cl_NoText => k_is)
    (case sp_NoText => k_is)
    (case tk_NoText => k_is)
    (case mr_NoText => k_is)
    (case ow_NoText => k_exc)
