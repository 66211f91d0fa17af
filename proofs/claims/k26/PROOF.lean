import PyProof.Rows.All
import Wide.All
import OpenK.AllK
import Wide.FinOn
import HandS.ForMost
import HandS.IsInst
import HandS.TupMul
import HandS.TupAny
import HandS.Exc
import HandS.ExcOwn
import HandS.ExcInit
import HandS.ExcField
import HandS.TryOnly
import HandS.WordsExc
import HandS.EndBits
import HandS.CallSlots
import HandS.Deep
import HandS.Style
import HandS.SortRule
import PyProof.Rows.SortKeyStr
import PyProof.EqKinds
import PyProof.Rows.IntBool
import HandS.Iter
import HandS.Zip
import PyProof.EnumMake
import PyProof.EnumIter
import PyProof.EnumFor
import PyProof.Draws
import KE.GoesMore
import HandS.TryMany
import HandS.ExcIs
import HandS.SetFor
import HandS.Strs
import HandS.Codes
import HandS.TupLe
import PySem.Challenge.RW_hourcards_k26_whole_kinds_or_a_bad_place
set_option Elab.async false
set_option linter.all false
set_option maxRecDepth 100000
set_option maxHeartbeats 4000000
namespace Hc
open PySem L2
/-- things, as far as they are looked into -/
inductive D where
  | non | bl (b : Bool) | int (i : Int) | str (s : Str) | tup (xs : List D) | lst | dct
def tyOf : D → String
  | .non => "NoneType" | .bl _ => "bool" | .int _ => "int" | .str _ => "str" | .tup _ => "tuple" | .lst => "list" | .dct => "dict"
section
variable (H : Hp) (h : Addr)
mutual
/-- v is the thing d, in the heap H, apart from the list at h -/
inductive Rp : V → D → Prop
  | non : Rp .non .non
  | bl (b : Bool) : Rp (.bl b) (.bl b)
  | int (i : Int) : Rp (.int i) (.int i)
  | str (x : Str) : Rp (.str x) (.str x)
  | tup {a : Addr} {xs : List V} {ds : List D} : H a = some (.tup xs) → xs.length ≤ 100000 → RpA xs ds → Rp (.ref a) (.tup ds)
  | lst {a : Addr} {xs : List V} : H a = some (.lst xs) → a ≠ h → Rp (.ref a) .lst
  | dct {a : Addr} {kvs : List (Key × V)} : H a = some (.dK kvs) → Rp (.ref a) .dct
inductive RpA : List V → List D → Prop
  | nil : RpA [] []
  | cons {v : V} {vs : List V} {d : D} {ds : List D} : Rp v d → RpA vs ds → RpA (v :: vs) (d :: ds)
end
end
/-- all but what stands at h is as it was -/
def But (h : Addr) (H H' : Hp) : Prop := ∀ b o, H b = some o → b ≠ h → H' b = some o
theorem But.refl (h : Addr) (H : Hp) : But h H H := fun _ _ e _ => e
theorem But.trans {h : Addr} {H H1 H2 : Hp} (a : But h H H1) (b : But h H1 H2) : But h H H2 := fun c o e n => b c o (a c o e n) n
theorem But.of {h : Addr} {H H' : Hp} (s : Same H H') : But h H H' := fun b o e _ => s b o e
theorem But.free {h : Addr} {H H' : Hp} (k : But h H H') {l : Addr} (hl : l ≠ h) (e : H' l = none) : H l = none := by
  cases q : H l with
  | none => rfl
  | some o => rw [k l o q hl] at e; cases e
theorem same_upd {H : Hp} {p : Addr} {o : HO} (hp : H p = none) : Same H (upd H p o) := fun b u e => by
  rw [upd_ne (ne_of_none e hp)]; exact e
theorem but_upd {H : Hp} {h : Addr} {o : HO} : But h H (upd H h o) := fun b u e n => by
  rw [upd_ne n]; exact e
def IsLst (H : Hp) (h : Addr) : Prop := ∃ xs, H h = some (.lst xs)
section
variable {H H' : Hp} {h : Addr}
mutual
theorem Rp.mono (l : IsLst H h) (k : But h H H') : ∀ {v : V} {d : D}, Rp H h v d → Rp H' h v d
  | _, _, .non => .non
  | _, _, .bl b => .bl b
  | _, _, .int i => .int i
  | _, _, .str x => .str x
  | _, _, .tup e z r => .tup (k _ _ e (by obtain ⟨zs, q⟩ := l; exact ne_of e q (by intro z; cases z))) z (RpA.mono l k r)
  | _, _, .lst e n => .lst (k _ _ e n) n
  | _, _, .dct e => .dct (k _ _ e (by obtain ⟨zs, q⟩ := l; exact ne_of e q (by intro z; cases z)))
theorem RpA.mono (l : IsLst H h) (k : But h H H') : ∀ {vs : List V} {ds : List D}, RpA H h vs ds → RpA H' h vs ds
  | _, _, .nil => .nil
  | _, _, .cons a r => .cons (Rp.mono l k a) (RpA.mono l k r)
end
mutual
theorem Rp.same (k : Same H H') : ∀ {v : V} {d : D}, Rp H h v d → Rp H' h v d
  | _, _, .non => .non
  | _, _, .bl b => .bl b
  | _, _, .int i => .int i
  | _, _, .str x => .str x
  | _, _, .tup e z r => .tup (k _ _ e) z (RpA.same k r)
  | _, _, .lst e n => .lst (k _ _ e) n
  | _, _, .dct e => .dct (k _ _ e)
theorem RpA.same (k : Same H H') : ∀ {vs : List V} {ds : List D}, RpA H h vs ds → RpA H' h vs ds
  | _, _, .nil => .nil
  | _, _, .cons a r => .cons (Rp.same k a) (RpA.same k r)
end
theorem RpA.len : ∀ {vs : List V} {ds : List D}, RpA H h vs ds → vs.length = ds.length
  | _, _, .nil => rfl
  | _, _, .cons a r => by rw [List.length_cons, List.length_cons, RpA.len r]
theorem RpA.get : ∀ {vs : List V} {ds : List D} {i : Nat} {v : V}, RpA H h vs ds → vs[i]? = some v → ∃ d, ds[i]? = some d ∧ Rp H h v d
  | _, _, i, _, .nil, e => by simp at e
  | _, _, 0, _, .cons a r, e => by simp at e; subst e; exact ⟨_, rfl, a⟩
  | _, _, i + 1, v, .cons a r, e => by
    obtain ⟨d, h1, h2⟩ := RpA.get (i := i) (v := v) r (by simpa using e)
    exact ⟨d, by simpa using h1, h2⟩
theorem RpA.app : ∀ {vs ws : List V} {ds es : List D}, RpA H h vs ds → RpA H h ws es → RpA H h (vs ++ ws) (ds ++ es)
  | _, _, _, _, .nil, s => s
  | _, _, _, _, .cons a r, s => .cons a (RpA.app r s)
theorem RpA.take : ∀ {vs : List V} {ds : List D} (n : Nat), RpA H h vs ds → RpA H h (vs.take n) (ds.take n)
  | _, _, 0, _ => .nil
  | _, _, _ + 1, .nil => .nil
  | _, _, n + 1, .cons a r => .cons a (RpA.take n r)
theorem RpA.drop : ∀ {vs : List V} {ds : List D} (n : Nat), RpA H h vs ds → RpA H h (vs.drop n) (ds.drop n)
  | _, _, 0, r => r
  | _, _, _ + 1, .nil => .nil
  | _, _, n + 1, .cons _ r => RpA.drop n r
/-- its type -/
theorem Rp.ty {K : PySem.W.Frag} {v : V} {d : D} (r : Rp H h v d) : TyX K H v (.type (tyOf d)) := by
  cases r with
  | non => exact .base .non
  | bl b => exact .base (.bl b)
  | int i => exact .base (.int i)
  | str x => exact .base (.str x)
  | tup e _ _ => exact .base (.tup e)
  | lst e _ => exact .base (.lst e)
  | dct e => exact .base (.dK e)
end
def isIB : D → Bool | .int _ => true | .bl _ => true | _ => false
def isB : D → Bool | .bl _ => true | _ => false
def isT : D → Bool | .tup _ => true | _ => false
theorem kitI (d : D) : kitB (tyOf d) "int" = some (isIB d) := by cases d <;> (simp only [tyOf, isIB]; decide +kernel)
theorem kitBo (d : D) : kitB (tyOf d) "bool" = some (isB d) := by cases d <;> (simp only [tyOf, isB]; decide +kernel)
theorem kitT (d : D) : kitB (tyOf d) "tuple" = some (isT d) := by cases d <;> (simp only [tyOf, isT]; decide +kernel)
def isInt : D → Bool | .int _ => true | _ => false
def isBtw (lo hi : Int) : D → Bool | .int i => decide (lo ≤ i) && decide (i ≤ hi) | _ => false
def areInts (n : Int) : D → Bool | .tup ds => decide ((ds.length : Int) = n) && ds.all isInt | _ => false
def areBtw (n lo hi : Int) : D → Bool | .tup ds => decide ((ds.length : Int) = n) && ds.all (isBtw lo hi) | _ => false
def neq2 : D → Bool | .tup (.int a :: .int b :: _) => !decide (a = b) | _ => false
def isBE (n : Int) (d : D) : Bool := areBtw 2 0 (n - 1) d && neq2 d
def areRoads (n : Int) : D → Bool | .tup ds => decide (1 ≤ ds.length) && decide (ds.length ≤ 24) && ds.all (isBE n) | _ => false
end Hc

set_option Elab.async false
set_option linter.all false
set_option maxRecDepth 100000
set_option maxHeartbeats 1000000
set_option autoImplicit false
namespace Pl
open PySem L2 PyProof.Rows
/-- Python's < of rows of ints -/
def lexI : List Int → List Int → Bool
  | [], [] => false
  | [], _ :: _ => true
  | _ :: _, [] => false
  | a :: as, b :: bs => if a = b then lexI as bs else decide (a < b)
theorem lexI_cons (a b : Int) (as bs : List Int) : lexI (a :: as) (b :: bs) = if a = b then lexI as bs else decide (a < b) := rfl
theorem lexI_asym : ∀ x y : List Int, lexI x y = true → lexI y x = false
  | [], [], h => by cases h
  | [], _ :: _, _ => rfl
  | _ :: _, [], h => by cases h
  | a :: as, b :: bs, h => by
    rw [lexI_cons] at h ⊢
    by_cases e : a = b
    · rw [if_pos e] at h
      rw [if_pos e.symm]
      exact lexI_asym as bs h
    · rw [if_neg e] at h
      rw [if_neg (Ne.symm e)]
      have := of_decide_eq_true h
      exact decide_eq_false (by omega)
theorem lexI_tr : ∀ x y z : List Int, lexI y x = false → lexI z y = false → lexI z x = false
  | [], _, [], _, _ => rfl
  | [], [], _ :: _, _, _ => rfl
  | [], _ :: _, _ :: _, _, _ => rfl
  | _ :: _, [], _, h, _ => by cases h
  | _ :: _, _ :: _, [], _, h => by cases h
  | a :: as, b :: bs, c :: cs, h1, h2 => by
    rw [lexI_cons] at h1 h2 ⊢
    by_cases e1 : b = a
    · rw [if_pos e1] at h1
      by_cases e2 : c = b
      · rw [if_pos e2] at h2
        rw [if_pos (e2.trans e1)]
        exact lexI_tr as bs cs h1 h2
      · rw [if_neg e2] at h2
        have := of_decide_eq_false h2
        rw [if_neg (by omega)]
        exact decide_eq_false (by omega)
    · rw [if_neg e1] at h1
      have q1 := of_decide_eq_false h1
      by_cases e2 : c = b
      · rw [if_neg (by omega)]
        exact decide_eq_false (by omega)
      · rw [if_neg e2] at h2
        have q2 := of_decide_eq_false h2
        rw [if_neg (by omega)]
        exact decide_eq_false (by omega)
theorem swo {α : Type} (k : α → List Int) : SrtO.Swo fun v u => lexI (k v) (k u) := ⟨fun x y => lexI_asym _ _, fun x y z => lexI_tr _ _ _⟩
/-- .. where one of them ends the answer is fin -/
def lexF (fin : Bool) : List Int → List Int → Bool
  | a :: as, b :: bs => if a = b then lexF fin as bs else decide (a < b)
  | _, _ => fin
theorem lexF_eq : ∀ (x y : List Int), lexF (decide (x.length < y.length)) x y = lexI x y
  | [], [] => rfl
  | [], _ :: _ => by show decide (0 < _ + 1) = true; exact decide_eq_true (Nat.succ_pos _)
  | _ :: _, [] => by show decide (_ + 1 < 0) = false; exact decide_eq_false (Nat.not_lt_zero _)
  | a :: as, b :: bs => by
    have ih := lexF_eq as bs
    rw [lexI_cons, ← ih]
    show (if a = b then lexF (decide (as.length + 1 < bs.length + 1)) as bs else decide (a < b)) = _
    have : decide (as.length + 1 < bs.length + 1) = decide (as.length < bs.length) := by
      by_cases h : as.length < bs.length
      · rw [decide_eq_true h, decide_eq_true (by omega)]
      · rw [decide_eq_false h, decide_eq_false (by omega)]
    rw [this]
/-- the word that stands for 0, the one for 1 -/
def kd (n : Int) : Str := if n = 0 then "fork" else "row"
theorem kd0 : kd 0 = "fork" := rfl
theorem kd1 : kd 1 = "row" := rfl
def Wd (n : Int) : Prop := n = 0 ∨ n = 1
theorem kd_eq {n m : Int} (h1 : Wd n) (h2 : Wd m) : (kd n == kd m) = decide (n = m) := by
  rcases h1 with rfl | rfl <;> rcases h2 with rfl | rfl <;> decide +kernel
theorem kd_lt {n m : Int} (h1 : Wd n) (h2 : Wd m) : decide ((kd n).cps.toList < (kd m).cps.toList) = decide (n < m) := by
  rcases h1 with rfl | rfl <;> rcases h2 with rfl | rfl <;> decide +kernel
section
variable {prog : Program} {w : World} {A : Around} {E : Value → Shared → Prop} {s : Shared}
/-- at v a tuple of a word and ints -/
def IsPl (h : Heap) (v : Value) (p : List Int) : Prop := ∃ a o t us n n0 ns, v = .ref a ∧ h.get? a = some o ∧ o.cls = .type "tuple" ∧ o.data = .seq (Value.str (kd n0) t :: us).toArray n ∧ p = n0 :: ns ∧ Wd n0 ∧ Vals (ns.map V.int) us
theorem IsPl.keeps {h h' : Heap} {v : Value} {p : List Int} (x : IsPl h v p) (k : ∀ b o, h.get? b = some o → o.cls = .type "tuple" → h'.get? b = some o) : IsPl h' v p := by
  obtain ⟨a, o, t, us, n, n0, ns, e, ho, hc, hd⟩ := x
  exact ⟨a, o, t, us, n, n0, ns, e, k _ _ ho hc, hc, hd⟩
theorem lex_go {b fin : Bool} {Q : Bool → Shared → Prop} : ∀ (ns ms : List Int) (us vs : List Value) (i : Nat), Vals (ns.map V.int) us → Vals (ms.map V.int) vs → Q (lexF fin ns ms) s → PySem.W.KatLex prog w A b fin Q (us.zip vs) i s
  | [], _, _, _, i, .nil, _, h => PySem.W.kat_nil (i := i) h
  | _ :: _, [], _, _, i, .cons _ _, .nil, h => PySem.W.kat_nil (i := i) h
  | n :: ns, m :: ms, _, _, i, .cons r1 q1, .cons r2 q2, h => by
    obtain ⟨t1, rfl⟩ := r1
    obtain ⟨t2, rfl⟩ := r2
    have h : Q (if n = m then lexF fin ns ms else decide (n < m)) s := h
    refine PySem.W.kat_cons (SeqAt.EqAt.int_int n t1 m t2 prog w _ _ ?_)
    refine PySem.W.kat_go (fun e1 => ?_) (fun e1 => ?_)
    · have ex : n = m := by simpa using e1
      rw [if_pos ex] at h
      exact PySem.W.kat_yes (lex_go ns ms _ _ (i + 1) q1 q2 h)
    · have ex : ¬ n = m := by simpa using e1
      rw [if_neg ex] at h
      exact PySem.W.kat_no (TS.oneLt_ints _ h)
theorem pl_cmp {vs : List Value} {k : Value → List Int} (hp : ∀ v ∈ vs, IsPl s.heap v (k v)) : SrtO.Cmp prog w A s (tuples' true) (fun p => p.1 ∈ vs) (SrtO.lt2 fun v u => lexI (k v) (k u)) := by
  intro p q hm hm'
  have h1 := hp _ hm
  have h2 := hp _ hm'
  show wpAny (model prog w) A (keyLt' (tuples' true) p.1 q.1) (fun r s' => s' = s ∧ r = lexI (k p.1) (k q.1)) (fun _ _ => False) s
  obtain ⟨a, o, t, us, n, n0, ns, e, ho, hc, hd, ek, w1, r1⟩ := h1
  obtain ⟨a', o', t', us', n', m0, ms, e', ho', hc', hd', ek', w2, r2⟩ := h2
  rw [ek, ek', e, e']
  refine PySem.W.kat_lt ho hd ho' hd' ?_
  have l1 := r1.length
  have l2 := r2.length
  rw [List.length_map] at l1 l2
  have fin : decide ((Value.str (kd n0) t :: us).toArray.size < (Value.str (kd m0) t' :: us').toArray.size) = decide (ns.length < ms.length) := by
    simp only [List.size_toArray, List.length_cons]
    by_cases h : ns.length < ms.length
    · rw [decide_eq_true h, decide_eq_true (by omega)]
    · rw [decide_eq_false h, decide_eq_false (by omega)]
  rw [fin]
  show PySem.W.KatLex prog w A true _ _ ((Value.str (kd n0) t, Value.str (kd m0) t') :: us.zip us') 0 s
  refine PySem.W.kat_cons (SeqAt.EqAt.str_str (kd n0) t (kd m0) t' prog w _ _ ?_)
  rw [kd_eq w1 w2]
  refine PySem.W.kat_go (fun e1 => ?_) (fun e1 => ?_)
  · have ex : n0 = m0 := of_decide_eq_true e1
    refine PySem.W.kat_yes (lex_go ns ms _ _ _ r1 r2 ⟨rfl, ?_⟩)
    rw [lexF_eq, lexI_cons, if_pos ex]
  · have ex : ¬ n0 = m0 := of_decide_eq_false e1
    refine PySem.W.kat_no (oneLt_str ⟨rfl, ?_⟩)
    rw [kd_lt w1 w2, lexI_cons, if_neg ex]
theorem firsts_of {h : Heap} : ∀ {vs : List Value}, (∀ v ∈ vs, ∃ p, IsPl h v p) → ∃ fs : List Value, PySem.W.KatTups h vs fs ∧ fs.length = vs.length ∧ ∀ f ∈ fs, ∃ x t, f = Value.str x t
  | [], _ => ⟨[], PySem.W.KatTups.nil, rfl, fun _ hm => by simp at hm⟩
  | v :: vs, hp => by
    obtain ⟨fs, h1, h2, h3⟩ := firsts_of (vs := vs) fun v' hm => hp v' (List.mem_cons_of_mem _ hm)
    obtain ⟨p, a, o, t, us, n, n0, ns, e, ho, hc, hd, _⟩ := hp v (List.mem_cons_self ..)
    subst e
    refine ⟨.str (kd n0) t :: fs, PySem.W.KatTups.cons ho hc hd rfl h1, by rw [List.length_cons, List.length_cons, h2], fun f hm => ?_⟩
    rcases List.mem_cons.mp hm with rfl | hm
    · exact ⟨_, t, rfl⟩
    · exact h3 f hm
theorem sortable {a : Addr} {vs : List Value} {k : Value → List Int} (h0 : 0 < vs.length) (hp : ∀ v ∈ vs, IsPl s.heap v (k v)) (ha : ∀ o, s.heap.get? a = some o → o.cls ≠ .type "tuple") : SrtO.SortableO prog w A s a vs fun v u => lexI (k v) (k u) := by
  intro h' keep
  have hp' : ∀ v ∈ vs, IsPl h' v (k v) := fun v hm => (hp v hm).keeps fun b o e c => keep b o (fun z => by subst z; exact ha o e c) e
  obtain ⟨fs, h1, h2, h3⟩ := firsts_of fun v hm => ⟨_, hp' v hm⟩
  refine ⟨tuples' true, fun Q E hq => ?_, pl_cmp hp'⟩
  refine PySem.W.kat_kind (T := .type "str") h1 (by omega) (fun f hm => ?_) (by rfl) ?_
  · obtain ⟨x, t, rfl⟩ := h3 f hm
    exact PySem.W.Looks.now
  · have e : (Value.type "str" != Value.type "tuple") = true := by first | decide +kernel | rfl | decide
    rw [e]
    exact hq
theorem sorted_pl {l : Addr} {vs : List Value} {k : Value → List Int} {Q : Value → Shared → Prop} (hl : s.heap.IsList l vs.toArray) (hz : vs.length ≤ sizeLine) (hp : ∀ v ∈ vs, IsPl s.heap v (k v))
    (h : ∀ (h' : Heap) (d : Addr) (out : List Value), SrtO.Srtd (fun v u => lexI (k v) (k u)) out → SrtO.Stb (fun v u => lexI (k v) (k u)) out vs → (∀ b o, s.heap.get? b = some o → h'.get? b = some o) → s.heap.objs.size ≤ d → (∃ n, h'.get? d = some (seqObj "list" out.toArray n)) → Q (.ref d) { s with heap := h' }) :
    wpAny (model prog w) A (call (.builtin "sorted") [.ref l]) Q E s := by
  refine SrtO.sorted_ord (swo k) hl hz (fun h2 h₁ a ha kk => ?_) fun out hs hb => ?_
  · refine sortable (s := { s with heap := h₁ }) (by omega) (fun v hm => (hp v hm).keeps fun b o e _ => (kk b o e).2) fun o e => ?_
    have e' : some o = some (seqObj "list" vs.toArray 0) := e.symm.trans ha
    cases e'
    intro c
    exact absurd (Value.type.inj c) (by decide)
  · exact h _ _ out hs hb (fun b o e => sortedAll_old e) (Nat.le_succ _) (sortedAll_at s.heap vs out.toArray)
end
end Pl
namespace L2
open PySem PySem.Spec PyProof.Rows
/-- at x a tuple of a word and ints, in the heap -/
def PlV (H : Hp) (x : V) (p : List Int) : Prop := ∃ t n0 ns, x = V.ref t ∧ H t = some (.tup (.str (Pl.kd n0) :: ns.map V.int)) ∧ p = n0 :: ns ∧ Pl.Wd n0
/-- sorted(xs), xs a list of such tuples -/
def rSortedPl (K : PySem.W.Frag) : List V → Hp → VK → Prop := fun vs H Q => ∃ (a : Addr) (xs : List V) (k : V → List Int), vs = [V.ref a] ∧ SqL K H a xs ∧ (∀ x ∈ xs, PlV H x (k x)) ∧
  ∀ ys p, SrtO.Srtd (fun x y => Pl.lexI (k x) (k y)) ys → SrtO.Stb (fun x y => Pl.lexI (k x) (k y)) ys xs → H p = none → Q (.ref p) (upd H p (.lst ys))
section
variable {X : Cx}
theorem cr_sortedPl : CallR X (.builtin "sorted") (rSortedPl X.K) := by
  intro pins s σ H vs us Q I r h
  obtain ⟨a, xs, k, rfl, hs, hx, q⟩ := h
  obtain ⟨its, rv, hl, hz⟩ := I.list hs
  obtain ⟨u, rfl, ru⟩ := vals1 r
  obtain rfl : u = Value.ref a := ru
  obtain ⟨e1, e2⟩ := refs_back rv fun x m => by
    obtain ⟨t, _, _, e, _⟩ := hx x m
    exact ⟨t, e⟩
  refine Pl.sorted_pl (k := fun u => k (backV u)) hl.isList (by rw [← rv.length]; exact hz) (fun v hv => ?_) fun h' d out h1 h2 kp hd hn => ?_
  · obtain ⟨t, rfl⟩ := e2 v hv
    have hm : V.ref t ∈ xs := by rw [e1]; exact List.mem_map.mpr ⟨_, hv, rfl⟩
    obtain ⟨t', n0, ns, e, ht, ek, w0⟩ := hx _ hm
    cases e
    obtain ⟨_, its2, r2, o, ho, hc, n, hd⟩ := I.hok _ _ ht
    cases r2 with
    | cons ri rj =>
      obtain ⟨t1, rfl⟩ := ri
      exact ⟨t, o, t1, _, n, n0, ns, rfl, ho, hc, hd, ek, w0, rj⟩
  · have h3 : ∀ u ∈ out, ∃ a, u = Value.ref a := fun u hu => e2 u (h2.perm.mem_iff.mp hu)
    obtain ⟨n, hn⟩ := hn
    have hb : SrtO.Stb (fun x y => Pl.lexI (k x) (k y)) (out.map backV) xs := by
      rw [e1]
      exact SrtO.Stb.map (Pl.swo k) backV h2
    refine ⟨.ref d, upd H d (.lst (out.map backV)), I.laid (t' := s.toks) kp hd ⟨?_, out, n, vals_back h3, hn⟩, rfl, q _ d (SrtO.srtd_map h1) hb (I.hok.fresh hd)⟩
    rw [hb.len]
    exact hz
end
end L2

set_option Elab.async false
set_option linter.all false
set_option maxRecDepth 100000
set_option maxHeartbeats 4000000
namespace L2
open PySem PySem.Spec PyProof.Rows
/-- x - j, x an int or a bool -/
def rSubA : R2 := fun x y H Q => (∃ i j, x = .int i ∧ y = .int j ∧ Q (.int (i - j)) H) ∨ ∃ b j, x = .bl b ∧ y = .int j ∧ Q (.int ((if b = true then (1 : Int) else 0) - j)) H
theorem op_subA {X : Cx} : OpR X (binaryOp .Sub) rSubA := by
  intro pins s σ H x y v u Q I rx ry h
  rcases h with ⟨i, j, rfl, rfl, q⟩ | ⟨b, j, rfl, rfl, q⟩
  · exact op_sub pins s σ H _ _ v u Q I rx ry ⟨i, j, rfl, rfl, q⟩
  · cases rx
    obtain ⟨t, rfl⟩ := ry
    exact PySem.IntBool.sub_bool_int ⟨.int _, H, I.tok _, ⟨_, rfl⟩, q⟩
/-- t * 1 is t -/
theorem tuple_mul1 (l : Addr) (items : Array Value) (n : Nat) (dd : Option Addr) (sl : Array (Option Value)) (u : Tok) :
    Meets (Builtin.«tuple.__mul__» ⟨[.ref l, .int 1 u], []⟩) (fun _ R s => s.heap.get? l = some { cls := .type "tuple", dict := dd, data := .seq items n, slots := sl } ∧
      R (.ok (.ret (Value.ref l))) s) :=
  .of_wp fun prog w A R s h => by
    obtain ⟨hp, g, d, tk, os⟩ := s
    obtain ⟨hl, h⟩ := h
    have f1 := AutoSeq1.idx_int
    have c0 : (decide ((1 : Int) < -(2 ^ 63)) || decide ((1 : Int) ≥ 2 ^ 63)) = false := by decide
    have c1 : (items.isEmpty || ((1 : Int) == 1)) = true := by rw [Bool.or_eq_true]; exact .inr rfl
    wp_walk using wpAny_loadPart' hl
    repeat (first
      | (refine wpAny_ite_false (decide_eq_false (by rw [c0]; exact Bool.false_ne_true)) ?_; wp_walk using wpAny_loadPart' hl)
      | (refine wpAny_ite_true (decide_eq_true c1) ?_; wp_walk using wpAny_loadPart' hl))
    exact ⟨_, rfl, h⟩
def rRepA (K : PySem.W.Frag) : R2 := fun x y H Q => ∃ l k xs, x = .ref l ∧ y = .int k ∧ SqT K H l xs ∧ xs ≠ [] ∧ 1 ≤ k ∧ k ≤ 1000 ∧ xs.length ≤ 1000 ∧
  (k = 1 → Q (.ref l) H) ∧ (2 ≤ k → ∀ p, H p = none → Q (.ref p) (upd H p (.tup (List.replicate k.toNat xs).flatten)))
theorem op_repA {X : Cx} : OpR X (binaryOp .Mult) (rRepA X.K) := by
  intro pins s σ H x y v u Q I rx ry h
  obtain ⟨l, k, xs, rfl, rfl, hT, hne, h1, h2, hz, q1, q2⟩ := h
  by_cases h3 : 2 ≤ k
  · exact op_repT pins s σ H _ _ v u Q I rx ry ⟨l, k, xs, rfl, rfl, hT, hne, h3, h2, hz, q2 h3⟩
  · obtain rfl : k = 1 := by omega
    cases rx
    obtain ⟨t, rfl⟩ := ry
    obtain ⟨its, r, ⟨⟨cls, dd, data, sl⟩, ho, hc, n, hd⟩, hs⟩ := I.tuple hT
    simp only at hc hd
    subst hc hd
    exact wpAny_binaryOp_repeat_ref (T := "tuple") (U := "int") (by decide) ⟨_, ho, rfl⟩ (fun s' => typeIs_int s' 1 t) noFill_tuple_mul F.fills_int_mul F.slot_int_rmul repeat_tuple F.slot_int_index.lookup
      (call_meets F.slot_int_rmul (typeIs_int s 1 t) F.entry_int_rmul (F.args_int_rmul_2 _ _) (int_rmul_tuple 1 t l its.toArray n dd sl)
        ⟨ho, rfl, ⟨_, ho, rfl⟩, call_meets F.slot_tuple_mul ⟨_, ho, rfl⟩ F.entry_tuple_mul (F.args_tuple_mul_2 _ _) (tuple_mul1 l its.toArray n dd sl t) ⟨ho, ⟨.ref l, H, I, rfl, q1 rfl⟩⟩⟩)
/-- C(e, ..) where what is raised is wished for at the caller's slots -/
def tMakeS (C : Addr) (sp : Sp) (dvs : List V) (E : St → XK) (t : TA) : TE := fun σ H Q => t σ H fun vs H1 => ∀ x dx, H1 x = none → H1 dx = none → dx ≠ x →
  sp (.ref x :: (vs ++ dvs)) (upd (upd H1 dx (.own x)) x (.ins C dx [])) (fun v H2 => v = .non ∧ Q (.ref x) H2) (E σ)
section
variable {X : Cx} {CX : CXT} {k : Nat} {f C : Addr} {fd : FuncData} {ps : List Str} {sp : Sp} {dvs : List V} {ds : List Value} {E : St → XK} {x m : Str} {p pos apos : Pos} {e o : Expr} {es : List Expr} {ta : TE} {t : TA}
theorem pe_makeS (M : Mk X.K C f) (F : FnOk X.prog X.w X.K X.mg X.base CX k f fd ps sp) (hr : Room (k + 1) X.A) (hg : Gl X x) (hm : X.mg x = some (.ref C)) (hb : Binds X.K fd ps ds) (hd : Vals dvs ds) (hx : ∀ σ, PassesAt CX X σ (E σ))
    (ha : PA X (e :: es) t) (hdb : (x == ("__debug__" : Str)) = false := by decide) (he : starEach (e :: es) X.env = (false, eval e X.env) :: starEach es X.env := by rfl) (hpl : (backTo pos (starEach es X.env)).any (·.1) = false := by rfl) :
    PE X (.Call (.Name x p) (e :: es) [] pos) (tMakeS C sp dvs E t) := by
  refine ⟨fun pins s0 σ H0 Q I0 h0 => ?_⟩
  refine wpAny_Call_Name_kw (ld_glob I0 hg hm ?_ hdb)
  refine PySem.W.callWith_K (h₀ := X.base) I0.ok.mod.kin M.kp (thn (ha.run pos pins s0 σ H0 _ I0 h0) fun us s ⟨vs, H, I, r, h⟩ => ⟨I.kIn, ?_⟩) he hpl
  have hq := h (s.heap.objs.size + 1) s.heap.objs.size (I.hok.fresh (Nat.le_succ _)) (I.hok.fresh (Nat.le_refl _)) (Nat.ne_of_lt (Nat.lt_succ_self _))
  have I2 := Inv.made (C := C) I
  have r2 : Vals (V.ref (s.heap.objs.size + 1) :: (vs ++ dvs)) (Value.ref (s.heap.objs.size + 1) :: (us ++ ds)) := .cons rfl (r.append hd)
  have hl : (Value.ref (s.heap.objs.size + 1) :: us ++ ds).length = ps.length := by
    have e := r2.length
    rw [F.len _ _ _ _ hq] at e
    exact e.symm
  refine wpAny_call (make_map (f := f) I.kIn M.makes M.init (beq_iff_eq.mp M.fn) (codeAny_mono (F.run _ X.stack _ _ ⟨Value.ref (s.heap.objs.size + 1) :: us, []⟩ (Value.ref (s.heap.objs.size + 1) :: (us ++ ds)) _ _ (E σ) (hr.make C us [])
    (I2.env0.make C us []) (hb _ (Value.ref (s.heap.objs.size + 1) :: us) I2.kIn hl) r2 hq) fun r s' hq' => ?_))
  cases r with
  | error e => exact hx σ pins _ _ e s' I2 hq'
  | ok fl =>
    cases fl with
    | ret u =>
      obtain ⟨v, H', I3, rv, ev, q3⟩ := I2.after hq'
      subst ev
      exact ⟨rv, ⟨V.ref (s.heap.objs.size + 1), H', I3, rfl, q3⟩⟩
    | next => exact False.elim hq'
    | brk => exact False.elim hq'
    | cont => exact False.elim hq'
end
end L2
/-! ### Hc -/
namespace Hc
open PySem L2
theorem line_lt {n : Nat} (h : n ≤ 100000) : n < sizeLine := by rw [sizeLine_eq]; omega
theorem line_le {n : Nat} (h : n ≤ 100000) : n ≤ sizeLine := by rw [sizeLine_eq]; omega
theorem take_more {α : Type} : ∀ {l : List α} {i : Nat} {x : α}, l[i]? = some x → l.take (i + 1) = l.take i ++ [x]
  | [], i, x, h => by simp at h
  | a :: l, 0, x, h => by
    have e : a = x := Option.some.inj h
    subst e
    rfl
  | a :: l, i + 1, x, h => by
    have ih := take_more (l := l) (i := i) (x := x) h
    show a :: l.take (i + 1) = a :: l.take i ++ [x]
    rw [ih]
    rfl
/-- [p(x) for x in t]: the list of the answers -/
theorem all_tup {K : PySem.W.Frag} {H : Hp} {h a A : Addr} {xs : List V} {ds : List D} {j : Nat} {te : TE} {σ : St} {vs : List Nat} {Qd : Hp → Prop}
    (e : H a = some (.tup xs)) (z : xs.length ≤ 100000) (ra : RpA H h xs ds) (p : D → Bool) (hA : H A = none)
    (hw : ∀ x, wipe ((wipe σ vs).set j (some x)) vs = wipe σ vs)
    (hs : ∀ x d H' (Q : VK), d ∈ ds → Same H H' → Rp H' h x d → (∀ H4, Same H' H4 → Q (.bl (p d)) H4) → te ((wipe σ vs).set j (some x)) H' Q)
    (hd : ∀ H', Same H H' → SqL K H' A ((ds.map p).map V.bl) → Qd H') :
    ∃ W : Nat → Nat → Hp → Prop, (∃ m, W 0 m (upd H A (.lst []))) ∧ ∀ i m H, W i m H →
      ((Itt K a).stop i H ∧ Qd H) ∨ ((Itt K a).go i H ∧ ∃ Nx : Hp → Prop, (∀ H', Nx H' → ∃ m', m' < m ∧ W (i + 1) m' H') ∧ ∀ x H', (Itt K a).yld i H x H' → (gName j) x (wipe σ vs) H' fun σ2 H2 => wipe σ2 vs = wipe σ vs ∧ tYes σ2 H2 fun b H3 =>
        if b = true then te σ2 H3 fun y H4 => ∃ acc, H4 A = some (.lst acc) ∧ acc.length < sizeLine ∧ Nx (upd H4 A (.lst (acc ++ [y]))) else Nx H3) := by
  have hl := ra.len
  refine lc_tup (K := K) (xs := xs) (fun i H' => Same H (fun b => if b = A then none else H' b) ∧ H' A = some (.lst (((ds.take i).map p).map V.bl)))
    ⟨fun b o q => ?_, upd_same⟩ (fun i H' hi ⟨s, _⟩ => ?_) ?_ ?_
  · have n := ne_of_none q hA
    show (if b = A then none else upd H A _ b) = _
    rw [if_neg n, upd_ne n]; exact q
  · have q := s _ _ e
    have n := ne_of_none e hA
    simp only [if_neg n] at q
    exact SqT.of q
  · intro i x H' hx ⟨s, hH⟩
    have sm : Same H H' := fun b o q => by
      have r := s b o q
      simp only [if_neg (ne_of_none q hA)] at r
      exact r
    obtain ⟨d, hd1, rp⟩ := ra.get hx
    have hi : i < xs.length := (List.getElem?_eq_some_iff.mp hx).1
    refine ⟨hw x, ?_⟩
    unfold tYes
    show (if true = true then te _ _ _ else _)
    rw [if_pos rfl]
    refine hs x d H' _ (List.mem_of_getElem? hd1) sm (rp.same sm) fun H4 s4 => ⟨_, s4 _ _ hH, ?_, ?_, ?_⟩
    · rw [List.length_map, List.length_map, List.length_take]
      exact line_lt (by omega)
    · intro b o q
      have n := ne_of_none q hA
      show (if b = A then none else upd H4 A _ b) = _
      rw [if_neg n, upd_ne n]
      exact s4 _ _ (sm _ _ q)
    · rw [upd_same, take_more hd1, List.map_append, List.map_append]; rfl
  · intro H' ⟨s, hH⟩
    have sm : Same H H' := fun b o q => by
      have r := s b o q
      simp only [if_neg (ne_of_none q hA)] at r
      exact r
    rw [hl, List.take_length] at hH
    exact hd H' sm (SqL.of hH)
/-- [x for x in t if not p(x)]: as many as are none -/
theorem none_tup {K : PySem.W.Frag} {H : Hp} {h a A : Addr} {xs : List V} {ds : List D} {j : Nat} {te : TE} {tt : TT} {σ : St} {vs : List Nat} {Qd : Hp → Prop}
    (e : H a = some (.tup xs)) (z : xs.length ≤ 100000) (ra : RpA H h xs ds) (p : D → Bool) (hA : H A = none)
    (hw : ∀ x, wipe ((wipe σ vs).set j (some x)) vs = wipe σ vs)
    (hs : ∀ x d H' (Q : Bool → Hp → Prop), d ∈ ds → Same H H' → Rp H' h x d → (∀ H4, Same H' H4 → Q (!p d) H4) → tt ((wipe σ vs).set j (some x)) H' Q)
    (ht : ∀ x H' (Q : VK), Same H H' → (∀ y, Q y H') → te ((wipe σ vs).set j (some x)) H' Q)
    (hd : ∀ H' acc, Same H H' → SqL K H' A acc → acc.length ≤ 100000 → (acc.length = 0 ↔ ds.all p = true) → Qd H') :
    ∃ W : Nat → Nat → Hp → Prop, (∃ m, W 0 m (upd H A (.lst []))) ∧ ∀ i m H, W i m H →
      ((Itt K a).stop i H ∧ Qd H) ∨ ((Itt K a).go i H ∧ ∃ Nx : Hp → Prop, (∀ H', Nx H' → ∃ m', m' < m ∧ W (i + 1) m' H') ∧ ∀ x H', (Itt K a).yld i H x H' → (gName j) x (wipe σ vs) H' fun σ2 H2 => wipe σ2 vs = wipe σ vs ∧ tt σ2 H2 fun b H3 =>
        if b = true then te σ2 H3 fun y H4 => ∃ acc, H4 A = some (.lst acc) ∧ acc.length < sizeLine ∧ Nx (upd H4 A (.lst (acc ++ [y]))) else Nx H3) := by
  have hl := ra.len
  refine lc_tup (K := K) (xs := xs) (fun i H' => Same H (fun b => if b = A then none else H' b) ∧ ∃ acc, H' A = some (.lst acc) ∧ acc.length ≤ i ∧ (acc.length = 0 ↔ (ds.take i).all p = true))
    ⟨fun b o q => ?_, [], upd_same, Nat.le_refl _, by simp⟩ (fun i H' hi ⟨s, _⟩ => ?_) ?_ ?_
  · have n := ne_of_none q hA
    show (if b = A then none else upd H A _ b) = _
    rw [if_neg n, upd_ne n]; exact q
  · have q := s _ _ e
    have n := ne_of_none e hA
    simp only [if_neg n] at q
    exact SqT.of q
  · intro i x H' hx ⟨s, acc, hH, h1, h2⟩
    have sm : Same H H' := fun b o q => by
      have r := s b o q
      simp only [if_neg (ne_of_none q hA)] at r
      exact r
    obtain ⟨d, hd1, rp⟩ := ra.get hx
    have hi : i < xs.length := (List.getElem?_eq_some_iff.mp hx).1
    refine ⟨hw x, hs x d H' _ (List.mem_of_getElem? hd1) sm (rp.same sm) fun H4 s4 => ?_⟩
    cases hp : p d with
    | false =>
      rw [if_pos (by decide)]
      refine ht x H4 _ (fun b o q => s4 _ _ (sm _ _ q)) fun y => ⟨_, s4 _ _ hH, line_lt (by omega), fun b o q => ?_, _, upd_same, ?_, ?_⟩
      · have n := ne_of_none q hA
        show (if b = A then none else upd H4 A _ b) = _
        rw [if_neg n, upd_ne n]
        exact s4 _ _ (sm _ _ q)
      · rw [List.length_append, List.length_singleton]; omega
      · rw [List.length_append, List.length_singleton, take_more hd1, List.all_append]
        simp [hp]
    | true =>
      rw [if_neg (by decide)]
      refine ⟨fun b o q => ?_, acc, s4 _ _ hH, by omega, ?_⟩
      · have n := ne_of_none q hA
        show (if b = A then none else H4 b) = _
        rw [if_neg n]
        exact s4 _ _ (sm _ _ q)
      · rw [take_more hd1, List.all_append, h2]
        simp [hp]
  · intro H' ⟨s, acc, hH, h1, h2⟩
    have sm : Same H H' := fun b o q => by
      have r := s b o q
      simp only [if_neg (ne_of_none q hA)] at r
      exact r
    rw [hl, List.take_length] at h2
    exact hd H' acc sm (SqL.of hH) (by omega) h2
end Hc

set_option Elab.async false
set_option linter.all false
set_option maxRecDepth 100000
set_option maxHeartbeats 4000000
set_option autoImplicit false
namespace PySem
open Sem (wp)
open AutoSeq1 (wpAny_loadPart')
theorem meets_enumerate_newT (l : Addr) (items : Array Value) (n : Nat) (dct : Option Addr) (sl : Array (Option Value)) :
    Meets (Builtin.«enumerate.__new__» ⟨[.type "enumerate", .ref l], []⟩) (fun _ R s => s.heap.get? l = some { cls := .type "tuple", dict := dct, data := .seq items n, slots := sl } ∧
      R (.ok (.ret (.ref (s.heap.push { cls := .type "tuple_iterator", data := .fields #[.ref l, .int 0 0] }).objs.size)))
        { s with heap := (s.heap.push { cls := .type "tuple_iterator", data := .fields #[.ref l, .int 0 0] }).push { cls := .type "enumerate", data := .fields #[.none, .bool false, .ref s.heap.objs.size, rawInt 0, .none, .none] } }) :=
  .of_wp fun prog w A R s h => by
    obtain ⟨hp, g, d, tk, os⟩ := s; obtain ⟨hl, h⟩ := h
    have hsub := sub_enumerate
    have hL : Heap.IsTuple (Shared.heap ⟨hp, g, d, tk, os⟩) l items := ⟨_, hl, rfl, n, rfl⟩
    wp_walk using wpAny_loadPart' hl
    refine wpAny_stack_any fun st => wpAny_pure ?_
    split
    · rename_i c _ _ _ _ _
      cases (c == Value.type "enumerate")
      · wp_walk using wpAny_loadPart' hl, wpAny_pyIter_tuple hL
        exact ⟨_, rfl, h⟩
      · wp_walk using wpAny_loadPart' hl, wpAny_pyIter_tuple hL
        exact ⟨_, rfl, h⟩
    · wp_walk using wpAny_loadPart' hl, wpAny_pyIter_tuple hL
      exact ⟨_, rfl, h⟩
section
variable {prog : Program} {w : World} {A : Around} {E : Value → Shared → Prop} {s : Shared}
theorem call_enumerate_tuple {l : Addr} {items : Array Value} {Q : Value → Shared → Prop} (hL : s.heap.IsTuple l items)
    (h : ∀ h', IsEnum h' (s.heap.objs.size + 1) s.heap.objs.size 0 .none → h'.IsTupleIter s.heap.objs.size l 0 → h'.objs.size = s.heap.objs.size + 2 →
      (∀ b o, s.heap.get? b = some o → h'.get? b = some o) → Q (.ref (s.heap.objs.size + 1)) { s with heap := h' }) :
    wpAny (model prog w) A (call (.type "enumerate") [.ref l]) Q E s := by
  obtain ⟨⟨c, dct, dt, sl⟩, hl, hc, n, hd⟩ := hL
  replace hc : c = .type "tuple" := hc
  replace hd : dt = .seq items n := hd
  subst hc hd
  refine callType_new F.called_enumerate (by decide) (F.typeCall_enumerate_1 _) (F.newCall_enumerate_1 _) (fun obj => F.args_object_init_2 obj _) F.entry_enumerate_new
    (meets_enumerate_newT l items n dct sl) ⟨hl, ?_⟩
  have hz : (s.heap.push { cls := .type "tuple_iterator", data := .fields #[.ref l, .int 0 0] }).objs.size = s.heap.objs.size + 1 := Heap.size_push ..
  show _ ∧ _
  rw [hz]
  have he : IsEnum ((s.heap.push { cls := .type "tuple_iterator", data := .fields #[.ref l, .int 0 0] }).push
      { cls := .type "enumerate", data := .fields #[.none, .bool false, .ref s.heap.objs.size, rawInt 0, .none, .none] }) (s.heap.objs.size + 1) s.heap.objs.size 0 .none := by
    have := Heap.get?_push_size (s.heap.push { cls := .type "tuple_iterator", data := .fields #[.ref l, .int 0 0] })
      (o := { cls := .type "enumerate", data := .fields #[.none, .bool false, .ref s.heap.objs.size, rawInt 0, .none, .none] }) rfl
    rw [hz] at this; exact this
  refine ⟨⟨_, he, rfl⟩, h _ he ⟨_, Heap.get?_push_of_some _ (Heap.get?_push_size _ rfl), rfl, rfl⟩ (by rw [Heap.size_push, hz]) fun b o x => Heap.get?_push_of_some _ (Heap.get?_push_of_some _ x)⟩
theorem wpAny_pyNext_enum_endT {e it l : Addr} {i : Nat} {items : Array Value} {old : Value} {Q : Option Value → Shared → Prop} (hh : A.handled = none)
    (he : IsEnum s.heap e it i old) (hit : s.heap.IsTupleIter it l i) (hl : s.heap.IsTuple l items) (hx : items[i]? = none)
    (hQ : ∀ h', Heap.ExtBut it s.heap h' → Q none { s with heap := h' }) : wpAny (model prog w) A (pyNext (.ref e)) Q E s := by
  have hT : s.TypeIs (.ref e) "enumerate" := ⟨_, he, rfl⟩
  unfold pyNext
  refine wpAny_bind (wpAny_attempt (wpAny_callSpecial?_slot (name := Str.ofString "__next__") hT F.slot_enumerate_next
    (wpAny_call_entry F.slot_enumerate_next hT F.entry_enumerate_next ?_ (F.args_enumerate_next_1 _))))
  show wpAny _ _ (field (.ref e) 2 >>= _) _ _ _
  refine wpAny_bind (wpAny_field he rfl (x := .ref it) rfl ?_)
  refine wpAny_bind (wpAny_nextOf_tuple_end hh hit hl hx fun h' x he' hx' => ?_)
  obtain ⟨o, ho, hc⟩ := hx'
  refine wpAny_bind (wpAny_isInstance (T := "StopIteration") (b := true) ⟨o, ho, hc⟩ isSubtype_stop ?_)
  exact wpAny_pure (hQ _ he')
end
end PySem
namespace L2
open PySem PySem.Spec PyProof.Rows
/-- the tuple at a as it stands at each turn, each item in a new pair with its number -/
def IteT (K : PySem.W.Frag) (a : Addr) : It :=
  ⟨fun i H => ∃ (xs : List V) (x : V), SqT K H a xs ∧ xs[i]? = some x, fun i H v H' => ∃ T x, v = .ref T ∧ H T = none ∧ H' = upd H T (.tup [.int (i : Nat), x]) ∧ ∀ xs, SqT K H a xs → xs[i]? = some x, fun i H => ∃ xs : List V, SqT K H a xs ∧ xs.length ≤ i⟩
theorem turn_enumT {P : Program} {w : World} {K : PySem.W.Frag} {elts : List Expr} {kk : Nat} {tpos : Pos} (a e it : Addr) :
    Turn P w K (.Tuple elts kk tpos) (IteT K a) [e, it] e (fun i h => (∃ old, IsEnum h e it ((i : Nat) : Int) old) ∧ h.IsTupleIter it a i ∧ e ≠ it ∧ a ≠ it ∧ e ≠ a) where
  mem := by simp
  obj := fun i h st b hb => by
    obtain ⟨⟨old, he⟩, ⟨o, ho, hc, hd⟩, _⟩ := st
    have e' : b = e ∨ b = it := by simpa using hb
    rcases e' with z | z
    · rw [z]; exact ⟨_, he, fun v q => nomatch q⟩
    · rw [z]; exact ⟨o, ho, fun v q => by rw [hd] at q; cases q⟩
  keep := fun i h h' st k => let ⟨⟨old, he⟩, hi, hne⟩ := st; ⟨⟨old, k e (by simp) _ he⟩, hi.at fun o q => k it (by simp) o q, hne⟩
  item := by
    intro X hP hw hK hc i pins s σ H E I hf st hg
    subst hP hw hK
    obtain ⟨⟨old, he⟩, hit, hne, hai, hea⟩ := st
    obtain ⟨xs, x, hq, hx⟩ := hg
    obtain ⟨its, rv, p, hz⟩ := I.tuple hq
    obtain ⟨u, hu, ru⟩ := rv.get hx
    have hel : e < s.heap.objs.size := Heap.lt_size he
    have hil : it < s.heap.objs.size := by obtain ⟨_, q, _⟩ := hit; exact Heap.lt_size q
    have hlt : i < its.toArray.size := by
      rw [List.size_toArray]
      exact (List.getElem?_eq_some_iff.mp hu).1
    refine wpAny_pyNext_enum_itemD (Draws.tuple (A := X.A.in1) (I.ok.hd hc) it a hai its.toArray) he ⟨hit, p⟩ hlt hne (by simp [hne, hea]) fun x' h' tk hx' ho st' hT hsz hk => ?_
    obtain ⟨hit', _⟩ := st'
    obtain rfl : x' = u := by
      have q : its[i]? = some x' := by simpa using hx'
      rw [hu] at q
      exact (Option.some.inj q).symm
    refine ⟨_, rfl, wpAny_letOwnedTupleGo_enum (s := { s with heap := h', toks := tk + 1 }) ho fun h'' he' sb => ?_⟩
    have hT2 : h''.get? s.heap.objs.size = some { cls := .type "tuple", data := .seq #[.int i tk, x'] } := (sb.2 _ (Nat.ne_of_gt hel)).trans hT
    have new : ObjOk X.prog X.w (upd H s.heap.objs.size (.tup [.int (i : Nat), x])) h'' s.heap.objs.size (.tup [.int (i : Nat), x]) :=
      ⟨by show 2 ≤ sizeLine; decide, [.int i tk, x'], .cons ⟨_, rfl⟩ (.cons ru .nil), ⟨_, hT2, rfl, _, rfl⟩⟩
    have I1 : Inv X pins σ (upd H s.heap.objs.size (.tup [.int (i : Nat), x])) { s with heap := h'', toks := tk + 1 } :=
      I.turnedNew (ch := [e, it]) (fun b ob hb q => (sb.2 b (fun z => hb (by simp [z]))).trans (hk b ob (fun z => hb (by simp [z])) (fun z => hb (by simp [z])) q)) hf (Nat.le_refl _) new
    refine ⟨.ref s.heap.objs.size, _, I1, rfl, ⟨_, x, rfl, I.hok.fresh (Nat.le_refl _), rfl, fun ys hy => by rw [I.tuple_inj hy hq]; exact hx⟩, ⟨⟨x', ?_⟩, hit'.at fun o q => (sb.2 it (Ne.symm hne)).trans q, hne, hai, hea⟩, fun b hb => ?_⟩
    · have e1 : ((i + 1 : Nat) : Int) = (i : Int) + 1 := by omega
      rw [e1]; exact he'
    · have hb' : b < s.heap.objs.size := by
        have e' : b = e ∨ b = it := by simpa using hb
        rcases e' with z | z
        · rw [z]; exact hel
        · rw [z]; exact hil
      rw [upd_ne (Nat.ne_of_lt hb')]
      exact (hf b hb).1
  done := by
    intro X hP hw hK hc i pins s σ H E I hf st hg
    subst hP hw hK
    obtain ⟨⟨old, he⟩, hit, hne, hai, hea⟩ := st
    obtain ⟨xs, hq, hx⟩ := hg
    obtain ⟨its, rv, p, hz⟩ := I.tuple hq
    obtain ⟨f0, f1, f2, f3, f4, f5⟩ := hf it (by simp)
    have hl := rv.length
    exact wpAny_pyNext_enum_endT (I.ok.hd hc) he hit p (by simp; omega) fun h' eb => ⟨rfl, I.turned (t' := s.toks) (fun b o hb q => eb b o hb q) f0 f1 f3 f4 f5⟩
  self := fun A i s Q E st h => let ⟨⟨_, he⟩, _⟩ := st; wpAny_pyIter_enum he h
def iEnumT (K : PySem.W.Frag) (ta : TA) : TI := fun σ H R => ta σ H fun vs H1 => ∃ a xs, vs = [.ref a] ∧ SqT K H1 a xs ∧ R (IteT K a) H1
theorem pi_enumT {X : Cx} {e : Expr} {ta : TA} {p pos tpos : Pos} {elts : List Expr} {kk : Nat} (hg : Gl X "enumerate") (hm : X.mg "enumerate" = none) (ha : PA X [e] ta) (hs : starEach [e] X.env = [(false, eval e X.env)] := by rfl) :
    PI X (.Tuple elts kk tpos) (.Call (.Name "enumerate" p) [e] [] pos) (iEnumT X.K ta) := by
  refine ⟨fun pins s σ H R I h => ?_⟩
  refine Call_ (ld_blt I hg hm boot_enumerate (PyProof.Rows.callWith_type1 (thn (ha.run pos pins s σ H _ I h) fun us s1 ⟨vs, H1, I1, r1, q1⟩ => ?_) hs rfl))
  obtain ⟨a, xs, ex, hq, q⟩ := q1
  subst ex
  cases r1 with
  | cons r rr =>
    cases rr
    cases r
    obtain ⟨its, rv, p', hz⟩ := I1.tuple hq
    have hal : a < s1.heap.objs.size := by obtain ⟨_, q, _⟩ := p'; exact Heap.lt_size q
    refine call_enumerate_tuple p' fun h' he hit hsz hk => wpAny_pyIter_enum he ?_
    have I2 : Inv X pins σ H1 { s1 with heap := h' } := I1.kept (t' := s1.toks) hk
    refine ⟨s1.heap.objs.size + 1, [s1.heap.objs.size + 1, s1.heap.objs.size], _, _, H1, rfl, I2, turn_enumT a (s1.heap.objs.size + 1) s1.heap.objs.size, ⟨⟨.none, he⟩, hit, Nat.succ_ne_self _, Nat.ne_of_lt hal, Ne.symm (Nat.ne_of_lt (Nat.lt_succ_of_lt hal))⟩, fun b hb => ?_, q⟩
    have e' : b = s1.heap.objs.size + 1 ∨ b = s1.heap.objs.size := by simpa using hb
    have hle : s1.heap.objs.size ≤ b := by
      rcases e' with z | z
      · rw [z]; exact Nat.le_add_right _ _
      · rw [z]; exact Nat.le_refl _
    exact I1.fpOk hle (I1.hok.fresh hle)
end L2

set_option Elab.async false
set_option linter.all false
set_option maxRecDepth 100000
set_option maxHeartbeats 4000000
set_option autoImplicit false
namespace L2
open PySem PySem.Spec PyProof.Rows
section
variable {X : Cx}
theorem mk_endN {pins : List (Addr × Obj)} {σ : St} {H1 H2 : Hp} {Q : XK} {hp hp2 h2 : Heap} {g1 g2 : Array GenState} {d1 d2 : Drawn} {t1 t2 : Nat} {os1 os2 : OsState} {a C : Addr} (T : Raises X (.ref C)) (I1 : Inv X pins σ H1 ⟨hp, g1, d1, t1, os1⟩)
    (ha : hp.objs.size ≤ a) (k : ∀ b o, hp.get? b = some o → hp2.get? b = some o) (un : Un (frs X.stack) [] (upd H1 a (exo a C none)) H2 hp2 h2) (hok : HOk X.prog X.w H2 h2) (ho : os2 = os1) (hb : AllBare g2)
    (e2 : H2 = upd H1 a (exo a C none)) (q : Q (.ref C) none H1) : MkP X pins σ Q (.ref a) ⟨h2, g2, d2, t2, os2⟩ := by
  have ea : H2 a = some (exo a C none) := by rw [e2]; exact upd_same
  obtain ⟨t0, hoe⟩ := exo_at hok ea
  have hn : H1 a = none := I1.hok.fresh ha
  obtain ⟨G, g1', g2'⟩ := restrict h2 fun b => decide (b ≠ a)
  have gk : ∀ b, b ≠ a → G.get? b = h2.get? b := fun b hb => g1' b (decide_eq_true hb)
  have ge : G.get? a = none := g2' a (by simp)
  have nha : ∀ {b : Addr} {o : Obj}, hp.get? b = some o → b ≠ a := fun {b o} z => Nat.ne_of_lt (Nat.lt_of_lt_of_le (Heap.lt_size z) ha)
  have up : ∀ {b : Addr}, b ≠ a → H1 b = none → upd H1 a (exo a C none) b = none := fun {b} hb n => by rw [upd_ne hb]; exact n
  have dn : del H2 a = H1 := by
    funext b
    by_cases z : b = a
    · subst z; rw [del_same, hn]
    · rw [del_ne z, e2, upd_ne z]
  have U : Un (frs X.stack) [] H1 (del H2 a) hp G := {
    keep := fun b o z n hf hx => by
      rw [gk b (nha z)]
      exact un.keep b o (k b o z) (up (nha z) n) hf hx
    slot := fun b o z n hf hx => by
      rw [gk b (nha z)]
      exact un.slot b o (k b o z) (up (nha z) n) hf hx
    free := fun b o z n hx => by
      rw [del_ne (nha z)]
      exact un.free b o (k b o z) (up (nha z) n) hx
    there := fun b o z hx => by
      rw [gk b (nha z)]
      exact un.there b o (k b o z) hx
    tups := fun b xs z => by
      rw [del_ne (ne_of_none z hn)]
      exact un.tups b xs (by rw [upd_ne (ne_of_none z hn)]; exact z)
    frzs := fun b o v z => by
      rw [del_ne (ne_of_none z hn)]
      exact un.frzs b o v (by rw [upd_ne (ne_of_none z hn)]; exact z)
    tbls := fun b ps z => by
      rw [del_ne (ne_of_none z hn)]
      exact un.tbls b ps (by rw [upd_ne (ne_of_none z hn)]; exact z) }
  have hok3 : HOk X.prog X.w (del H2 a) G := fun b o z => by
    have hba : b ≠ a := fun e => by
      rw [e, del_same] at z
      cases z
    rw [del_ne hba] at z
    have noa : ∀ {c : Addr}, H2 c = some (.own b) → c ≠ a := fun {c} hc => at_ne ea hc exo_own
    exact (hok b o z).stay (fun c v hc y => by
        have hca : c ≠ a := by
          rcases hc with hc | hc
          · rw [hc]
            exact hba
          · exact noa hc
        rw [gk c hca]
        exact y)
      (fun c hc => by rw [del_ne (noa hc)]; exact hc) (fun c xs hc => by rw [del_ne (at_ne ea hc exo_tup)]; exact hc)
  have J : Inv X pins σ (del H2 a) ⟨G, g2, d2, t2, os2⟩ := I1.call' (ch := []) ho U hok3 hb (fun b z => absurd z (by simp))
  rw [dn] at J
  refine ⟨a, _, _, ⟨G, g2, d2, t2, os2⟩, _, .ref C, none, rfl, J, fun b o z => ?_, ge, hoe, ⟨rfl, rfl⟩, rfl, rfl, hn, rfl, hb, T, q⟩
  by_cases hba : b = a
  · rw [hba, ge] at z
    cases z
  · exact (gk b hba).symm.trans z
/-- C() of an own exception whose __init__ does nothing -/
def spInitN : Sp := fun vs H Q _ => ∃ a : Addr, vs = [.ref a] ∧ Q .non H
def tMkN (C : Addr) : St → Hp → XK → Prop := fun _ H Q => Q (.ref C) none H
theorem pmk_oexN {CX : CXT} {x : Str} {C fI : Addr} {k : Nat} {fd : FuncData} {ps : List Str} {p pos : Pos} (T : OexC X.K C) (iC : PySem.W.findIn X.K (.ref C) "__init__" = some (some (.ref fI))) (tI : PySem.W.typeIn X.K (.ref fI) = some (.type "function"))
    (F1 : FnOk X.prog X.w X.K X.mg X.base CX k fI fd ps spInitN) (hr : Room (k + 1) X.A) (hb : Binds X.K fd ps []) (hx : Passes CX X (fun _ _ _ => False)) (hg : Gl X x) (hm : X.mg x = some (.ref C))
    (hdb : (x == ("__debug__" : Str)) = false := by decide) :
    PMk X (.Call (.Name x p) [] [] pos) (tMkN C) := by
  intro pins s1 σ H1 Q I1 h
  obtain ⟨nm, q, N, bs, bm, sn, sub, ab, col, dd, k0, k1, k2, k3, k5, hC, hbm⟩ := T.cls
  refine wpAny_Call_Name_kw (ld_glob I1 hg hm ?_ hdb)
  refine PySem.W.callWith_K0 I1.kIn T.kC ?_
  show wpAny _ _ (call (.ref C) []) _ _ _
  obtain ⟨hp, g, dr, tk, os⟩ := s1
  have hsz : hp.objs.size ≤ hp.objs.size + 1 := Nat.le_succ _
  have hn : H1 (hp.objs.size + 1) = none := I1.hok.fresh hsz
  have kk : ∀ b o, hp.get? b = some o → ((hp.push (PySem.W.kdv_tup [])).push (PySem.HandSPX.excO C hp.objs.size)).get? b = some o := fun b o e => Heap.get?_push_of_some _ (Heap.get?_push_of_some _ e)
  have hget : ((hp.push (PySem.W.kdv_tup [])).push (PySem.HandSPX.excO C hp.objs.size)).get? (hp.objs.size + 1) = some (PySem.HandSPX.excO C hp.objs.size) := by heap_get
  have I2 : Inv X pins σ (upd H1 (hp.objs.size + 1) (exo (hp.objs.size + 1) C none)) ⟨(hp.push (PySem.W.kdv_tup [])).push (PySem.HandSPX.excO C hp.objs.size), g, dr, tk, os⟩ :=
    I1.laid (t' := tk) (a := hp.objs.size + 1) (o := exo (hp.objs.size + 1) C none) (h' := (hp.push (PySem.W.kdv_tup [])).push (PySem.HandSPX.excO C hp.objs.size)) kk hsz (exo_ok hget)
  have hq : spInitN [V.ref (hp.objs.size + 1)] (upd H1 (hp.objs.size + 1) (exo (hp.objs.size + 1) C none)) (fun v H2 => v = .non ∧ H2 = upd H1 (hp.objs.size + 1) (exo (hp.objs.size + 1) C none)) (fun _ _ _ => False) := ⟨_, rfl, rfl, rfl⟩
  have r2 : Vals [V.ref (hp.objs.size + 1)] [Value.ref (hp.objs.size + 1)] := .cons rfl .nil
  have hl : ([Value.ref (hp.objs.size + 1)] ++ ([] : List Value)).length = ps.length := by
    rw [← F1.len _ _ _ _ hq]; rfl
  refine wpAny_call (PySem.HandSPX.call_own F.excBase_ValueError (fun Y => PySem.HandSPX.refsVE_contains Y bm hbm) (I1.kIn _ _ hC) (PySem.W.looks_findIn I1.kIn iC) (fun self => PySem.W.bind_fn I1.kIn self tI) (by show 0 ≤ sizeLine; decide)
    (codeAny_mono (F1.run _ X.stack _ _ ⟨[Value.ref (hp.objs.size + 1)], []⟩ [Value.ref (hp.objs.size + 1)] _ _ (fun _ _ _ => False) (hr.make C [] []) (I2.env0.make C [] []) (hb _ [Value.ref (hp.objs.size + 1)] I2.kIn hl) r2 hq) fun r s' hq' => ?_))
  cases r with
  | error er => exact hx pins σ _ _ er s' I2 hq'
  | ok fl =>
    cases fl with
    | ret u =>
      obtain ⟨v, H2, os2, bare2, un2, hok2, rv, ev, e2⟩ := hq'
      subst ev
      obtain ⟨h2, g2, d2, t2, os'⟩ := s'
      exact ⟨rv, mk_endN (raises_own T.exC T.tyC) I1 hsz kk un2 hok2 os2 bare2 e2 h⟩
    | next => exact False.elim hq'
    | brk => exact False.elim hq'
    | cont => exact False.elim hq'
end
end L2

set_option Elab.async false
set_option linter.all false
set_option maxRecDepth 100000
set_option maxHeartbeats 4000000
set_option autoImplicit false
namespace Hc
open PySem L2
def top (i : Nat) : Stmt := PySem.Challenge.pw_hourcards_k26_whole_kinds_or_a_bad_place.main.body.getD i (.Pass ⟨0, 0, 0, 0⟩)
structure Df (K : PySem.W.Frag) (mg : Str → Option Value) (x : Str) (st : Stmt) (ps : List Str) : Type where
  f : Addr
  fd : FuncData
  F : Fun K x x st f fd
  g : mg x = some (.ref f)
  b : Binds K fd ps []
/-- an own class -/
structure Wf (K : PySem.W.Frag) (mg : Str → Option Value) (x q : Str) (st : Stmt) (ps fs : List Str) : Type where
  C : Addr
  f : Addr
  fd : FuncData
  F : Fun K "__init__" q st f fd
  g : mg x = some (.ref C)
  b : Binds K fd ps []
  mk1 : Mk K C f
  cl : Cls K C
  no : ∀ x ∈ fs, PySem.W.findIn K (.ref C) x = some none
/-- an own error -/
structure Xf (K : PySem.W.Frag) (mg : Str → Option Value) (x q : Str) (st : Stmt) (ps fs : List Str) : Type where
  C : Addr
  f : Addr
  fd : FuncData
  F : Fun K "__init__" q st f fd
  g : mg x = some (.ref C)
  b : Binds K fd ps []
  T : OexC K C
  iC : PySem.W.findIn K (.ref C) "__init__" = some (some (.ref f))
  tI : PySem.W.typeIn K (.ref f) = some (.type "function")
  xf : XfC K C
  te : PySem.W.exmOne K (.ref C) (.ref C) = some true
  no : ∀ x ∈ fs, PySem.W.findIn K (.ref C) x = some none
/-- what isinstance asks of the error class at D, and of its base -/
structure HeF (K : PySem.W.Frag) (mg : Str → Option Value) (D : Addr) : Type where
  C : Addr
  g : mg "HourError" = some (.ref C)
  k1 : PySem.W.kitOne K (.ref D) (.ref C) = some true
  k2 : PySem.W.kitOne K (.ref D) (.type "ValueError") = some true
  ec : ExcC K D
abbrev s_is_integer : Stmt := (top 1)
theorem sc_is_integer : FnScope ["thing"] ["thing"] (defScope s_is_integer) := ⟨rfl, rfl, rfl, by decide +kernel, rfl, by decide +kernel, by decide +kernel⟩
abbrev s_is_between : Stmt := (top 2)
theorem sc_is_between : FnScope ["low", "high", "thing"] ["low", "high", "thing"] (defScope s_is_between) := ⟨rfl, rfl, rfl, by decide +kernel, rfl, by decide +kernel, by decide +kernel⟩
abbrev s_is_tuple : Stmt := (top 3)
theorem sc_is_tuple : FnScope ["many", "thing"] ["many", "thing"] (defScope s_is_tuple) := ⟨rfl, rfl, rfl, by decide +kernel, rfl, by decide +kernel, by decide +kernel⟩
abbrev s_are_integers : Stmt := (top 4)
theorem sc_are_integers : FnScope ["many", "thing", "one"] ["many", "thing"] (defScope s_are_integers) := ⟨rfl, rfl, rfl, by decide +kernel, rfl, by decide +kernel, by decide +kernel⟩
abbrev s_are_between : Stmt := (top 5)
theorem sc_are_between : FnScope ["many", "low", "high", "thing", "one"] ["many", "low", "high", "thing"] (defScope s_are_between) := ⟨rfl, rfl, rfl, by decide +kernel, rfl, by decide +kernel, by decide +kernel⟩
abbrev s_are_roads : Stmt := (top 18)
theorem sc_are_roads : FnScope ["houses", "thing", "road"] ["houses", "thing"] (defScope s_are_roads) := ⟨rfl, rfl, rfl, by decide +kernel, rfl, by decide +kernel, by decide +kernel⟩
abbrev s_is_begin_and_end : Stmt := (top 19)
theorem sc_is_begin_and_end : FnScope ["houses", "thing"] ["houses", "thing"] (defScope s_is_begin_and_end) := ⟨rfl, rfl, rfl, by decide +kernel, rfl, by decide +kernel, by decide +kernel⟩
abbrev s_is_road : Stmt := (top 20)
theorem sc_is_road : FnScope ["web", "thing"] ["web", "thing"] (defScope s_is_road) := ⟨rfl, rfl, rfl, by decide +kernel, rfl, by decide +kernel, by decide +kernel⟩
abbrev s_next_roads : Stmt := (top 21)
theorem sc_next_roads : FnScope ["web", "road", "end", "number", "begin", "_"] ["web", "road"] (defScope s_next_roads) := ⟨rfl, rfl, rfl, by decide +kernel, rfl, by decide +kernel, by decide +kernel⟩
abbrev s_is_lot : Stmt := (top 22)
theorem sc_is_lot : FnScope ["web", "thing", "road", "after"] ["web", "thing"] (defScope s_is_lot) := ⟨rfl, rfl, rfl, by decide +kernel, rfl, by decide +kernel, by decide +kernel⟩
abbrev s_is_sort : Stmt := (top 25)
theorem sc_is_sort : FnScope ["thing"] ["thing"] (defScope s_is_sort) := ⟨rfl, rfl, rfl, by decide +kernel, rfl, by decide +kernel, by decide +kernel⟩
abbrev s_check_lot_and_sort : Stmt := (top 26)
theorem sc_check_lot_and_sort : FnScope ["web", "lot", "sort"] ["web", "lot", "sort"] (defScope s_check_lot_and_sort) := ⟨rfl, rfl, rfl, by decide +kernel, rfl, by decide +kernel, by decide +kernel⟩
abbrev s_bad_places : Stmt := (top 28)
theorem sc_bad_places : FnScope ["web", "lot", "sort", "after"] ["web", "lot", "sort"] (defScope s_bad_places) := ⟨rfl, rfl, rfl, by decide +kernel, rfl, by decide +kernel, by decide +kernel⟩
abbrev s_all_next : Stmt := (top 29)
theorem sc_all_next : FnScope ["web", "road"] ["web"] (defScope s_all_next) := ⟨rfl, rfl, rfl, by decide +kernel, rfl, by decide +kernel, by decide +kernel⟩
abbrev s_forks : Stmt := (top 30)
theorem sc_forks : FnScope ["after", "lot", "sort", "found", "first", "roads", "last"] ["after", "lot", "sort"] (defScope s_forks) := ⟨rfl, rfl, rfl, by decide +kernel, rfl, by decide +kernel, by decide +kernel⟩
abbrev s_rows : Stmt := (top 31)
theorem sc_rows : FnScope ["after", "lot", "sort", "found", "first", "roads", "middle", "last"] ["after", "lot", "sort"] (defScope s_rows) := ⟨rfl, rfl, rfl, by decide +kernel, rfl, by decide +kernel, by decide +kernel⟩
abbrev s_is_bad_end : Stmt := (top 32)
theorem sc_is_bad_end : FnScope ["after", "lot", "sort", "road"] ["after", "lot", "sort", "road"] (defScope s_is_bad_end) := ⟨rfl, rfl, rfl, by decide +kernel, rfl, by decide +kernel, by decide +kernel⟩
abbrev s_is_enough : Stmt := (top 33)
theorem sc_is_enough : FnScope ["web", "sort", "lot"] ["web", "sort", "lot"] (defScope s_is_enough) := ⟨rfl, rfl, rfl, by decide +kernel, rfl, by decide +kernel, by decide +kernel⟩
abbrev s_kinds : Stmt := (top 34)
theorem sc_kinds : FnScope ["web", "lot", "sort", "after", "found", "road", "kind"] ["web", "lot", "sort"] (defScope s_kinds) := ⟨rfl, rfl, rfl, by decide +kernel, rfl, by decide +kernel, by decide +kernel⟩
abbrev s_kind_of : Stmt := (top 35)
theorem sc_kind_of : FnScope ["after", "lot", "sort", "road", "going_on", "number"] ["after", "lot", "sort", "road"] (defScope s_kind_of) := ⟨rfl, rfl, rfl, by decide +kernel, rfl, by decide +kernel, by decide +kernel⟩
abbrev s_is_kinds : Stmt := (top 36)
theorem sc_is_kinds : FnScope ["web", "lot", "sort", "thing", "found", "kind"] ["web", "lot", "sort", "thing"] (defScope s_is_kinds) := ⟨rfl, rfl, rfl, by decide +kernel, rfl, by decide +kernel, by decide +kernel⟩
abbrev s_law_pool : Stmt := (top 38)
theorem sc_law_pool : FnScope ["_law_script", "_law_seed", "_law_cell"] ["_law_script"] (defScope s_law_pool) := ⟨rfl, rfl, rfl, by decide +kernel, rfl, by decide +kernel, by decide +kernel⟩
abbrev s_law_draw : Stmt := (top 39)
theorem sc_law_draw : FnScope ["_law_pool_here", "_law_many", "_law_cells", "_law_digit", "_law_mixed"] ["_law_pool_here", "_law_many"] (defScope s_law_draw) := ⟨rfl, rfl, rfl, by decide +kernel, rfl, by decide +kernel, by decide +kernel⟩
abbrev s_law_some : Stmt := (top 40)
theorem sc_law_some : FnScope ["_law_pool_here", "_law_things"] ["_law_pool_here", "_law_things"] (defScope s_law_some) := ⟨rfl, rfl, rfl, by decide +kernel, rfl, by decide +kernel, by decide +kernel⟩
abbrev s_law_free_roads : Stmt := (top 41)
theorem sc_law_free_roads : FnScope ["_law_pool_here", "_law_houses", "_law_many", "_law_roads", "_law_k", "_law_begin", "_law_end"] ["_law_pool_here", "_law_houses", "_law_many"] (defScope s_law_free_roads) := ⟨rfl, rfl, rfl, by decide +kernel, rfl, by decide +kernel, by decide +kernel⟩
abbrev s_law_tree_roads : Stmt := (top 42)
theorem sc_law_tree_roads : FnScope ["_law_houses", "_law_pool_here", "_law_house"] ["_law_houses", "_law_pool_here"] (defScope s_law_tree_roads) := ⟨rfl, rfl, rfl, by decide +kernel, rfl, by decide +kernel, by decide +kernel⟩
abbrev s_law_ring_roads : Stmt := (top 43)
theorem sc_law_ring_roads : FnScope ["_law_houses", "_law_house"] ["_law_houses"] (defScope s_law_ring_roads) := ⟨rfl, rfl, rfl, by decide +kernel, rfl, by decide +kernel, by decide +kernel⟩
abbrev s_law_web : Stmt := (top 44)
theorem sc_law_web : FnScope ["_law_pool_here", "_law_most", "_law_kind_here", "_law_houses", "_law_roads", "_law_ties", "_law_plain", "_law_rooms", "_law_times", "_law_begin", "_law_end", "_law_road"] ["_law_pool_here", "_law_most"] (defScope s_law_web) := ⟨rfl, rfl, rfl, by decide +kernel, rfl, by decide +kernel, by decide +kernel⟩
abbrev s_law_great_web : Stmt := (top 45)
theorem sc_law_great_web : FnScope ["_law_pool_here", "_law_houses", "_law_roads", "_law_ones"] ["_law_pool_here"] (defScope s_law_great_web) := ⟨rfl, rfl, rfl, by decide +kernel, rfl, by decide +kernel, by decide +kernel⟩
abbrev s_law_nexts : Stmt := (top 46)
theorem sc_law_nexts : FnScope ["_law_web_here", "_law_begins", "_law_found", "_law_begin", "_law_end", "_law_pair", "_law_k"] ["_law_web_here"] (defScope s_law_nexts) := ⟨rfl, rfl, rfl, by decide +kernel, rfl, by decide +kernel, by decide +kernel⟩
abbrev s_law_may_end : Stmt := (top 47)
theorem sc_law_may_end : FnScope ["_law_nexts_here", "_law_lot_here", "_law_sort", "_law_road"] ["_law_nexts_here", "_law_lot_here", "_law_sort", "_law_road"] (defScope s_law_may_end) := ⟨rfl, rfl, rfl, by decide +kernel, rfl, by decide +kernel, by decide +kernel⟩
abbrev s_law_bad : Stmt := (top 48)
theorem sc_law_bad : FnScope ["_law_nexts_here", "_law_lot_here", "_law_sort", "_law_found", "_law_silent", "_law_a", "_law_b", "_law_m", "_law_road"] ["_law_nexts_here", "_law_lot_here", "_law_sort"] (defScope s_law_bad) := ⟨rfl, rfl, rfl, by decide +kernel, rfl, by decide +kernel, by decide +kernel⟩
abbrev s_law_lot : Stmt := (top 49)
theorem sc_law_lot : FnScope ["_law_pool_here", "_law_many", "_law_share", "_law_road"] ["_law_pool_here", "_law_many"] (defScope s_law_lot) := ⟨rfl, rfl, rfl, by decide +kernel, rfl, by decide +kernel, by decide +kernel⟩
abbrev s_law_enough_lot : Stmt := (top 50)
theorem sc_law_enough_lot : FnScope ["_law_pool_here", "_law_nexts_here", "_law_sort", "_law_told", "_law_turn", "_law_places", "_law_place", "_law_more", "_law_road"] ["_law_pool_here", "_law_nexts_here", "_law_sort"] (defScope s_law_enough_lot) := ⟨rfl, rfl, rfl, by decide +kernel, rfl, by decide +kernel, by decide +kernel⟩
abbrev s_law_made : Stmt := (top 51)
theorem sc_law_made : FnScope ["_law_web_here"] ["_law_web_here"] (defScope s_law_made) := ⟨rfl, rfl, rfl, by decide +kernel, rfl, by decide +kernel, by decide +kernel⟩
abbrev s_law_kind : Stmt := (top 52)
theorem sc_law_kind : FnScope ["_law_nexts_here", "_law_lot_here", "_law_sort", "_law_road", "_law_leading", "_law_silent", "_law_later"] ["_law_nexts_here", "_law_lot_here", "_law_sort", "_law_road"] (defScope s_law_kind) := ⟨rfl, rfl, rfl, by decide +kernel, rfl, by decide +kernel, by decide +kernel⟩
abbrev s_law_kinds : Stmt := (top 53)
theorem sc_law_kinds : FnScope ["_law_nexts_here", "_law_lot_here", "_law_sort", "_law_found", "_law_road"] ["_law_nexts_here", "_law_lot_here", "_law_sort"] (defScope s_law_kinds) := ⟨rfl, rfl, rfl, by decide +kernel, rfl, by decide +kernel, by decide +kernel⟩
abbrev s_law_is_right : Stmt := (top 54)
theorem sc_law_is_right : FnScope ["_law_web_here", "_law_nexts_here", "_law_lot_here", "_law_sort", "_law_due", "_law_told"] ["_law_web_here", "_law_nexts_here", "_law_lot_here", "_law_sort"] (defScope s_law_is_right) := ⟨rfl, rfl, rfl, by decide +kernel, rfl, by decide +kernel, by decide +kernel⟩
abbrev s_law : Stmt := (top 55)
theorem sc_law : FnScope ["_law_script", "_law_pool_here", "_law_parts", "_law_nexts_here", "_law_web_here", "_law_sort", "_law_lots", "_law_lot_here"] ["_law_script"] (defScope s_law) := ⟨rfl, rfl, rfl, by decide +kernel, rfl, by decide +kernel, by decide +kernel⟩
abbrev s_Web___init : Stmt := inClass (top 17) 0
theorem sc_Web___init : FnScope ["self", "houses", "roads", "rooms", "times"] ["self", "houses", "roads", "rooms", "times"] (defScope s_Web___init) := ⟨rfl, rfl, rfl, by decide +kernel, rfl, by decide +kernel, by decide +kernel⟩
abbrev s_BadWeb___init : Stmt := inClass (top 8) 0
theorem sc_BadWeb___init : FnScope ["self", "part"] ["self", "part"] (defScope s_BadWeb___init) := ⟨rfl, rfl, rfl, by decide +kernel, rfl, by decide +kernel, by decide +kernel⟩
abbrev s_NoRoad___init : Stmt := inClass (top 9) 0
theorem sc_NoRoad___init : FnScope ["self"] ["self"] (defScope s_NoRoad___init) := ⟨rfl, rfl, rfl, by decide +kernel, rfl, by decide +kernel, by decide +kernel⟩
abbrev s_NoLot___init : Stmt := inClass (top 10) 0
theorem sc_NoLot___init : FnScope ["self"] ["self"] (defScope s_NoLot___init) := ⟨rfl, rfl, rfl, by decide +kernel, rfl, by decide +kernel, by decide +kernel⟩
abbrev s_NoSort___init : Stmt := inClass (top 11) 0
theorem sc_NoSort___init : FnScope ["self"] ["self"] (defScope s_NoSort___init) := ⟨rfl, rfl, rfl, by decide +kernel, rfl, by decide +kernel, by decide +kernel⟩
structure Tx (K : PySem.W.Frag) (mg : Str → Option Value) : Type where
  is_integer : Df K mg "is_integer" s_is_integer ["thing"]
  is_between : Df K mg "is_between" s_is_between ["low", "high", "thing"]
  is_tuple : Df K mg "is_tuple" s_is_tuple ["many", "thing"]
  are_integers : Df K mg "are_integers" s_are_integers ["many", "thing"]
  are_between : Df K mg "are_between" s_are_between ["many", "low", "high", "thing"]
  are_roads : Df K mg "are_roads" s_are_roads ["houses", "thing"]
  is_begin_and_end : Df K mg "is_begin_and_end" s_is_begin_and_end ["houses", "thing"]
  is_road : Df K mg "is_road" s_is_road ["web", "thing"]
  next_roads : Df K mg "next_roads" s_next_roads ["web", "road"]
  is_lot : Df K mg "is_lot" s_is_lot ["web", "thing"]
  is_sort : Df K mg "is_sort" s_is_sort ["thing"]
  check_lot_and_sort : Df K mg "check_lot_and_sort" s_check_lot_and_sort ["web", "lot", "sort"]
  bad_places : Df K mg "bad_places" s_bad_places ["web", "lot", "sort"]
  all_next : Df K mg "all_next" s_all_next ["web"]
  forks : Df K mg "forks" s_forks ["after", "lot", "sort"]
  rows : Df K mg "rows" s_rows ["after", "lot", "sort"]
  is_bad_end : Df K mg "is_bad_end" s_is_bad_end ["after", "lot", "sort", "road"]
  is_enough : Df K mg "is_enough" s_is_enough ["web", "sort", "lot"]
  kinds : Df K mg "kinds" s_kinds ["web", "lot", "sort"]
  kind_of : Df K mg "kind_of" s_kind_of ["after", "lot", "sort", "road"]
  is_kinds : Df K mg "is_kinds" s_is_kinds ["web", "lot", "sort", "thing"]
  _law_pool : Df K mg "_law_pool" s_law_pool ["_law_script"]
  _law_draw : Df K mg "_law_draw" s_law_draw ["_law_pool_here", "_law_many"]
  _law_some : Df K mg "_law_some" s_law_some ["_law_pool_here", "_law_things"]
  _law_free_roads : Df K mg "_law_free_roads" s_law_free_roads ["_law_pool_here", "_law_houses", "_law_many"]
  _law_tree_roads : Df K mg "_law_tree_roads" s_law_tree_roads ["_law_houses", "_law_pool_here"]
  _law_ring_roads : Df K mg "_law_ring_roads" s_law_ring_roads ["_law_houses"]
  _law_web : Df K mg "_law_web" s_law_web ["_law_pool_here", "_law_most"]
  _law_great_web : Df K mg "_law_great_web" s_law_great_web ["_law_pool_here"]
  _law_nexts : Df K mg "_law_nexts" s_law_nexts ["_law_web_here"]
  _law_may_end : Df K mg "_law_may_end" s_law_may_end ["_law_nexts_here", "_law_lot_here", "_law_sort", "_law_road"]
  _law_bad : Df K mg "_law_bad" s_law_bad ["_law_nexts_here", "_law_lot_here", "_law_sort"]
  _law_lot : Df K mg "_law_lot" s_law_lot ["_law_pool_here", "_law_many"]
  _law_enough_lot : Df K mg "_law_enough_lot" s_law_enough_lot ["_law_pool_here", "_law_nexts_here", "_law_sort"]
  _law_made : Df K mg "_law_made" s_law_made ["_law_web_here"]
  _law_kind : Df K mg "_law_kind" s_law_kind ["_law_nexts_here", "_law_lot_here", "_law_sort", "_law_road"]
  _law_kinds : Df K mg "_law_kinds" s_law_kinds ["_law_nexts_here", "_law_lot_here", "_law_sort"]
  _law_is_right : Df K mg "_law_is_right" s_law_is_right ["_law_web_here", "_law_nexts_here", "_law_lot_here", "_law_sort"]
  law : Df K mg "law" s_law ["_law_script"]
  c_MOST_HOUSES : ∃ t, mg "MOST_HOUSES" = some (.int 12 t)
  c_MOST_ROADS : ∃ t, mg "MOST_ROADS" = some (.int 24 t)
  c_MOST_ROOMS : ∃ t, mg "MOST_ROOMS" = some (.int 3 t)
  c_LONGEST_TIME : ∃ t, mg "LONGEST_TIME" = some (.int 3 t)
  c_SORTS : ∃ a, mg "SORTS" = some (.ref a) ∧ ∀ H, SqT K H a [.str "hours", .str "turns"]
  Web : Wf K mg "Web" "Web.__init__" s_Web___init ["self", "houses", "roads", "rooms", "times"] ["houses", "roads", "rooms", "times"]
  x_BadWeb : Xf K mg "BadWeb" "BadWeb.__init__" s_BadWeb___init ["self", "part"] ["part"]
  x_NoRoad : Xf K mg "NoRoad" "NoRoad.__init__" s_NoRoad___init ["self"] []
  x_NoLot : Xf K mg "NoLot" "NoLot.__init__" s_NoLot___init ["self"] []
  x_NoSort : Xf K mg "NoSort" "NoSort.__init__" s_NoSort___init ["self"] []
  n_isinstance : mg "isinstance" = none
  n_int : mg "int" = none
  n_bool : mg "bool" = none
  n_str : mg "str" = none
  n_tuple : mg "tuple" = none
  n_list : mg "list" = none
  n_len : mg "len" = none
  n_all : mg "all" = none
  n_any : mg "any" = none
  n_abs : mg "abs" = none
  n_range : mg "range" = none
  n_zip : mg "zip" = none
  n_enumerate : mg "enumerate" = none
  n_sorted : mg "sorted" = none

section
variable {P : Program} {w : World} {K : PySem.W.Frag} {mg : Str → Option Value} {base : Heap}
def spThing (g : D → Bool) : Sp := fun vs H Q _ => ∃ (h : Addr) (v : V) (d : D), vs = [v] ∧ Rp H h v d ∧ Q (.bl (g d)) H
theorem ok_is_integer (T : Tx K mg) : FnOk P w K mg base CX0 1 T.is_integer.f T.is_integer.fd ["thing"] (spThing isInt) := by
  refine T.is_integer.F.ok sc_is_integer (fun vs H Q E h => ?_) (fun cdv A outer s H vs Q E hr h => ?_)
  · obtain ⟨_, v, d, rfl, _⟩ := h
    rfl
  · obtain ⟨_, v, d, rfl, r, k⟩ := h
    refine ⟨_, (pss_one (ps_ret (pe_and (pe_callB call_isi (by rfl) T.n_isinstance (by decide +kernel) (pa_cons (pv 0) (pa_cons (pe_bltn (v := .ty "int") (by rfl) T.n_int (by decide +kernel) rfl) pa_nil))) (pe_one (pe_not (pe_callB call_isi (by rfl) T.n_isinstance (by decide +kernel) (pa_cons (pv 0) (pa_cons (pe_bltn (v := .ty "bool") (by rfl) T.n_bool (by decide +kernel) rfl) pa_nil)))))))), ?_⟩
    refine ⟨_, rfl, _, _, _, _, _, rfl, .ty "int", r.ty, kit_ty (kitI d), _, rfl, ?_⟩
    cases e : isIB d with
    | false =>
      refine iteF ?_
      have : isInt d = false := by cases d <;> first | rfl | exact Bool.noConfusion e
      rw [this] at k
      exact k
    | true =>
      refine iteT ?_
      refine ⟨_, rfl, _, _, _, _, _, rfl, .ty "bool", r.ty, kit_ty (kitBo d), _, rfl, ?_⟩
      have : (!isB d) = isInt d := by cases d <;> first | rfl | exact Bool.noConfusion e
      rw [this]
      exact k
def spBtw : Sp := fun vs H Q _ => ∃ (h : Addr) (lo hi : Int) (v : V) (d : D), vs = [.int lo, .int hi, v] ∧ Rp H h v d ∧ Q (.bl (isBtw lo hi d)) H
theorem ok_is_between (T : Tx K mg) : FnOk P w K mg base CX0 2 T.is_between.f T.is_between.fd ["low", "high", "thing"] spBtw := by
  refine T.is_between.F.ok sc_is_between (fun vs H Q E h => ?_) (fun cdv A outer s H vs Q E hr h => ?_)
  · obtain ⟨_, lo, hi, v, d, rfl, _⟩ := h
    rfl
  · obtain ⟨_, lo, hi, v, d, rfl, r, k⟩ := h
    refine ⟨_, (pss_one (ps_ret (pe_and (pe_call (ok_is_integer T) (hr.mono (by decide)) rfl T.is_integer.g T.is_integer.F.kp T.is_integer.b .nil pass0 (pa_cons (pv 2) pa_nil)) (pe_one (pe_chain op_le op_le (pv 0) (pv 2) (pv 1)))))), ?_⟩
    refine ⟨_, rfl, _, v, d, rfl, r, _, rfl, ?_⟩
    cases r with
    | int i =>
      refine iteT ?_
      refine ⟨_, rfl, _, rfl, _, _, rfl, rfl, _, rfl, ?_⟩
      by_cases h1 : lo ≤ i
      · rw [decide_eq_true h1]
        refine iteT ?_
        refine ⟨_, rfl, _, _, rfl, rfl, ?_⟩
        have : isBtw lo hi (.int i) = decide (i ≤ hi) := by show (decide (lo ≤ i) && decide (i ≤ hi)) = _; rw [decide_eq_true h1]; rfl
        rw [this] at k
        exact k
      · rw [decide_eq_false h1]
        refine iteF ?_
        have : isBtw lo hi (.int i) = false := by show (decide (lo ≤ i) && decide (i ≤ hi)) = _; rw [decide_eq_false h1]; rfl
        rw [this] at k
        exact k
    | _ => exact iteF k
def isTupN (n : Int) : D → Bool | .tup ds => decide ((ds.length : Int) = n) | _ => false
def spTupN : Sp := fun vs H Q _ => ∃ (h : Addr) (n : Int) (v : V) (d : D), vs = [.int n, v] ∧ Rp H h v d ∧ Q (.bl (isTupN n d)) H
theorem int_eqd (a b : Int) : decide (V.int a = V.int b) = decide (a = b) := by
  by_cases e : a = b
  · subst e; simp
  · rw [decide_eq_false e, decide_eq_false fun z => e (V.int.inj z)]
theorem ok_is_tuple (T : Tx K mg) : FnOk P w K mg base CX0 1 T.is_tuple.f T.is_tuple.fd ["many", "thing"] spTupN := by
  refine T.is_tuple.F.ok sc_is_tuple (fun vs H Q E h => ?_) (fun cdv A outer s H vs Q E hr h => ?_)
  · obtain ⟨_, n, v, d, rfl, _⟩ := h
    rfl
  · obtain ⟨ha, n, v, d, rfl, r, k⟩ := h
    refine ⟨_, (pss_one (ps_ret (pe_and (pe_callB call_isi (by rfl) T.n_isinstance (by decide +kernel) (pa_cons (pv 1) (pa_cons (pe_bltn (v := .ty "tuple") (by rfl) T.n_tuple (by decide +kernel) rfl) pa_nil))) (pe_one (pe_cmpR op_eq (pe_callB call_len_seq (by rfl) T.n_len (by decide +kernel) (pa_cons (pv 1) pa_nil)) (pv 0) (nomark _)))))), ?_⟩
    refine ⟨_, rfl, _, _, _, _, _, rfl, .ty "tuple", r.ty, kit_ty (kitT d), _, rfl, ?_⟩
    cases r with
    | @tup _ xs ds e z ra =>
      refine iteT ?_
      refine ⟨_, rfl, _, _, rfl, .inr (SqT.of e), _, rfl, rfl, ?_⟩
      rw [int_eqd, ra.len]
      exact k
    | _ => exact iteF k
def spInts : Sp := fun vs H Q _ => ∃ (h : Addr) (n : Int) (v : V) (d : D), vs = [.int n, v] ∧ Rp H h v d ∧ ∀ H', Same H H' → Q (.bl (areInts n d)) H'
theorem areInts_tup (n : Int) (ds : List D) : areInts n (.tup ds) = (decide ((ds.length : Int) = n) && ds.all isInt) := rfl
theorem areBtw_tup (n lo hi : Int) (ds : List D) : areBtw n lo hi (.tup ds) = (decide ((ds.length : Int) = n) && ds.all (isBtw lo hi)) := rfl
theorem areRoads_tup (n : Int) (ds : List D) : areRoads n (.tup ds) = (decide (1 ≤ ds.length) && decide (ds.length ≤ 24) && ds.all (isBE n)) := rfl
theorem map_all (ds : List D) (p : D → Bool) : (ds.map p).all id = ds.all p := by rw [List.all_map]; rfl
theorem ok_are_integers (T : Tx K mg) : FnOk P w K mg base CX0 2 T.are_integers.f T.are_integers.fd ["many", "thing"] spInts := by
  refine T.are_integers.F.ok sc_are_integers (fun vs H Q E h => ?_) (fun cdv A outer s H vs Q E hr h => ?_)
  · obtain ⟨_, n, v, d, rfl, _⟩ := h
    rfl
  · obtain ⟨ha, n, v, d, rfl, r, k⟩ := h
    refine ⟨_, (pss_one (ps_ret (pe_and (pe_call (ok_is_tuple T) (hr.mono (by decide)) rfl T.is_tuple.g T.is_tuple.F.kp T.is_tuple.b .nil pass0 (pa_cons (pv 0) (pa_cons (pv 1) pa_nil))) (pe_one (pe_callB (cr_all rfl) (by rfl) T.n_all (by decide +kernel) (pa_cons (pe_lc (own := [("one", 2)]) (g := (gName 2)) (tt := tYes) rfl sc_are_integers.nd (pi_tup (pv 1)) (blkOk_by (own := [("one", 2)]) (N := ["many", "thing", "one"]) (sc := defScope s_are_integers) (by decide +kernel)) (fun _ _ _ _ _ => (pg_name (i := 2) sc_are_integers.nd rfl (Or.inl rfl))) (fun _ _ _ _ _ => pts_nil) (fun _ _ _ _ _ => (by exact (pe_call (ok_is_integer T) (hr.mono (by decide)) rfl T.is_integer.g T.is_integer.F.kp T.is_integer.b .nil pass0 (pa_cons (pv 2) pa_nil))))) pa_nil)))))), ?_⟩
    refine ⟨_, rfl, _, rfl, ha, n, v, d, rfl, r, _, rfl, ?_⟩
    cases r with
    | @tup _ xs ds e z ra =>
      show if decide ((ds.length : Int) = n) = true then _ else _
      by_cases hn : (ds.length : Int) = n
      · rw [decide_eq_true hn]
        refine iteT ?_
        refine ⟨_, rfl, _, rfl, ⟨_, SqT.of e⟩, fun A hA => all_tup e z ra isInt hA (fun x => rfl) (fun x d H' Q' _ _ rp q => ?_) (fun H' sm sl => ?_)⟩
        · exact ⟨_, rfl, ha, _, _, rfl, rp, q _ (Same.refl _)⟩
        · refine ⟨_, _, rfl, sl, ?_⟩
          rw [map_all]
          have := k H' sm
          rw [areInts_tup, decide_eq_true hn] at this
          exact this
      · rw [decide_eq_false hn]
        refine iteF ?_
        have := k H (Same.refl _)
        rw [areInts_tup, decide_eq_false hn] at this
        exact this
    | _ => exact iteF (k H (Same.refl _))
def spBtws : Sp := fun vs H Q _ => ∃ (h : Addr) (n lo hi : Int) (v : V) (d : D), vs = [.int n, .int lo, .int hi, v] ∧ Rp H h v d ∧ ∀ H', Same H H' → Q (.bl (areBtw n lo hi d)) H'
theorem btw_int (lo hi : Int) (ds : List D) : (ds.all isInt && ds.all (isBtw lo hi)) = ds.all (isBtw lo hi) := by
  cases e : ds.all (isBtw lo hi) with
  | false => rw [Bool.and_false]
  | true =>
    rw [Bool.and_true, List.all_eq_true]
    rw [List.all_eq_true] at e
    intro d hd
    have := e d hd
    cases d <;> first | rfl | exact Bool.noConfusion this
theorem ok_are_between (T : Tx K mg) : FnOk P w K mg base CX0 3 T.are_between.f T.are_between.fd ["many", "low", "high", "thing"] spBtws := by
  refine T.are_between.F.ok sc_are_between (fun vs H Q E h => ?_) (fun cdv A outer s H vs Q E hr h => ?_)
  · obtain ⟨_, n, lo, hi, v, d, rfl, _⟩ := h
    rfl
  · obtain ⟨ha, n, lo, hi, v, d, rfl, r, k⟩ := h
    refine ⟨_, (pss_one (ps_ret (pe_and (pe_call (ok_are_integers T) (hr.mono (by decide)) rfl T.are_integers.g T.are_integers.F.kp T.are_integers.b .nil pass0 (pa_cons (pv 0) (pa_cons (pv 3) pa_nil))) (pe_one (pe_callB (cr_all rfl) (by rfl) T.n_all (by decide +kernel) (pa_cons (pe_lc (own := [("one", 4)]) (g := (gName 4)) (tt := tYes) rfl sc_are_between.nd (pi_tup (pv 3)) (blkOk_by (own := [("one", 4)]) (N := ["many", "low", "high", "thing", "one"]) (sc := defScope s_are_between) (by decide +kernel)) (fun _ _ _ _ _ => (pg_name (i := 4) sc_are_between.nd rfl (Or.inl rfl))) (fun _ _ _ _ _ => pts_nil) (fun _ _ _ _ _ => (by exact (pe_chain op_le op_le (pv 1) (pv 4) (pv 2))))) pa_nil)))))), ?_⟩
    refine ⟨_, rfl, _, rfl, ha, _, _, _, rfl, r, fun H1 s1 => ⟨_, rfl, ?_⟩⟩
    cases e1 : areInts n d with
    | false =>
      refine iteF ?_
      have : areBtw n lo hi d = false := by
        cases d with
        | tup ds =>
          show (decide _ && ds.all (isBtw lo hi)) = false
          rw [← btw_int, ← Bool.and_assoc]
          have e2 : (decide ((ds.length : Int) = n) && ds.all isInt) = false := e1
          rw [e2]; rfl
        | _ => rfl
      have q := k H1 s1
      rw [this] at q
      exact q
    | true =>
      refine iteT ?_
      cases r.same s1 with
      | tup e z ra =>
        refine ⟨_, rfl, _, rfl, ⟨_, SqT.of e⟩, fun A hA => all_tup e z ra (isBtw lo hi) hA (fun x => rfl) (fun x d H' Q' hd _ rp q => ?_) (fun H' sm sl => ?_)⟩
        · have e2 := (Bool.and_eq_true_iff.mp e1).2
          rw [List.all_eq_true] at e2
          have e3 := e2 d hd
          cases rp with
          | int i =>
            refine ⟨_, rfl, _, rfl, _, _, rfl, rfl, _, rfl, ?_⟩
            by_cases h1 : lo ≤ i
            · rw [decide_eq_true h1]
              refine iteT ?_
              refine ⟨_, rfl, _, _, rfl, rfl, ?_⟩
              have : isBtw lo hi (.int i) = decide (i ≤ hi) := by show (decide (lo ≤ i) && decide (i ≤ hi)) = _; rw [decide_eq_true h1]; rfl
              have q2 := q _ (Same.refl _)
              rw [this] at q2
              exact q2
            · rw [decide_eq_false h1]
              refine iteF ?_
              have : isBtw lo hi (.int i) = false := by show (decide (lo ≤ i) && decide (i ≤ hi)) = _; rw [decide_eq_false h1]; rfl
              have q2 := q _ (Same.refl _)
              rw [this] at q2
              exact q2
          | _ => exact Bool.noConfusion e3
        · refine ⟨_, _, rfl, sl, ?_⟩
          rw [map_all]
          have := k H' (s1.trans sm)
          have e4 := (Bool.and_eq_true_iff.mp e1).1
          rw [areBtw_tup, e4] at this
          exact this
      | _ => exact Bool.noConfusion e1
def spBE : Sp := fun vs H Q _ => ∃ (h : Addr) (n : Int) (v : V) (d : D), vs = [.int n, v] ∧ Rp H h v d ∧ ∀ H', Same H H' → Q (.bl (isBE n d)) H'
theorem be_false {n : Int} {d : D} (e : areBtw 2 0 (n - 1) d = false) : isBE n d = false := by
  unfold isBE
  rw [e]; rfl
theorem be_true {n : Int} {d : D} (e : areBtw 2 0 (n - 1) d = true) : ∃ a b, d = .tup [.int a, .int b] ∧ isBE n d = !decide (a = b) := by
  have e0 := e
  cases d with
  | tup ds =>
    rw [areBtw_tup] at e
    obtain ⟨h1, h2⟩ := Bool.and_eq_true_iff.mp e
    have h3 := of_decide_eq_true h1
    match ds, h3 with
    | [x, y], _ =>
      rw [List.all_cons, List.all_cons, List.all_nil, Bool.and_true] at h2
      obtain ⟨h4, h5⟩ := Bool.and_eq_true_iff.mp h2
      cases x with
      | int a =>
        cases y with
        | int b =>
          refine ⟨a, b, rfl, ?_⟩
          unfold isBE
          rw [e0]; rfl
        | _ => exact Bool.noConfusion h5
      | _ => exact Bool.noConfusion h4
    | [], h => simp at h
    | [_], h => simp at h
    | _ :: _ :: _ :: _, h => simp at h; omega
  | _ => exact Bool.noConfusion e
theorem ok_is_begin_and_end (T : Tx K mg) : FnOk P w K mg base CX0 4 T.is_begin_and_end.f T.is_begin_and_end.fd ["houses", "thing"] spBE := by
  refine T.is_begin_and_end.F.ok sc_is_begin_and_end (fun vs H Q E h => ?_) (fun cdv A outer s H vs Q E hr h => ?_)
  · obtain ⟨_, n, v, d, rfl, _⟩ := h
    rfl
  · obtain ⟨ha, n, v, d, rfl, r, k⟩ := h
    refine ⟨_, (pss_one (ps_ret (pe_and (pe_call (ok_are_between T) (hr.mono (by decide)) rfl T.are_between.g T.are_between.F.kp T.are_between.b .nil pass0 (pa_cons pe_int (pa_cons pe_int (pa_cons (pe_op op_sub (pv 0) pe_int) (pa_cons (pv 1) pa_nil))))) (pe_one (pe_cmpR op_ne (pe_ix ix_tup (pv 1) pe_int (fun _ _ => rfl)) (pe_ix ix_tup (pv 1) pe_int (fun _ _ => rfl)) (nomark _)))))), ?_⟩
    refine ⟨_, rfl, _, _, rfl, rfl, _, rfl, ha, _, _, _, _, _, rfl, r, fun H1 s1 => ⟨_, rfl, ?_⟩⟩
    cases e1 : areBtw 2 0 (n - 1) d with
    | false =>
      refine iteF ?_
      have q := k H1 s1
      rw [be_false e1] at q
      exact q
    | true =>
      refine iteT ?_
      obtain ⟨a, b, rfl, e2⟩ := be_true e1
      have q := k H1 s1
      rw [e2] at q
      cases r.same s1 with
      | tup e z ra =>
        cases ra with
        | cons r1 ra =>
          cases ra with
          | cons r2 ra =>
            cases ra
            cases r1
            cases r2
            refine ⟨_, rfl, _, _, _, _, rfl, rfl, SqT.of e, atI_nat (j := 0) rfl, _, rfl, _, _, _, _, rfl, rfl, SqT.of e, atI_nat (j := 1) rfl, rfl, ?_⟩
            rw [int_eqd]
            exact q
def spRoads : Sp := fun vs H Q _ => ∃ (h : Addr) (n : Int) (v : V) (d : D), vs = [.int n, v] ∧ Rp H h v d ∧ ∀ H', Same H H' → Q (.bl (areRoads n d)) H'
theorem ok_are_roads (T : Tx K mg) : FnOk P w K mg base CX0 5 T.are_roads.f T.are_roads.fd ["houses", "thing"] spRoads := by
  refine T.are_roads.F.ok sc_are_roads (fun vs H Q E h => ?_) (fun cdv A outer s H vs Q E hr h => ?_)
  · obtain ⟨_, n, v, d, rfl, _⟩ := h
    rfl
  · obtain ⟨ha, n, v, d, rfl, r, k⟩ := h
    refine ⟨_, (pss_one (ps_ret (pe_and (pe_callB call_isi (by rfl) T.n_isinstance (by decide +kernel) (pa_cons (pv 1) (pa_cons (pe_bltn (v := .ty "tuple") (by rfl) T.n_tuple (by decide +kernel) rfl) pa_nil))) (pe_and (pe_chain op_le op_le pe_int (pe_callB call_len_seq (by rfl) T.n_len (by decide +kernel) (pa_cons (pv 1) pa_nil)) (pe_glob (v := .int 24) rfl T.c_MOST_ROADS.choose_spec ⟨_, rfl⟩)) (pe_one (pe_callB (cr_all rfl) (by rfl) T.n_all (by decide +kernel) (pa_cons (pe_lc (own := [("road", 2)]) (g := (gName 2)) (tt := tYes) rfl sc_are_roads.nd (pi_tup (pv 1)) (blkOk_by (own := [("road", 2)]) (N := ["houses", "thing", "road"]) (sc := defScope s_are_roads) (by decide +kernel)) (fun _ _ _ _ _ => (pg_name (i := 2) sc_are_roads.nd rfl (Or.inl rfl))) (fun _ _ _ _ _ => pts_nil) (fun _ _ _ _ _ => (by exact (pe_call (ok_is_begin_and_end T) (hr.mono (by decide)) rfl T.is_begin_and_end.g T.is_begin_and_end.F.kp T.is_begin_and_end.b .nil pass0 (pa_cons (pv 0) (pa_cons (pv 2) pa_nil)))))) pa_nil))))))), ?_⟩
    refine ⟨_, rfl, _, _, _, _, _, rfl, .ty "tuple", r.ty, kit_ty (kitT d), _, rfl, ?_⟩
    cases r with
    | @tup _ xs ds e z ra =>
      refine iteT ?_
      refine ⟨_, rfl, _, _, rfl, .inr (SqT.of e), _, _, rfl, rfl, _, rfl, ?_⟩
      rw [ra.len]
      by_cases h1 : 1 ≤ ds.length
      · rw [decide_eq_true (show (1 : Int) ≤ (ds.length : Int) by omega)]
        refine iteT ?_
        refine ⟨_, _, rfl, rfl, _, rfl, ?_⟩
        by_cases h2 : ds.length ≤ 24
        · rw [decide_eq_true (show (ds.length : Int) ≤ 24 by omega)]
          refine iteT ?_
          refine ⟨_, rfl, _, rfl, ⟨_, SqT.of e⟩, fun A hA => all_tup e z ra (isBE n) hA (fun x => rfl) (fun x d H' Q' _ _ rp q => ?_) (fun H' sm sl => ?_)⟩
          · exact ⟨_, rfl, _, rfl, ha, _, _, _, rfl, rp, q⟩
          · refine ⟨_, _, rfl, sl, ?_⟩
            rw [map_all]
            have := k H' sm
            rw [areRoads_tup, decide_eq_true h1, decide_eq_true h2] at this
            exact this
        · rw [decide_eq_false (show ¬ (ds.length : Int) ≤ 24 by omega)]
          refine iteF ?_
          have := k H (Same.refl _)
          rw [areRoads_tup, decide_eq_true h1, decide_eq_false h2] at this
          exact this
      · rw [decide_eq_false (show ¬ (1 : Int) ≤ (ds.length : Int) by omega)]
        refine iteF ?_
        have := k H (Same.refl _)
        rw [areRoads_tup, decide_eq_false h1] at this
        exact ⟨_, rfl, iteF this⟩
    | _ => exact iteF (k H (Same.refl _))
theorem btw_shape {lo hi : Int} {d : D} (e : isBtw lo hi d = true) : ∃ n, d = .int n := by
  cases d with
  | int n => exact ⟨n, rfl⟩
  | _ => exact Bool.noConfusion e
theorem roads_shape {n : Int} {d : D} (e : areRoads n d = true) : ∃ ds, d = .tup ds := by
  cases d with
  | tup ds => exact ⟨ds, rfl⟩
  | _ => exact Bool.noConfusion e
theorem tup_inv {H : Hp} {h : Addr} {v : V} {ds : List D} (r : Rp H h v (.tup ds)) : ∃ a xs, v = .ref a ∧ H a = some (.tup xs) ∧ xs.length ≤ 100000 ∧ RpA H h xs ds := by
  cases r with
  | tup e z ra => exact ⟨_, _, rfl, e, z, ra⟩
theorem int_inv {H : Hp} {h : Addr} {v : V} {i : Int} (r : Rp H h v (.int i)) : v = .int i := by
  cases r; rfl
theorem putF_lt {f : Str} {v : V} : ∀ {fs : List (Str × V)} {n : Nat}, fs.length < n → (putF f v fs).length < n + 1
  | [], n, h => by show 1 < n + 1; have : 0 < n := h; omega
  | (g, w) :: fs, n, h => by
    have h' : fs.length + 1 < n := h
    show (if g = f then (g, v) :: fs else (g, w) :: putF f v fs).length < n + 1
    by_cases e : g = f
    · rw [if_pos e]; show fs.length + 1 < n + 1; omega
    · rw [if_neg e]
      have := putF_lt (f := f) (v := v) (fs := fs) (n := n - 1) (by omega)
      show (putF f v fs).length + 1 < n + 1
      omega
/-- the error's own dict behind it -/
def spInitE (C : Addr) (f : Str) : Sp := fun vs H Q _ => ∃ (a : Addr) (y : V), vs = [.ref a, y] ∧ H a = some (exo a C none) ∧
  ∀ dx, H dx = none → dx ≠ a → Q .non (upd (upd H dx (exd dx [(f, y)])) a (exo a C (some dx)))
theorem ok_BadWeb___init (T : Tx K mg) : FnOk P w K mg base (L2.CX P w) 1 T.x_BadWeb.f T.x_BadWeb.fd ["self", "part"] (spInitE T.x_BadWeb.C "part") := by
  refine T.x_BadWeb.F.okX sc_BadWeb___init (fun vs H Q E h => ?_) (fun cdv A outer s H vs Q E hr h => ?_)
  · obtain ⟨a, y, rfl, _⟩ := h
    rfl
  · obtain ⟨a, y, rfl, ha, k⟩ := h
    refine ⟨_, pss_one (ps_ost (pv 0) (pv 1)), ?_⟩
    exact ⟨_, rfl, _, rfl, a, T.x_BadWeb.C, rfl, T.x_BadWeb.T, T.x_BadWeb.no _ (by simp), .inl ⟨ha, fun dx n ne => k dx n ne⟩⟩
def dlen : D → Nat | .tup ds => ds.length | _ => 0
def num : D → Int | .int i => i | _ => 0
/-- the first part that is not as told -/
def due (d1 d2 d3 d4 : D) : Option Str :=
  if isBtw 2 12 d1 = false then some "houses" else if areRoads (num d1) d2 = false then some "roads"
  else if areBtw (dlen d2) 1 3 d3 = false then some "rooms" else if areBtw (dlen d2) 1 3 d4 = false then some "times" else none
def webF (v1 v2 v3 v4 : V) : List (Str × V) := putF "times" v4 (putF "rooms" v3 (putF "roads" v2 (putF "houses" v1 [])))
def spWeb (C CB : Addr) : Sp := fun vs H Q E => ∃ (h p dx : Addr) (v1 v2 v3 v4 : V) (d1 d2 d3 d4 : D), vs = [.ref p, v1, v2, v3, v4] ∧ H p = some (.ins C dx []) ∧
  Rp H h v1 d1 ∧ Rp H h v2 d2 ∧ Rp H h v3 d3 ∧ Rp H h v4 d4 ∧
  (due d1 d2 d3 d4 = none → ∀ H', But p H H' → H' p = some (.ins C dx (webF v1 v2 v3 v4)) → Q .non H') ∧
  (∀ part, due d1 d2 d3 d4 = some part → ∀ H' d, Same H H' → H' d = some (.xd [("part", .str part)]) → E (.ref CB) (some d) H')
theorem err_same {H H1 : Hp} {a d C : Addr} {f : Str} {y : V} (s : Same H H1) (ha : H1 a = none) (hd : (upd H1 a (exo a C none)) d = none) (ne : d ≠ a) :
    Same H (upd (del (upd (upd (upd H1 a (exo a C none)) d (exd d [(f, y)])) a (exo a C (some d))) a) d (.xd [(f, y)])) := fun b o q => by
  have q1 := s b o q
  have n1 : b ≠ a := ne_of_none q1 ha
  have n2 : b ≠ d := fun z => by subst z; rw [upd_ne n1, q1] at hd; cases hd
  rw [upd_ne n2, del_ne n1, upd_ne n1, upd_ne n2, upd_ne n1]
  exact q1
theorem ok_Web___init (T : Tx K mg) : FnOk P w K mg base (L2.CX P w) 7 T.Web.f T.Web.fd ["self", "houses", "roads", "rooms", "times"] (spWeb T.Web.C T.x_BadWeb.C) := by
  refine T.Web.F.okX sc_Web___init (fun vs H Q E h => ?_) (fun cdv A outer s H vs Q E hr h => ?_)
  · obtain ⟨ha, p, dx, v1, v2, v3, v4, d1, d2, d3, d4, rfl, _⟩ := h
    rfl
  · obtain ⟨ha, p, dx, v1, v2, v3, v4, d1, d2, d3, d4, rfl, hp, r1, r2, r3, r4, kq, ke⟩ := h
    refine ⟨_, (pss_cons (ps_if (pt_not (pt_val (pe_call (ok_is_between T) (hr.mono (by decide)) rfl T.is_between.g T.is_between.F.kp T.is_between.b .nil pass0 (pa_cons pe_int (pa_cons (pe_glob (v := .int 12) rfl T.c_MOST_HOUSES.choose_spec ⟨_, rfl⟩) (pa_cons (pv 1) pa_nil))))))
      (pss_one (ps_raise rfl (takes_of rfl rfl rfl rfl) (pmk_oex T.x_BadWeb.T T.x_BadWeb.iC T.x_BadWeb.tI (ok_BadWeb___init T) (hr.mono (by decide)) T.x_BadWeb.b .nil passL rfl T.x_BadWeb.g (pa_cons pe_str pa_nil))))
      pss_nil)
      (pss_cons (ps_if (pt_not (pt_val (pe_call (ok_are_roads T) (hr.mono (by decide)) rfl T.are_roads.g T.are_roads.F.kp T.are_roads.b .nil pass0 (pa_cons (pv 1) (pa_cons (pv 2) pa_nil)))))
      (pss_one (ps_raise rfl (takes_of rfl rfl rfl rfl) (pmk_oex T.x_BadWeb.T T.x_BadWeb.iC T.x_BadWeb.tI (ok_BadWeb___init T) (hr.mono (by decide)) T.x_BadWeb.b .nil passL rfl T.x_BadWeb.g (pa_cons pe_str pa_nil))))
      pss_nil)
      (pss_cons (ps_if (pt_not (pt_val (pe_call (ok_are_between T) (hr.mono (by decide)) rfl T.are_between.g T.are_between.F.kp T.are_between.b .nil pass0 (pa_cons (pe_callB call_len_seq (by rfl) T.n_len (by decide +kernel) (pa_cons (pv 2) pa_nil)) (pa_cons pe_int (pa_cons (pe_glob (v := .int 3) rfl T.c_MOST_ROOMS.choose_spec ⟨_, rfl⟩) (pa_cons (pv 3) pa_nil)))))))
      (pss_one (ps_raise rfl (takes_of rfl rfl rfl rfl) (pmk_oex T.x_BadWeb.T T.x_BadWeb.iC T.x_BadWeb.tI (ok_BadWeb___init T) (hr.mono (by decide)) T.x_BadWeb.b .nil passL rfl T.x_BadWeb.g (pa_cons pe_str pa_nil))))
      pss_nil)
      (pss_cons (ps_if (pt_not (pt_val (pe_call (ok_are_between T) (hr.mono (by decide)) rfl T.are_between.g T.are_between.F.kp T.are_between.b .nil pass0 (pa_cons (pe_callB call_len_seq (by rfl) T.n_len (by decide +kernel) (pa_cons (pv 2) pa_nil)) (pa_cons pe_int (pa_cons (pe_glob (v := .int 3) rfl T.c_LONGEST_TIME.choose_spec ⟨_, rfl⟩) (pa_cons (pv 4) pa_nil)))))))
      (pss_one (ps_raise rfl (takes_of rfl rfl rfl rfl) (pmk_oex T.x_BadWeb.T T.x_BadWeb.iC T.x_BadWeb.tI (ok_BadWeb___init T) (hr.mono (by decide)) T.x_BadWeb.b .nil passL rfl T.x_BadWeb.g (pa_cons pe_str pa_nil))))
      pss_nil)
      (pss_cons (ps_fld (pv 0) (pv 1) rfl)
      (pss_cons (ps_fld (pv 0) (pv 2) rfl)
      (pss_cons (ps_fld (pv 0) (pv 3) rfl)
      (pss_one (ps_fld (pv 0) (pv 4) rfl))))))))), ?_⟩
    have raise : ∀ (part : Str) (H1 : Hp), Same H H1 → due d1 d2 d3 d4 = some part → ∀ a, H1 a = none →
        spInitE T.x_BadWeb.C "part" [.ref a, .str part] (upd H1 a (exo a T.x_BadWeb.C none)) (fun v H2 => v = .non ∧ ∃ (d : Addr) (fs : List (Str × V)), H2 a = some (exo a T.x_BadWeb.C (some d)) ∧ H2 d = some (exd d fs) ∧ H1 d = none ∧
          E (.ref T.x_BadWeb.C) (some d) (upd (del H2 a) d (.xd fs))) (fun _ _ _ => False) := by
      intro part H1 s1 hdue a hA
      refine ⟨a, _, rfl, upd_same, fun d hd nd => ⟨rfl, d, [("part", .str part)], upd_same, ?_, ?_, ?_⟩⟩
      · rw [upd_ne nd, upd_same]
      · rw [upd_ne nd] at hd; exact hd
      · exact ke part hdue _ d (err_same s1 hA hd nd) upd_same
    refine ⟨_, rfl, ha, _, _, _, _, rfl, r1, _, rfl, ?_⟩
    cases e1 : isBtw 2 12 d1 with
    | false =>
      refine iteT ⟨by show 1 ≤ 1000; decide, fun a hA => raise _ H (Same.refl _) (if_pos e1) a hA⟩
    | true =>
    refine iteF ?_
    have x1 : ¬ isBtw 2 12 d1 = false := by rw [e1]; decide
    obtain ⟨n, rfl⟩ := btw_shape e1
    cases r1
    refine ⟨_, rfl, _, rfl, ha, _, _, _, rfl, r2, fun H1 s1 => ⟨_, rfl, ?_⟩⟩
    cases e2 : areRoads n d2 with
    | false =>
      refine iteT ⟨by show 1 ≤ 1000; decide, fun a hA => raise _ H1 s1 ((if_neg x1).trans (if_pos e2)) a hA⟩
    | true =>
    refine iteF ?_
    have x2 : ¬ areRoads (num (.int n)) d2 = false := by show ¬ areRoads n d2 = false; rw [e2]; decide
    obtain ⟨ds, rfl⟩ := roads_shape e2
    obtain ⟨pa, xs, rfl, ea, za, ra⟩ := tup_inv r2
    refine ⟨_, rfl, _, _, rfl, .inr (SqT.of (s1 _ _ ea)), _, rfl, ha, _, _, _, _, _, rfl, r3.same s1, fun H2 s2 => ⟨_, rfl, ?_⟩⟩
    rw [ra.len]
    cases e3 : areBtw (ds.length : Int) 1 3 d3 with
    | false =>
      refine iteT ⟨by show 1 ≤ 1000; decide, fun a hA => raise _ H2 (s1.trans s2) ((if_neg x1).trans ((if_neg x2).trans (if_pos e3))) a hA⟩
    | true =>
    refine iteF ?_
    have x3 : ¬ areBtw (dlen (.tup ds)) 1 3 d3 = false := by show ¬ areBtw (ds.length : Int) 1 3 d3 = false; rw [e3]; decide
    refine ⟨_, rfl, _, _, rfl, .inr (SqT.of (s2 _ _ (s1 _ _ ea))), _, rfl, ha, _, _, _, _, _, rfl, (r4.same s1).same s2, fun H3 s3 => ⟨_, rfl, ?_⟩⟩
    rw [ra.len]
    cases e4 : areBtw (ds.length : Int) 1 3 d4 with
    | false =>
      refine iteT ⟨by show 1 ≤ 1000; decide, fun a hA => raise _ H3 ((s1.trans s2).trans s3) ((if_neg x1).trans ((if_neg x2).trans ((if_neg x3).trans (if_pos e4)))) a hA⟩
    | true =>
    refine iteF ?_
    have x4 : ¬ areBtw (dlen (.tup ds)) 1 3 d4 = false := by show ¬ areBtw (ds.length : Int) 1 3 d4 = false; rw [e4]; decide
    have sm := (s1.trans s2).trans s3
    have no : ∀ f ∈ (["houses", "roads", "rooms", "times"] : List Str), NoAttr K T.Web.C f := T.Web.no
    refine ⟨_, rfl, _, rfl, p, T.Web.C, dx, _, rfl, sm _ _ hp, T.Web.cl, no _ (by simp), (by decide), ?_⟩
    refine ⟨_, rfl, _, rfl, p, T.Web.C, dx, _, rfl, upd_same, T.Web.cl, no _ (by simp), (putF_lt (n := 999) (by decide)), ?_⟩
    refine ⟨_, rfl, _, rfl, p, T.Web.C, dx, _, rfl, upd_same, T.Web.cl, no _ (by simp), (putF_lt (n := 999) (putF_lt (n := 998) (by decide))), ?_⟩
    refine ⟨_, rfl, _, rfl, p, T.Web.C, dx, _, rfl, upd_same, T.Web.cl, no _ (by simp), (putF_lt (n := 999) (putF_lt (n := 998) (putF_lt (n := 997) (by decide)))), ?_⟩
    refine kq ((if_neg x1).trans ((if_neg x2).trans ((if_neg x3).trans (if_neg x4)))) _ (fun b o q n => ?_) upd_same
    rw [upd_ne n, upd_ne n, upd_ne n, upd_ne n]
    exact sm _ _ q
end
end Hc

set_option Elab.async false
set_option linter.all false
set_option maxRecDepth 100000
set_option maxHeartbeats 1000000
set_option autoImplicit false
namespace HT
open PySem PySem.Spec PyProof.Rows
section
variable {prog : Program} {w : World} {A : Around} {E : Value → Shared → Prop} {s : Shared}
theorem adjust_rev (n : Nat) : Builtin.Slice.sliceAdjust none none (-1) (n : Int) = ((n : Int) - 1, -1) := by
  unfold Builtin.Slice.sliceAdjust
  have h1 : ((-1 : Int) < 0) := by omega
  simp only [h1, if_true]
theorem places_rev (n : Nat) : Builtin.Slice.slicePlaces ((n : Int) - 1) (-1) (-1) = n := by
  unfold Builtin.Slice.slicePlaces
  have h1 : ¬ ((-1 : Int) > 0) := by omega
  simp only [h1, if_false]
  split <;> (try simp) <;> omega
theorem sliceApplied_rev {sl : Addr} {n : Nat} {t : Tok} {Q : Int × Int × Nat → Shared → Prop} (hs : s.heap.IsSliceOf sl .none .none (.int (-1) t))
    (h : Q ((n : Int) - 1, -1, n) s) : wpAny (model prog w) A (Builtin.Slice.sliceApplied (.ref sl) (pure (n : Int))) Q E s := by
  obtain ⟨os, hos, hcs, hds⟩ := id hs
  unfold Builtin.Slice.sliceApplied Builtin.Slice.sliceFields
  refine wpAny_bind (wpAny_bind (wpAny_field hos hds (x := .none) rfl (wpAny_bind (wpAny_field hos hds (x := .none) rfl (wpAny_bind (wpAny_field hos hds (x := .int (-1) t) rfl (wpAny_pure ?_)))))))
  refine wpAny_bind (slicePart_ (.int (-1) t) ?_)
  show wpAny _ _ (if ((-1 : Int) == 0) = true then _ else _) _ _ s
  rw [if_neg (by decide)]
  refine wpAny_bind (slicePart_ .none (wpAny_bind (slicePart_ .none (wpAny_bind (wpAny_pure ?_)))))
  show wpAny _ _ (match Builtin.Slice.sliceAdjust none none (-1) (n : Int) with | (lo, hi) => pure (lo, (-1 : Int), Builtin.Slice.slicePlaces lo hi (-1))) _ _ s
  rw [adjust_rev n]
  show wpAny _ _ (pure ((n : Int) - 1, (-1 : Int), Builtin.Slice.slicePlaces ((n : Int) - 1) (-1) (-1))) _ _ s
  rw [places_rev]
  exact wpAny_pure h
theorem fm_congr {α β : Type} {f g : α → Option β} : ∀ l : List α, (∀ x ∈ l, f x = g x) → l.filterMap f = l.filterMap g
  | [], _ => rfl
  | x :: l, h => by
    have e := h x List.mem_cons_self
    have r := fm_congr l fun y hy => h y (List.mem_cons_of_mem _ hy)
    rw [List.filterMap_cons, List.filterMap_cons, e, r]
theorem pick_rev (xs : Array Value) : ((List.range xs.size).filterMap fun (m : Nat) => xs[(((xs.size : Int) - 1) + (m : Int) * (-1)).toNat]?).toArray = xs.toList.reverse.toArray := by
  have e : (List.range xs.size).filterMap (fun (m : Nat) => xs[(((xs.size : Int) - 1) + (m : Int) * (-1)).toNat]?) = (List.range xs.size).filterMap ((xs[·]?) ∘ fun k => xs.size - 1 - k) :=
    fm_congr _ fun m hm => by
      have hm := List.mem_range.mp hm
      have e1 : (((xs.size : Int) - 1) + (m : Int) * (-1)).toNat = xs.size - 1 - m := by omega
      rw [e1]; rfl
  rw [e, ← List.filterMap_map, PySem.W.krv_range, List.filterMap_reverse, PySem.W.krv_all]
theorem getItem_tuple_rev {t sl : Addr} {items : Array Value} {u : Tok} {Q : Value → Shared → Prop} (ht : IsTup s.heap t items) (hs : s.heap.IsSliceOf sl .none .none (.int (-1) u))
    (h : Q (.ref s.heap.objs.size) { s with heap := s.heap.push { cls := .type "tuple", data := .seq items.toList.reverse.toArray } })
    (hsz : items.size ≤ sizeLine) : wpAny (model prog w) A (getItem (.ref t) (.ref sl)) Q E s := by
  have htake : sizeOk (.seq items.toList.reverse.toArray) := by
    show items.toList.reverse.toArray.size ≤ sizeLine
    rw [List.size_toArray, List.length_reverse, Array.length_toList]
    omega
  obtain ⟨os, hos, hcs, hds⟩ := id hs
  have hTs : s.TypeIs (.ref sl) "slice" := ⟨os, hos, hcs⟩
  unfold getItem
  try with_reducible refine wpAny_holding ?_
  first | refine wpAny_bind (wpAny_pure ?_) | skip
  refine wpAny_bind (wpAny_sequenceKey ht.typeIs (by decide) ?_)
  refine wpAny_bind (wpAny_callSpecial?_slot (name := Str.ofString "__getitem__") ht.typeIs PyProof.Rows.slot_tuple_getitem
    (wpAny_call_entry PyProof.Rows.slot_tuple_getitem ht.typeIs entry_tuple_getitem ?_ (args_tuple_getitem _ _)))
  show wpAny _ _ (Builtin.Tuple.tupleItemsOf (.ref t) >>= _) _ _ s
  refine wpAny_bind (tupleItemsOf_ ht ?_)
  refine wpAny_bind (wpAny_typeOf hTs ?_)
  rw [if_pos (by decide)]
  refine wpAny_bind (sliceApplied_rev hs ?_)
  have hno : ¬ ((((items.size : Int) - 1) == 0 && (-1 : Int) == 1 && items.size == items.size) = true) := by
    intro q
    rw [Bool.and_eq_true, Bool.and_eq_true] at q
    exact absurd q.1.2 (by decide)
  show wpAny _ _ (if (((items.size : Int) - 1) == 0 && (-1 : Int) == 1 && items.size == items.size) = true then _ else _) _ _ s
  rw [if_neg hno, pick_rev]
  first
    | exact wpAny_bind (m := Builtin.Tuple.tupleExact _) (wpAny_newObj_type (wpAny_pure ⟨_, rfl, wpAny_pure h⟩) htake)
    | exact wpAny_bind (m := Builtin.Tuple.tupleExact _) (wpAny_newObj_type (wpAny_bind (wpAny_pure (wpAny_pure ⟨_, rfl, wpAny_pure h⟩))) htake)
    | exact wpAny_bind (wpAny_bind (m := Builtin.Tuple.tupleExact _) (wpAny_newObj_type (wpAny_pure (wpAny_pure ⟨_, rfl, wpAny_pure h⟩)) htake))
    | exact wpAny_bind (wpAny_bind (m := Builtin.Tuple.tupleExact _) (wpAny_newObj_type (wpAny_pure ⟨_, rfl, wpAny_pure h⟩) htake))
end
end HT
namespace L2
open PySem PySem.Spec PyProof.Rows
section
variable {X : Cx}
/-- set(t), t a tuple of ints -/
def rSetT (K : PySem.W.Frag) (w : World) : List V → Hp → VK → Prop := fun xs H Q => ∃ (l : Addr) (ns : List Int), xs = [.ref l] ∧ SqT K H l (ns.map V.int) ∧ ns.length ≤ 1000 ∧
  ∀ a n, n ≤ ns.length → H a = none → Q (.ref a) (upd H a (SetO w a (fun j => decide (j ∈ ns)) n))
theorem cr_setT (hc : X.calm = true) : CallR X (.type "set") (rSetT X.K X.w) := by
  intro pins s σ H xs us Q I r h
  obtain ⟨l, ns, rfl, hq, hl, q⟩ := h
  obtain ⟨u, rfl, ru⟩ := vals1 r
  cases ru
  obtain ⟨its, rv, pt, hz⟩ := I.tuple hq
  have hi : IntsAre its.toArray.toList ns := ints_of_vals rv
  refine call_set_tupI ns (I.ok.hd hc) (show s.heap.IsTuple l its.toArray from pt) hi (by unfold scanBound; omega) fun h' tk c R1 hcn k => ?_
  exact ⟨.ref s.heap.objs.size, _, I.laid (t' := tk) (h' := h') (o := SetO X.w s.heap.objs.size (fun j => decide (j ∈ ns)) c) k (Nat.le_refl _) (setO_new R1), rfl, q _ c hcn (I.hok.fresh (Nat.le_refl _))⟩
def tRevT (K : PySem.W.Frag) (te : TE) : TE := fun σ H Q => te σ H fun x H1 => ∃ a xs, x = .ref a ∧ SqT K H1 a xs ∧ ∀ p, H1 p = none → Q (.ref p) (upd H1 p (.tup xs.reverse))
theorem pe_revT {e : Expr} {te : TE} {k : Nat} {p1 p2 p3 pos : Pos} (he : PE X e te) : PE X (.Subscript e (.Slice none none (some (.UnaryOp .USub (.Constant (.int 1) k p1) p2)) p3) pos) (tRevT X.K te) := by
  refine ⟨fun pins s σ H Q I h => ?_⟩
  refine Subscript_ (thn (he.run pins s σ H _ I h) fun v s1 ⟨x, H1, I1, r1, q1⟩ => ?_)
  obtain ⟨a, xs, ex, hx, q⟩ := q1
  subst ex
  cases r1
  have hst : PO X (some (.UnaryOp .USub (.Constant (.int 1) k p1) p2)) (tPart (tUn (rU fun i => .int (-i)) (tC (.int 1)))) := po_some (pe_un un_neg pe_int)
  refine wpAny_Slice (thn (po_none.run pins s1 σ H1 (fun o H2 => o = none ∧ H2 = H1) I1 ⟨rfl, rfl⟩) fun vl s2 ⟨l, H2, I2, pl, el, e2⟩ => ?_)
  subst el e2
  refine thn (po_none.run pins s2 σ H2 (fun o H3 => o = none ∧ H3 = H2) I2 ⟨rfl, rfl⟩) fun vu s3 ⟨u, H3, I3, pu, eu, e3⟩ => ?_
  subst eu e3
  refine thn (hst.run pins s3 σ H3 (fun o H4 => o = some (-1) ∧ H4 = H3) I3 ⟨1, rfl, -1, rfl, rfl, rfl⟩) fun vs s4 ⟨o, H4, I4, ps, eo, e4⟩ => ?_
  subst eo e4
  cases pl
  cases pu
  cases ps with
  | int _ tt =>
  have I5 : Inv X pins σ H4 { s4 with heap := s4.heap.push { cls := .type "slice", data := .fields #[.none, .none, .int (-1) tt] } } := I4.kept (t' := s4.toks) fun b ob q => Heap.get?_push_of_some _ q
  obtain ⟨its, r, ht, hz⟩ := I5.tuple hx
  have hlen := r.length
  show wpAny (model X.prog X.w) X.A (subscriptTail e (.Slice none none (some (.UnaryOp .USub (.Constant (.int 1) k p1) p2)) p3) (.ref a) (.ref s4.heap.objs.size)) (EP X pins σ Q) X.xe { s4 with heap := s4.heap.push { cls := .type "slice", data := .fields #[.none, .none, .int (-1) tt] } }
  refine tail_any (ops := [.ref a, .ref s4.heap.objs.size]) ht.typeIs (PyProof.Rows.slot_tuple_getitem.lookup) ?_ (by with_unfolding_all rfl)
  refine HT.getItem_tuple_rev ht (Heap.IsSliceOf.new _ .none .none (.int (-1) tt)) ?_ (by rw [List.size_toArray]; omega)
  refine ⟨.ref _, _, I5.laid (t' := s4.toks) (o := .tup xs.reverse) (fun b ob q => Heap.get?_push_of_some _ q) (Nat.le_refl _) ?_, rfl, q _ (I5.hok.fresh (Nat.le_refl _))⟩
  exact ⟨by rw [List.length_reverse]; exact hz, _, r.reverse, IsTup.new _ _⟩
end
end L2
namespace Hc
open PySem L2
/-- [f(a, b) for a, b in zip(s, t)]: two tuples, perhaps of unlike lengths -/
theorem lc_zipT {K : PySem.W.Frag} {a b : Addr} {xs ys : List V} {g : TG} {tt : TT} {te : TE} {vs : List Nat} {σ : St} {H1 : Hp} {D : Addr} {Qd : Hp → Prop} (Pv : Nat → Hp → Prop) (h0 : Pv 0 (upd H1 D (.lst [])))
    (hl : ∀ i H, Pv i H → SqT K H a xs ∧ SqT K H b ys)
    (hs : ∀ (i : Nat) (x y : V) (T : Addr) (H : Hp), xs[i]? = some x → ys[i]? = some y → Pv i H → H T = none → g (.ref T) (wipe σ vs) (upd H T (.tup [x, y])) fun σ2 H2 => wipe σ2 vs = wipe σ vs ∧ tt σ2 H2 fun b H3 =>
      if b = true then te σ2 H3 fun y H4 => ∃ acc, H4 D = some (.lst acc) ∧ acc.length < sizeLine ∧ Pv (i + 1) (upd H4 D (.lst (acc ++ [y]))) else Pv (i + 1) H3) (hd : ∀ H, Pv (min xs.length ys.length) H → Qd H) :
    ∃ W : Nat → Nat → Hp → Prop, (∃ m, W 0 m (upd H1 D (.lst []))) ∧ ∀ i m H, W i m H →
      ((RZ.ItzT K a b).stop i H ∧ Qd H) ∨ ((RZ.ItzT K a b).go i H ∧ ∃ Nx : Hp → Prop, (∀ H', Nx H' → ∃ m', m' < m ∧ W (i + 1) m' H') ∧ ∀ x H', (RZ.ItzT K a b).yld i H x H' → g x (wipe σ vs) H' fun σ2 H2 => wipe σ2 vs = wipe σ vs ∧ tt σ2 H2 fun b H3 =>
        if b = true then te σ2 H3 fun y H4 => ∃ acc, H4 D = some (.lst acc) ∧ acc.length < sizeLine ∧ Nx (upd H4 D (.lst (acc ++ [y]))) else Nx H3) := by
  refine ⟨fun i m H => m = min xs.length ys.length - i ∧ i ≤ min xs.length ys.length ∧ Pv i H, ⟨_, rfl, Nat.zero_le _, h0⟩, ?_⟩
  rintro i m H ⟨rfl, hi, p⟩
  obtain ⟨qx, qy⟩ := hl i H p
  by_cases hlt : i < min xs.length ys.length
  · have h1 : i < xs.length := by omega
    have h2 : i < ys.length := by omega
    refine .inr ⟨⟨xs, ys, _, _, qx, qy, List.getElem?_eq_getElem h1, List.getElem?_eq_getElem h2⟩, Pv (i + 1), fun H' p' => ⟨min xs.length ys.length - (i + 1), by omega, rfl, hlt, p'⟩, fun v H' y => ?_⟩
    obtain ⟨T, x', y', rfl, hT, rfl, f1, f2⟩ := y
    exact hs i x' y' T H (f1 xs qx) (f2 ys qy) p hT
  · have e : i = min xs.length ys.length := by omega
    subst e
    refine .inl ⟨⟨xs, ys, qx, qy, ?_⟩, hd H p⟩
    omega
end Hc

set_option Elab.async false
set_option linter.all false
set_option maxRecDepth 100000
set_option maxHeartbeats 1000000
set_option autoImplicit false
namespace Hc
open PySem L2
def bg : D → Int | .tup (.int a :: _) => a | _ => 0
def en : D → Int | .tup (_ :: .int b :: _) => b | _ => 0
def dAt (ds : List D) (i : Int) : D := ds.getD i.toNat .non
/-- neighbours -/
def adj (R : Int → Int → Bool) (ns : List Int) : Bool := (List.range (ns.length - 1)).all fun j => R (ns.getD j 0) (ns.getD (j + 1) 0)
def nums : D → List Int | .tup ds => ds.map num | _ => []
def isRoad (rds : List D) (d : D) : Bool := isBtw 0 ((rds.length : Int) - 1) d
def isLot (rds : List D) : D → Bool
  | .tup ds => ds.all (isRoad rds) && adj (fun a b => decide (a < b)) (ds.map num)
  | _ => false
def nextL (rds : List D) (r : Int) : List Nat := (List.range rds.length).filter fun j => decide (bg (rds.getD j .non) = en (dAt rds r))
/-- a web's object at p -/
structure WebO (C : Addr) (H : Hp) (h p : Addr) (n : Int) (rds : List D) : Prop where
  ex : ∃ (dx : Addr) (v1 v2 v3 v4 : V), H p = some (.ins C dx (webF v1 v2 v3 v4)) ∧ Rp H h v2 (.tup rds)
  all : rds.all (isBE n) = true
  l1 : 1 ≤ rds.length
  l2 : rds.length ≤ 24
theorem WebO.same {C : Addr} {H H' : Hp} {h p : Addr} {n : Int} {rds : List D} (w : WebO C H h p n rds) (s : Same H H') : WebO C H' h p n rds := by
  obtain ⟨⟨dx, v1, v2, v3, v4, e, r⟩, a, b, c⟩ := w
  exact ⟨⟨dx, v1, v2, v3, v4, s _ _ e, r.same s⟩, a, b, c⟩
theorem webN {a b : Str} (h : ¬ a = b) : ¬ a = b := h
theorem btw_of {lo hi i : Int} (a : lo ≤ i) (b : i ≤ hi) : isBtw lo hi (.int i) = true := by
  show (decide (lo ≤ i) && decide (i ≤ hi)) = true
  rw [decide_eq_true a, decide_eq_true b]; rfl
theorem RpA.ints {H : Hp} {h : Addr} : ∀ ns : List Int, RpA H h (ns.map V.int) (ns.map D.int)
  | [] => .nil
  | n :: r => .cons (.int n) (RpA.ints r)
theorem RpA.rep {H : Hp} {h : Addr} {v : V} {d : D} (r : Rp H h v d) : ∀ n : Nat, RpA H h (List.replicate n [v]).flatten (List.replicate n d)
  | 0 => .nil
  | n + 1 => by
    rw [List.replicate_succ, List.replicate_succ, List.flatten_cons]
    exact .cons r (RpA.rep r n)
theorem tyes {σ : St} {H : Hp} {A B : Hp → Prop} (h : A H) : tYes σ H (fun b H3 => if b = true then A H3 else B H3) := by
  unfold tYes
  show if true = true then A H else B H
  rw [if_pos rfl]
  exact h
theorem be_of {n a b : Int} (a0 : 0 ≤ a) (a1 : a < n) (b0 : 0 ≤ b) (b1 : b < n) (ne : a ≠ b) : isBE n (.tup [.int a, .int b]) = true := by
  unfold isBE
  rw [areBtw_tup, List.all_cons, List.all_cons, List.all_nil, btw_of a0 (by omega), btw_of b0 (by omega)]
  show (decide (((2 : Nat) : Int) = 2) && (true && (true && true)) && !decide (a = b)) = true
  rw [decide_eq_false ne]; decide
theorem be_full {n : Int} {d : D} (e : isBE n d = true) : ∃ a b, d = .tup [.int a, .int b] ∧ 0 ≤ a ∧ a < n ∧ 0 ≤ b ∧ b < n ∧ a ≠ b := by
  have e1 := (Bool.and_eq_true_iff.mp e).1
  obtain ⟨a, b, rfl, e2⟩ := be_true e1
  rw [e] at e2
  have ne : a ≠ b := fun z => by rw [decide_eq_true z] at e2; cases e2
  rw [areBtw_tup, List.all_cons, List.all_cons, List.all_nil, Bool.and_true] at e1
  obtain ⟨_, e3⟩ := Bool.and_eq_true_iff.mp e1
  obtain ⟨h4, h5⟩ := Bool.and_eq_true_iff.mp e3
  obtain ⟨p1, p2⟩ := Bool.and_eq_true_iff.mp (show (decide (0 ≤ a) && decide (a ≤ n - 1)) = true from h4)
  obtain ⟨p3, p4⟩ := Bool.and_eq_true_iff.mp (show (decide (0 ≤ b) && decide (b ≤ n - 1)) = true from h5)
  have q1 := of_decide_eq_true p1
  have q2 := of_decide_eq_true p2
  have q3 := of_decide_eq_true p3
  have q4 := of_decide_eq_true p4
  exact ⟨a, b, rfl, q1, by omega, q3, by omega, ne⟩
theorem ring_ne {b x n : Int} (b0 : 0 ≤ b) (b1 : b < n) (x0 : 0 ≤ x) (x1 : x < n - 1) : b ≠ (b + 1 + x).fmod n := by
  rw [Int.fmod_eq_emod_of_nonneg _ (by omega)]
  by_cases h : b + 1 + x < n
  · rw [Int.emod_eq_of_lt (by omega) h]; omega
  · have e : (b + 1 + x) % n = b + 1 + x - n := by
      rw [← Int.sub_emod_right, Int.emod_eq_of_lt (by omega) (by omega)]
    rw [e]; omega
/-- a tuple of natural numbers -/
def nD (ns : List Nat) : D := .tup (ns.map fun j => .int (j : Nat))
theorem nD_inv {H : Hp} {h : Addr} {v : V} {ns : List Nat} (r : Rp H h v (nD ns)) : ∃ a, v = .ref a ∧ H a = some (.tup (ns.map fun j => V.int (j : Nat))) ∧ ns.length ≤ 100000 := by
  obtain ⟨a, xs, rfl, e, z, ra⟩ := tup_inv r
  have key : ∀ {xs : List V} {ns : List Nat}, RpA H h xs (ns.map fun j => D.int (j : Nat)) → xs = ns.map fun j => V.int (j : Nat) := by
    intro xs ns
    induction ns generalizing xs with
    | nil => intro r; cases r; rfl
    | cons n ns ih =>
      intro r
      cases r with
      | cons r1 r2 => cases r1; rw [ih r2]; rfl
  have := key ra
  subst this
  rw [List.length_map] at z
  exact ⟨a, rfl, e, z⟩
theorem nD_mk {H : Hp} {h : Addr} {a : Addr} {ns : List Nat} (e : H a = some (.tup (ns.map fun j => V.int (j : Nat)))) (z : ns.length ≤ 100000) : Rp H h (.ref a) (nD ns) := by
  refine .tup e (by rw [List.length_map]; exact z) ?_
  clear e z
  induction ns with
  | nil => exact .nil
  | cons n ns ih => exact .cons (.int _) ih
theorem wF_r (v1 v2 v3 v4 : V) : (webF v1 v2 v3 v4).lookup ("roads" : Str) = some v2 := by
  have h1 : ¬ (("roads" : Str) = "rooms") := by decide +kernel
  have h2 : ¬ (("roads" : Str) = "times") := by decide +kernel
  unfold webF
  rw [lookup_putF, if_neg h2, lookup_putF, if_neg h1, lookup_putF, if_pos rfl]
/-- the road i of a web's roads -/
theorem RpA.road {H : Hp} {h : Addr} {xs : List V} {rds : List D} {n : Int} (r : RpA H h xs rds) (hall : rds.all (isBE n) = true) {j : Nat} (hj : j < rds.length) :
    ∃ q a b, xs[j]? = some (.ref q) ∧ H q = some (.tup [.int a, .int b]) ∧ bg (rds.getD j .non) = a ∧ en (rds.getD j .non) = b := by
  have hx : j < xs.length := by rw [r.len]; exact hj
  obtain ⟨d, h1, h2⟩ := r.get (List.getElem?_eq_getElem hx)
  rw [List.all_eq_true] at hall
  obtain ⟨a, b, rfl, _⟩ := be_full (hall d (List.mem_of_getElem? h1))
  obtain ⟨q, ys, e1, e2, _, ra⟩ := tup_inv h2
  have eg : rds.getD j .non = .tup [.int a, .int b] := by rw [List.getD_eq_getElem?_getD, h1]; rfl
  cases ra with
  | cons r1 ra =>
    cases ra with
    | cons r2 ra =>
      cases ra
      cases r1
      cases r2
      exact ⟨q, a, b, by rw [List.getElem?_eq_getElem hx, e1], e2, by rw [eg]; rfl, by rw [eg]; rfl⟩
theorem road_in {rds : List D} {d : D} (e : isRoad rds d = true) : ∃ j : Nat, d = .int j ∧ j < rds.length := by
  cases d with
  | int i =>
    have e1 : (decide (0 ≤ i) && decide (i ≤ (rds.length : Int) - 1)) = true := e
    rw [Bool.and_eq_true] at e1
    have h1 := of_decide_eq_true e1.1
    have h2 := of_decide_eq_true e1.2
    exact ⟨i.toNat, by rw [Int.toNat_of_nonneg h1], by omega⟩
  | _ => exact Bool.noConfusion e
/-- a tuple of numbers of roads -/
theorem roads_in {H : Hp} {h : Addr} {rds : List D} : ∀ {xs : List V} {ds : List D}, RpA H h xs ds → ds.all (isRoad rds) = true → ∃ ns : List Nat, ds = ns.map (fun j => .int (j : Nat)) ∧ xs = ns.map (fun j => V.int (j : Nat)) ∧ ∀ j ∈ ns, j < rds.length
  | _, _, .nil, _ => ⟨[], rfl, rfl, fun _ z => nomatch z⟩
  | _, _, .cons r q, e => by
    rw [List.all_cons, Bool.and_eq_true] at e
    obtain ⟨j, rfl, hj⟩ := road_in e.1
    obtain ⟨ns, rfl, rfl, hn⟩ := roads_in q e.2
    cases r
    exact ⟨j :: ns, rfl, rfl, fun k hk => by
      rcases List.mem_cons.mp hk with rfl | hk
      · exact hj
      · exact hn k hk⟩
theorem sl1 {K : PySem.W.Frag} {H : Hp} {a : Addr} {xs : List V} {Q : VK} (e : H a = some (.tup xs)) (k : ∀ b H', Same H H' → H' b = some (.tup (xs.drop 1)) → Q (.ref b) H') : rSlA K (.ref a) (some 1) none H Q := by
  have s1 : HT.sIx xs.length 0 (some 1) = min 1 xs.length := by
    show (if (1 : Int) < 0 then ((1 : Int) + (xs.length : Int)).toNat else min (1 : Int).toNat xs.length) = _
    rw [if_neg (by decide)]; rfl
  have s2 : HT.sIx xs.length xs.length none = xs.length := rfl
  have cut : cutV xs (some 1) none = xs.drop 1 := by
    unfold cutV
    rw [s1, s2]
    by_cases h : xs.length = 0
    · have : xs = [] := List.eq_nil_of_length_eq_zero h
      subst this; rfl
    · have m : min 1 xs.length = 1 := by omega
      rw [m]
      exact List.take_of_length_le (by rw [List.length_drop]; exact Nat.le_refl _)
  refine ⟨a, xs, rfl, SqT.of e, fun hw => ?_, fun _ p hp => ?_⟩
  · have h0 : xs.length = 0 := by
      rw [s1] at hw; omega
    have : xs = [] := List.eq_nil_of_length_eq_zero h0
    subst this
    exact k a H (Same.refl H) e
  · exact k p _ (same_upd hp) (by rw [upd_same, cut])
/-- [.. for i, x in enumerate(t) ..] -/
theorem lc_enumT {K : PySem.W.Frag} {a : Addr} {xs : List V} {g : TG} {tt : TT} {te : TE} {vs : List Nat} {σ : St} {H1 : Hp} {D : Addr} {Qd : Hp → Prop} (Pv : Nat → Hp → Prop) (h0 : Pv 0 (upd H1 D (.lst [])))
    (hl : ∀ i H, Pv i H → SqT K H a xs)
    (hs : ∀ (i : Nat) (x : V) (T : Addr) (H : Hp), xs[i]? = some x → H T = none → Pv i H → g (.ref T) (wipe σ vs) (upd H T (.tup [.int (i : Nat), x])) fun σ2 H2 => wipe σ2 vs = wipe σ vs ∧ tt σ2 H2 fun b H3 =>
      if b = true then te σ2 H3 fun y H4 => ∃ acc, H4 D = some (.lst acc) ∧ acc.length < sizeLine ∧ Pv (i + 1) (upd H4 D (.lst (acc ++ [y]))) else Pv (i + 1) H3) (hd : ∀ H, Pv xs.length H → Qd H) :
    ∃ W : Nat → Nat → Hp → Prop, (∃ m, W 0 m (upd H1 D (.lst []))) ∧ ∀ i m H, W i m H →
      ((IteT K a).stop i H ∧ Qd H) ∨ ((IteT K a).go i H ∧ ∃ Nx : Hp → Prop, (∀ H', Nx H' → ∃ m', m' < m ∧ W (i + 1) m' H') ∧ ∀ x H', (IteT K a).yld i H x H' → g x (wipe σ vs) H' fun σ2 H2 => wipe σ2 vs = wipe σ vs ∧ tt σ2 H2 fun b H3 =>
        if b = true then te σ2 H3 fun y H4 => ∃ acc, H4 D = some (.lst acc) ∧ acc.length < sizeLine ∧ Nx (upd H4 D (.lst (acc ++ [y]))) else Nx H3) := by
  refine ⟨fun i m H => m = xs.length - i ∧ i ≤ xs.length ∧ Pv i H, ⟨_, rfl, Nat.zero_le _, h0⟩, ?_⟩
  rintro i m H ⟨rfl, hi, p⟩
  have q := hl i H p
  by_cases hlt : i < xs.length
  · refine .inr ⟨⟨xs, _, q, List.getElem?_eq_getElem hlt⟩, Pv (i + 1), fun H' p' => ⟨xs.length - (i + 1), by omega, rfl, hlt, p'⟩, fun v H' y => ?_⟩
    obtain ⟨T, x', rfl, hT, rfl, f1⟩ := y
    exact hs i x' T H (f1 xs q) hT p
  · have e : i = xs.length := by omega
    subst e
    exact .inl ⟨⟨xs, q, Nat.le_refl _⟩, hd H p⟩
section
variable {P : Program} {w : World} {K : PySem.W.Frag} {mg : Str → Option Value} {base : Heap}
theorem ok_NoRoad___init (T : Tx K mg) : FnOk P w K mg base (L2.CX P w) 1 T.x_NoRoad.f T.x_NoRoad.fd ["self"] spInitN := by
  refine T.x_NoRoad.F.okX sc_NoRoad___init (fun vs H Q E h => ?_) (fun cdv A outer s H vs Q E hr h => ?_)
  · obtain ⟨a, rfl, _⟩ := h
    rfl
  · obtain ⟨a, rfl, k⟩ := h
    exact ⟨_, pss_one ps_pass, k⟩
def spIsRoad (C : Addr) : Sp := fun vs H Q _ => ∃ (h p : Addr) (n : Int) (rds : List D) (v : V) (d : D), vs = [.ref p, v] ∧ WebO C H h p n rds ∧ Rp H h v d ∧ Q (.bl (isRoad rds d)) H
theorem ok_is_road (T : Tx K mg) : FnOk P w K mg base CX0 3 T.is_road.f T.is_road.fd ["web", "thing"] (spIsRoad T.Web.C) := by
  refine T.is_road.F.ok sc_is_road (fun vs H Q E h => ?_) (fun cdv A outer s H vs Q E hr h => ?_)
  · obtain ⟨_, p, n, rds, v, d, rfl, _⟩ := h
    rfl
  · obtain ⟨h, p, n, rds, v, d, rfl, W, r, k⟩ := h
    obtain ⟨dx, v1, v2, v3, v4, hp, r2⟩ := W.ex
    obtain ⟨pa, xs, rfl, ea, za, ra⟩ := tup_inv r2
    refine ⟨_, (pss_one (ps_ret (pe_call (ok_is_between T) (hr.mono (by decide)) rfl T.is_between.g T.is_between.F.kp T.is_between.b .nil pass0 (pa_cons pe_int (pa_cons (pe_op op_sub (pe_callB call_len_seq (by rfl) T.n_len (by decide +kernel) (pa_cons (pe_fld (pv 0) rfl) pa_nil)) pe_int) (pa_cons (pv 1) pa_nil)))))), ?_⟩
    refine ⟨_, rfl, p, T.Web.C, dx, _, _, rfl, hp, T.Web.cl, T.Web.no _ (by simp), wF_r _ _ _ _, pa, xs, rfl, .inr (SqT.of ea), _, _, rfl, rfl, _, rfl, h, 0, _, v, d, rfl, r, ?_⟩
    rw [ra.len]
    exact k
def spNext (C CN : Addr) : Sp := fun vs H Q E => ∃ (h p : Addr) (n : Int) (rds : List D) (v : V) (d : D), vs = [.ref p, v] ∧ WebO C H h p n rds ∧ Rp H h v d ∧
  (isRoad rds d = false → E (.ref CN) none H) ∧ (isRoad rds d = true → ∀ a H', Same H H' → H' a = some (.tup ((nextL rds (num d)).map fun j => V.int (j : Nat))) → Q (.ref a) H')
theorem ok_next_roads (T : Tx K mg) : FnOk P w K mg base (L2.CX P w) 4 T.next_roads.f T.next_roads.fd ["web", "road"] (spNext T.Web.C T.x_NoRoad.C) := by
  refine T.next_roads.F.okX sc_next_roads (fun vs H Q E h => ?_) (fun cdv A outer s H vs Q E hr h => ?_)
  · obtain ⟨_, p, n, rds, v, d, rfl, _⟩ := h
    rfl
  · obtain ⟨h, p, n, rds, v, d, rfl, W, r, kn, ky⟩ := h
    refine ⟨_, (pss_cons (ps_if (pt_not (pt_val (pe_call (ok_is_road T) (hr.mono (by decide)) rfl T.is_road.g T.is_road.F.kp T.is_road.b .nil pass0 (pa_cons (pv 0) (pa_cons (pv 1) pa_nil)))))
      (pss_one (ps_raise rfl (takes_of rfl rfl rfl rfl) (pmk_oexN T.x_NoRoad.T T.x_NoRoad.iC T.x_NoRoad.tI (ok_NoRoad___init T) (hr.mono (by decide)) T.x_NoRoad.b passL rfl T.x_NoRoad.g)))
      pss_nil)
      (pss_cons (ps_set (i := 2) sc_next_roads.nd rfl (Or.inr rfl) (pe_ix ix_tup (pe_ix ix_tup (pe_fld (pv 0) rfl) (pv 1) (fun _ _ => rfl)) pe_int (fun _ _ => rfl)))
      (pss_one (ps_ret (pe_callTy call_tuple_of (by rfl) T.n_tuple (by decide +kernel) (pa_cons (pe_lc (own := [("number", 3), ("begin", 4), ("_", 5)]) (g := (gTup K 2 (gCons (gName 3) (gCons (gTup K 2 (gCons (gName 4) (gCons (gName 5) gNil))) gNil))))  rfl sc_next_roads.nd (pi_enumT (by rfl) T.n_enumerate (pa_cons (pe_fld (pv 0) rfl) pa_nil)) (blkOk_by (own := [("number", 3), ("begin", 4), ("_", 5)]) (N := ["web", "road", "end", "number", "begin", "_"]) (sc := defScope s_next_roads) (by decide +kernel)) (fun _ _ _ _ _ => (pg_tup (by rfl) (pgs_cons (pg_name (i := 3) sc_next_roads.nd rfl (Or.inl rfl)) (pgs_cons (by exact (pg_tup (by rfl) (pgs_cons (pg_name (i := 4) sc_next_roads.nd rfl (Or.inl rfl)) (pgs_cons (pg_name (i := 5) sc_next_roads.nd rfl (Or.inl rfl)) pgs_nil)))) pgs_nil)))) (fun _ _ _ _ _ => (pts_one (by exact (pt_cmpR op_eq (pv 4) (pv 2) (nomark _))))) (fun _ _ _ _ _ => (by exact (pv 3)))) pa_nil)))))), ?_⟩
    refine ⟨_, rfl, _, rfl, h, p, n, rds, v, d, rfl, W, r, _, rfl, ?_⟩
    cases e : isRoad rds d with
    | false => exact iteT (kn e)
    | true =>
    refine iteF ?_
    obtain ⟨j, rfl, hj⟩ := road_in e
    have ky := ky e
    cases r
    obtain ⟨dx, v1, v2, v3, v4, hp, r2⟩ := W.ex
    obtain ⟨pa, xs, rfl, ea, za, ra⟩ := tup_inv r2
    obtain ⟨q, a, b, x1, x2, x3, x4⟩ := ra.road W.all hj
    refine ⟨_, rfl, p, T.Web.C, dx, _, _, rfl, hp, T.Web.cl, T.Web.no _ (by simp), wF_r _ _ _ _, _, rfl, pa, xs, j, _, rfl, rfl, SqT.of ea, atI_nat x1, q, _, 1, _, rfl, rfl, SqT.of x2, atI_nat (j := 1) rfl, ?_⟩
    refine ⟨_, rfl, p, T.Web.C, dx, _, _, rfl, hp, T.Web.cl, T.Web.no _ (by simp), wF_r _ _ _ _, pa, xs, rfl, SqT.of ea, fun A hA => ?_⟩
    have hl := ra.len
    have sm0 : ∀ {H' : Hp}, (∀ b o, H b = some o → H' b = some o) → Same H H' := fun q => q
    refine lc_enumT (xs := xs) (fun i H' => Same H H' ∧ H' A = some (.lst (((List.range i).filter fun j' => decide (bg (rds.getD j' .non) = en (dAt rds j))).map fun j' => V.int (j' : Nat))))
      ⟨same_upd hA, upd_same⟩ (fun i H' ⟨s, _⟩ => SqT.of (s _ _ ea)) ?_ ?_
    · rintro i x TT H' hx hT ⟨s, hacc⟩
      have hi : i < rds.length := by rw [← hl]; exact (List.getElem?_eq_some_iff.mp hx).1
      obtain ⟨q', a', b', y1, y2, y3, y4⟩ := ra.road W.all hi
      have ex : x = .ref q' := by rw [hx] at y1; exact Option.some.inj y1
      subst ex
      have s1 : Same H' (upd H' TT (.tup [.int (i : Nat), .ref q'])) := same_upd hT
      refine ⟨TT, _, rfl, SqT.of upd_same, rfl, _, _, rfl, _, _, rfl, ⟨q', _, rfl, SqT.of (s1 _ _ (s _ _ y2)), rfl, _, _, rfl, _, _, rfl, rfl, rfl, rfl, _, rfl, _, rfl, rfl, _, rfl, ?_⟩⟩
      have en1 : en (dAt rds (j : Nat)) = b := by unfold dAt; rw [Int.toNat_natCast]; exact x4
      have nAT : A ≠ TT := ne_of_none hacc hT
      rw [int_eqd]
      have step : ∀ (c : Bool), decide (bg (rds.getD i .non) = en (dAt rds j)) = c → (List.range (i + 1)).filter (fun j' => decide (bg (rds.getD j' .non) = en (dAt rds j))) = (List.range i).filter (fun j' => decide (bg (rds.getD j' .non) = en (dAt rds j))) ++ (if c = true then [i] else []) := fun c hc => by
        rw [List.range_succ, List.filter_append]
        congr 1
        rw [List.filter_cons, hc]
        rfl
      by_cases h : a' = b
      · rw [decide_eq_true h]
        have st := step true (by rw [y3, en1]; exact decide_eq_true h)
        refine iteT ⟨_, rfl, _, s1 _ _ hacc, ?_, fun b o q => ?_, ?_⟩
        · rw [List.length_map]
          have := List.length_filter_le (fun j' => decide (bg (rds.getD j' .non) = en (dAt rds j))) (List.range i)
          rw [List.length_range] at this
          exact line_lt (by omega)
        · rw [upd_ne (ne_of_none q hA)]
          exact s1 _ _ (s _ _ q)
        · rw [upd_same, st, List.map_append]; rfl
      · rw [decide_eq_false h]
        have st := step false (by rw [y3, en1]; exact decide_eq_false h)
        refine iteF ⟨s.trans s1, ?_⟩
        rw [s1 _ _ hacc, st]
        rw [if_neg (by decide), List.append_nil]
    · rintro H' ⟨s, hacc⟩
      rw [hl] at hacc
      refine ⟨A, _, rfl, .inl ⟨SqL.of hacc, fun l hL => ?_⟩⟩
      have en1 : en (dAt rds (j : Nat)) = b := by unfold dAt; rw [Int.toNat_natCast]; exact x4
      exact ky l _ (s.trans (same_upd hL)) (by rw [upd_same]; rfl)
theorem isLot_tup (rds : List D) (ds : List D) : isLot rds (.tup ds) = (ds.all (isRoad rds) && adj (fun a b => decide (a < b)) (ds.map num)) := rfl
theorem map_range_all (n : Nat) (f : Nat → Bool) : ((List.range n).map f).all id = (List.range n).all f := by rw [List.all_map]; rfl
theorem nums_map (ns : List Nat) : (ns.map fun j => D.int (j : Nat)).map num = ns.map fun (j : Nat) => (j : Int) := by rw [List.map_map]; rfl
theorem getD_map (ns : List Nat) {i : Nat} (h : i < ns.length) : (ns.map fun (j : Nat) => (j : Int)).getD i 0 = (ns[i] : Nat) := by
  rw [List.getD_eq_getElem?_getD, List.getElem?_map, List.getElem?_eq_getElem h]; rfl
def spJudge (C : Addr) (g : List D → D → Bool) : Sp := fun vs H Q _ => ∃ (h p : Addr) (n : Int) (rds : List D) (v : V) (d : D), vs = [.ref p, v] ∧ WebO C H h p n rds ∧ Rp H h v d ∧ ∀ H', Same H H' → Q (.bl (g rds d)) H'
/-- [r(a, b) for a, b in zip(t, t[1:])] over a tuple of numbers -/
theorem lc_next {K : PySem.W.Frag} {H H0 : Hp} {a b A : Addr} {ns : List Nat} {i1 i2 : Nat} {te : TE} {vs : List Nat} {σ : St} {Qd : Hp → Prop} (R : Int → Int → Bool) (s0 : Same H0 H) (hA : H A = none)
    (e1 : H a = some (.tup (ns.map fun j => V.int (j : Nat)))) (e2 : H b = some (.tup ((ns.map fun j => V.int (j : Nat)).drop 1))) (hz : ns.length ≤ 100000)
    (hw : ∀ x y, wipe (((wipe σ vs).set i1 (some x)).set i2 (some y)) vs = wipe σ vs)
    (hs : ∀ (i : Nat) (hi : i + 1 < ns.length) H' (Q : VK), Same H H' → (∀ H4, Same H' H4 → Q (.bl (R (ns[i]'(by omega) : Nat) (ns[i + 1] : Nat))) H4) → te (((wipe σ vs).set i1 (some (.int (ns[i]'(by omega) : Nat)))).set i2 (some (.int (ns[i + 1] : Nat)))) H' Q)
    (hd : ∀ H', Same H0 H' → SqL K H' A (((List.range (ns.length - 1)).map fun j => R ((ns.map fun (j : Nat) => (j : Int)).getD j 0) ((ns.map fun (j : Nat) => (j : Int)).getD (j + 1) 0)).map V.bl) → Qd H') :
    ∃ W : Nat → Nat → Hp → Prop, (∃ m, W 0 m (upd H A (.lst []))) ∧ ∀ i m H, W i m H →
      ((RZ.ItzT K a b).stop i H ∧ Qd H) ∨ ((RZ.ItzT K a b).go i H ∧ ∃ Nx : Hp → Prop, (∀ H', Nx H' → ∃ m', m' < m ∧ W (i + 1) m' H') ∧ ∀ x H', (RZ.ItzT K a b).yld i H x H' → (gTup K 2 (gCons (gName i1) (gCons (gName i2) gNil))) x (wipe σ vs) H' fun σ2 H2 => wipe σ2 vs = wipe σ vs ∧ tYes σ2 H2 fun b H3 =>
        if b = true then te σ2 H3 fun y H4 => ∃ acc, H4 A = some (.lst acc) ∧ acc.length < sizeLine ∧ Nx (upd H4 A (.lst (acc ++ [y]))) else Nx H3) := by
  refine lc_zipT (xs := ns.map fun j => V.int (j : Nat)) (ys := (ns.map fun j => V.int (j : Nat)).drop 1) (fun i H' => Same H (fun b => if b = A then none else H' b) ∧ H' A = some (.lst (((List.range i).map fun j => R ((ns.map fun (j : Nat) => (j : Int)).getD j 0) ((ns.map fun (j : Nat) => (j : Int)).getD (j + 1) 0)).map V.bl)))
    ⟨fun b o q => ?_, upd_same⟩ (fun i H' ⟨s, _⟩ => ?_) ?_ ?_
  · have n := ne_of_none q hA
    show (if b = A then none else upd H A _ b) = _
    rw [if_neg n, upd_ne n]; exact q
  · have q1 := s _ _ e1
    have q2 := s _ _ e2
    simp only [if_neg (ne_of_none e1 hA)] at q1
    simp only [if_neg (ne_of_none e2 hA)] at q2
    exact ⟨SqT.of q1, SqT.of q2⟩
  · intro i x y TT H' hx hy ⟨s, hacc⟩ hT
    have sm : Same H H' := fun b o q => by
      have r := s b o q
      simp only [if_neg (ne_of_none q hA)] at r
      exact r
    have hi : i + 1 < ns.length := by
      have := (List.getElem?_eq_some_iff.mp hy).1
      rw [List.length_drop, List.length_map] at this
      omega
    have ex : x = .int (ns[i]'(by omega) : Nat) := by
      rw [List.getElem?_map, List.getElem?_eq_getElem (by omega)] at hx
      exact (Option.some.inj hx).symm
    have ey : y = .int (ns[i + 1] : Nat) := by
      rw [List.getElem?_drop, List.getElem?_map, show 1 + i = i + 1 by omega, List.getElem?_eq_getElem hi] at hy
      exact (Option.some.inj hy).symm
    subst ex ey
    have sT : Same H' (upd H' TT (.tup [.int (ns[i]'(by omega) : Nat), .int (ns[i + 1] : Nat)])) := same_upd hT
    refine ⟨TT, _, rfl, SqT.of upd_same, rfl, _, _, rfl, _, _, rfl, rfl, hw _ _, tyes (hs i hi _ _ (sm.trans sT) fun H4 s4 => ⟨_, s4 _ _ (sT _ _ hacc), ?_, fun b o q => ?_, ?_⟩)⟩
    · rw [List.length_map, List.length_map, List.length_range]; exact line_lt (by omega)
    · have n := ne_of_none q hA
      show (if b = A then none else upd H4 A _ b) = _
      rw [if_neg n, upd_ne n]
      exact s4 _ _ (sT _ _ (sm _ _ q))
    · rw [upd_same, List.range_succ, List.map_append, List.map_append, List.map_cons, List.map_nil, List.map_cons, List.map_nil, getD_map ns (by omega), getD_map ns hi]
  · intro H' ⟨s, hacc⟩
    have sm : Same H H' := fun b o q => by
      have r := s b o q
      simp only [if_neg (ne_of_none q hA)] at r
      exact r
    have m : min (ns.map fun j => V.int (j : Nat)).length ((ns.map fun j => V.int (j : Nat)).drop 1).length = ns.length - 1 := by
      rw [List.length_drop, List.length_map]; omega
    rw [m] at hacc
    exact hd H' (s0.trans sm) (SqL.of hacc)
theorem ok_is_lot (T : Tx K mg) : FnOk P w K mg base CX0 4 T.is_lot.f T.is_lot.fd ["web", "thing"] (spJudge T.Web.C isLot) := by
  refine T.is_lot.F.ok sc_is_lot (fun vs H Q E h => ?_) (fun cdv A outer s H vs Q E hr h => ?_)
  · obtain ⟨_, p, n, rds, v, d, rfl, _⟩ := h
    rfl
  · obtain ⟨h, p, n, rds, v, d, rfl, W, r, k⟩ := h
    refine ⟨_, (pss_one (ps_ret (pe_and (pe_callB call_isi (by rfl) T.n_isinstance (by decide +kernel) (pa_cons (pv 1) (pa_cons (pe_bltn (v := .ty "tuple") (by rfl) T.n_tuple (by decide +kernel) rfl) pa_nil))) (pe_and (pe_callB (cr_all rfl) (by rfl) T.n_all (by decide +kernel) (pa_cons (pe_lc (own := [("road", 2)]) (g := (gName 2)) (tt := tYes) rfl sc_is_lot.nd (pi_tup (pv 1)) (blkOk_by (own := [("road", 2)]) (N := ["web", "thing", "road", "after"]) (sc := defScope s_is_lot) (by decide +kernel)) (fun _ _ _ _ _ => (pg_name (i := 2) sc_is_lot.nd rfl (Or.inl rfl))) (fun _ _ _ _ _ => pts_nil) (fun _ _ _ _ _ => (by exact (pe_call (ok_is_road T) (hr.mono (by decide)) rfl T.is_road.g T.is_road.F.kp T.is_road.b .nil pass0 (pa_cons (pv 0) (pa_cons (pv 2) pa_nil)))))) pa_nil)) (pe_one (pe_callB (cr_all rfl) (by rfl) T.n_all (by decide +kernel) (pa_cons (pe_lc (own := [("road", 2), ("after", 3)]) (g := (gTup K 2 (gCons (gName 2) (gCons (gName 3) gNil)))) (tt := tYes) rfl sc_is_lot.nd (RZ.pi_zipA (by rfl) T.n_zip (pa_cons (pv 1) (pa_cons (pe_slice sl_tupA (pv 1) (po_some pe_int) po_none) pa_nil))) (blkOk_by (own := [("road", 2), ("after", 3)]) (N := ["web", "thing", "road", "after"]) (sc := defScope s_is_lot) (by decide +kernel)) (fun _ _ _ _ _ => (pg_tup (by rfl) (pgs_cons (pg_name (i := 2) sc_is_lot.nd rfl (Or.inl rfl)) (pgs_cons (pg_name (i := 3) sc_is_lot.nd rfl (Or.inl rfl)) pgs_nil)))) (fun _ _ _ _ _ => pts_nil) (fun _ _ _ _ _ => (by exact (pe_cmpR op_lt (pv 2) (pv 3) (nomark _))))) pa_nil))))))), ?_⟩
    refine ⟨_, rfl, _, _, _, _, _, rfl, .ty "tuple", r.ty, kit_ty (kitT d), _, rfl, ?_⟩
    cases r with
    | @tup pa xs ds e z ra =>
      refine iteT ?_
      refine ⟨_, rfl, _, rfl, ⟨_, SqT.of e⟩, fun A hA => all_tup e z ra (isRoad rds) hA (fun x => rfl) (fun x d H' Q' _ s1 rp q => ?_) (fun H' sm sl => ?_)⟩
      · exact ⟨_, rfl, _, rfl, h, p, n, rds, _, _, rfl, W.same s1, rp, q _ (Same.refl _)⟩
      · refine ⟨_, _, rfl, sl, _, rfl, ?_⟩
        rw [map_all]
        cases e1 : ds.all (isRoad rds) with
        | false =>
          refine iteF ?_
          have := k H' sm
          rw [isLot_tup, e1] at this
          exact this
        | true =>
          refine iteT ?_
          obtain ⟨ns, rfl, rfl, hn⟩ := roads_in ra e1
          rw [List.length_map] at z
          refine ⟨_, rfl, _, rfl, _, rfl, ?_⟩
          delta tNoPart
          refine sl1 (sm _ _ e) fun b H1 s1 eb => ?_
          refine ⟨_, _, _, _, rfl, .inr ⟨SqT.of (s1 _ _ (sm _ _ e)), SqT.of eb, fun A2 hA2 => lc_next (fun a b => decide (a < b)) (sm.trans s1) hA2 (s1 _ _ (sm _ _ e)) eb z (fun x y => rfl) (fun i hi H2 Q' s2 q => ?_) (fun H2 s2 sl2 => ?_)⟩⟩
          · exact ⟨_, rfl, _, rfl, _, _, rfl, rfl, q _ (Same.refl _)⟩
          · refine ⟨_, _, rfl, sl2, ?_⟩
            rw [map_range_all]
            have := k H2 s2
            rw [isLot_tup, e1, Bool.true_and, nums_map] at this
            unfold adj at this
            rw [List.length_map] at this
            exact this
    | _ => exact iteF (k H (Same.refl _))
end
end Hc

set_option Elab.async false
set_option linter.all false
set_option maxRecDepth 100000
set_option maxHeartbeats 1000000
set_option autoImplicit false
namespace Hc
open PySem L2
/-- what is no list stays -/
def NL (H H' : Hp) : Prop := ∀ b o, H b = some o → (∀ xs, o ≠ .lst xs) → H' b = some o
theorem NL.refl (H : Hp) : NL H H := fun _ _ e _ => e
theorem NL.trans {H H1 H2 : Hp} (a : NL H H1) (b : NL H1 H2) : NL H H2 := fun c o e n => b c o (a c o e n) n
theorem NL.of {H H' : Hp} (s : Same H H') : NL H H' := fun b o e _ => s b o e
theorem NL.upd {H : Hp} {p : Addr} {o : HO} {xs : List V} (e : H p = some (.lst xs)) : NL H (upd H p o) := fun b u q n => by
  rw [upd_ne (fun z => by subst z; rw [e] at q; exact n xs (Option.some.inj q).symm)]
  exact q
theorem NL.tup {H H' : Hp} (k : NL H H') {b : Addr} {xs : List V} (e : H b = some (.tup xs)) : H' b = some (.tup xs) := k _ _ e (fun _ z => by cases z)
mutual
def noL : D → Bool
  | .lst => false
  | .tup ds => noLs ds
  | _ => true
def noLs : List D → Bool
  | [] => true
  | d :: ds => noL d && noLs ds
end
section
variable {H H' : Hp} {h : Addr}
mutual
theorem Rp.nl (k : NL H H') : ∀ {v : V} {d : D}, Rp H h v d → noL d = true → Rp H' h v d
  | _, _, .non, _ => .non
  | _, _, .bl b, _ => .bl b
  | _, _, .int i, _ => .int i
  | _, _, .str x, _ => .str x
  | _, _, .tup e z r, n => .tup (k.tup e) z (RpA.nl k r n)
  | _, _, .lst _ _, n => by cases n
  | _, _, .dct e, _ => .dct (k _ _ e (fun _ z => by cases z))
theorem RpA.nl (k : NL H H') : ∀ {vs : List V} {ds : List D}, RpA H h vs ds → noLs ds = true → RpA H' h vs ds
  | _, _, .nil, _ => .nil
  | _, _, .cons a r, n => by
    have n : (noL _ && noLs _) = true := n
    rw [Bool.and_eq_true] at n
    exact .cons (Rp.nl k a n.1) (RpA.nl k r n.2)
end
end
theorem noL_be {n : Int} : ∀ {rds : List D}, rds.all (isBE n) = true → noLs rds = true
  | [], _ => rfl
  | d :: ds, e => by
    rw [List.all_cons, Bool.and_eq_true] at e
    obtain ⟨a, b, rfl, _⟩ := be_full e.1
    show (noL _ && noLs ds) = true
    rw [noL_be e.2]; rfl
theorem noL_nat : ∀ ns : List Nat, noLs (ns.map fun j => D.int (j : Nat)) = true
  | [] => rfl
  | n :: ns => by
    show (noL _ && noLs _) = true
    rw [noL_nat ns]; rfl
theorem noL_nD (ns : List Nat) : noL (nD ns) = true := noL_nat ns
theorem WebO.nl {C : Addr} {H H' : Hp} {h p : Addr} {n : Int} {rds : List D} (w : WebO C H h p n rds) (k : NL H H') : WebO C H' h p n rds := by
  obtain ⟨⟨dx, v1, v2, v3, v4, e, r⟩, a, b, c⟩ := w
  exact ⟨⟨dx, v1, v2, v3, v4, k _ _ e (fun _ z => by cases z), r.nl k (noL_be a)⟩, a, b, c⟩
theorem PlV_nl {H H' : Hp} {x : V} {p : List Int} (a : PlV H x p) (k : NL H H') : PlV H' x p := by
  obtain ⟨t, n0, ns, e, h, q⟩ := a
  exact ⟨t, n0, ns, e, k.tup h, q⟩
inductive PlA (H : Hp) : List V → List (List Int) → Prop
  | nil : PlA H [] []
  | cons {x : V} {p : List Int} {xs : List V} {ps : List (List Int)} : PlV H x p → PlA H xs ps → PlA H (x :: xs) (p :: ps)
theorem PlA.nl {H H' : Hp} (k : NL H H') : ∀ {xs : List V} {ps : List (List Int)}, PlA H xs ps → PlA H' xs ps
  | _, _, .nil => .nil
  | _, _, .cons a r => .cons (PlV_nl a k) (PlA.nl k r)
theorem PlA.app {H : Hp} : ∀ {xs ys : List V} {ps qs : List (List Int)}, PlA H xs ps → PlA H ys qs → PlA H (xs ++ ys) (ps ++ qs)
  | _, _, _, _, .nil, s => s
  | _, _, _, _, .cons a r, s => .cons a (PlA.app r s)
theorem PlA.len {H : Hp} : ∀ {xs : List V} {ps : List (List Int)}, PlA H xs ps → xs.length = ps.length
  | _, _, .nil => rfl
  | _, _, .cons a r => by rw [List.length_cons, List.length_cons, PlA.len r]
theorem kd_inj {n m : Int} (h1 : Pl.Wd n) (h2 : Pl.Wd m) (e : Pl.kd n = Pl.kd m) : n = m := by
  have q := Pl.kd_eq h1 h2
  rw [e, beq_self_eq_true] at q
  exact of_decide_eq_true q.symm
theorem ints_inj : ∀ {ns ms : List Int}, ns.map V.int = ms.map V.int → ns = ms
  | [], [], _ => rfl
  | [], _ :: _, e => by cases e
  | _ :: _, [], e => by cases e
  | n :: ns, m :: ms, e => by
    rw [List.map_cons, List.map_cons] at e
    obtain ⟨e1, e2⟩ := List.cons.inj e
    rw [V.int.inj e1, ints_inj e2]
theorem PlV_uniq {H : Hp} {x : V} {p q : List Int} (a : PlV H x p) (b : PlV H x q) : p = q := by
  obtain ⟨t, n0, ns, e, h, rfl, w0⟩ := a
  obtain ⟨t', m0, ms, e', h', rfl, w1⟩ := b
  subst e
  cases e'
  rw [h] at h'
  have e1 := Option.some.inj h'
  have e2 : (V.str (Pl.kd n0) :: ns.map V.int) = (V.str (Pl.kd m0) :: ms.map V.int) := by injection e1
  obtain ⟨e3, e4⟩ := List.cons.inj e2
  have e5 : Pl.kd n0 = Pl.kd m0 := by injection e3
  rw [kd_inj w0 w1 e5, ints_inj e4]
open Classical in
/-- the place that stands at x -/
noncomputable def plK (H : Hp) (x : V) : List Int := if h : ∃ p, PlV H x p then h.choose else []
theorem plK_eq {H : Hp} {x : V} {p : List Int} (a : PlV H x p) : plK H x = p := by
  have h : ∃ p, PlV H x p := ⟨p, a⟩
  unfold plK
  rw [dif_pos h]
  exact PlV_uniq h.choose_spec a
theorem PlA.k {H : Hp} : ∀ {xs : List V} {ps : List (List Int)}, PlA H xs ps → xs.map (plK H) = ps
  | _, _, .nil => rfl
  | _, _, .cons a r => by rw [List.map_cons, plK_eq a, PlA.k r]
theorem PlA.all {H : Hp} : ∀ {xs : List V} {ps : List (List Int)}, PlA H xs ps → ∀ x ∈ xs, PlV H x (plK H x)
  | _, _, .nil, _, h => nomatch h
  | _, _, .cons a r, x, h => by
    rcases List.mem_cons.mp h with rfl | h
    · rw [plK_eq a]; exact a
    · exact PlA.all r x h
theorem PlA.of_all {H : Hp} : ∀ {xs : List V}, (∀ x ∈ xs, PlV H x (plK H x)) → PlA H xs (xs.map (plK H))
  | [], _ => .nil
  | x :: xs, h => .cons (h x List.mem_cons_self) (PlA.of_all fun y hy => h y (List.mem_cons_of_mem _ hy))
/-- sorted places -/
structure Sd (zs ps : List (List Int)) : Prop where
  s : SrtO.Srtd Pl.lexI zs
  t : SrtO.Stb Pl.lexI zs ps
theorem lexI_swo : SrtO.Swo Pl.lexI := ⟨fun x y => Pl.lexI_asym _ _, fun x y z => Pl.lexI_tr _ _ _⟩
theorem Sd.uniq {zs ys ps : List (List Int)} (a : Sd zs ps) (b : Sd ys ps) : zs = ys :=
  SrtO.stb_uniq lexI_swo a.s b.s (a.t.trans ⟨b.t.perm.symm, fun x => (b.t.cls x).symm⟩)
theorem sorted_rule {K : PySem.W.Frag} {H : Hp} {a : Addr} {xs : List V} {ps : List (List Int)} {Q : VK} (ha : H a = some (.lst xs)) (r : PlA H xs ps)
    (k : ∀ F ys zs H', Same H H' → H F = none → H' F = some (.lst ys) → PlA H' ys zs → Sd zs ps → Q (.ref F) H') : rSortedPl K [.ref a] H Q := by
  refine ⟨a, xs, plK H, rfl, SqL.of ha, r.all, fun ys p s1 s2 hp => ?_⟩
  have e := r.k
  have al : ∀ x ∈ ys, PlV H x (plK H x) := fun x hx => r.all x (s2.perm.mem_iff.mp hx)
  refine k p ys (ys.map (plK H)) _ (same_upd hp) hp upd_same ((PlA.of_all al).nl (NL.of (same_upd hp))) ⟨SrtO.srtd_map s1, ?_⟩
  have := SrtO.Stb.map lexI_swo (plK H) s2
  rw [e] at this
  exact this
/-! ### the places -/
def bEnd (A : List (List Nat)) (L : List Nat) (t : Bool) (r : Nat) : Bool := decide (0 < (A.getD r []).length) && (t || !decide (r ∈ L))
def forkR (A : List (List Nat)) (L : List Nat) (t : Bool) (a : Nat) : List (List Int) :=
  if (!decide (a ∈ L) && decide (1 < (A.getD a []).length)) = true then ((A.getD a []).filter (bEnd A L t)).map (fun (b : Nat) => ([0, (a : Int), (b : Int)] : List Int)) else []
def rowM (A : List (List Nat)) (L : List Nat) (t : Bool) (a m : Nat) : List (List Int) :=
  if (!decide (a ∈ L) && !decide (m ∈ L)) = true then ((A.getD m []).filter (bEnd A L t)).map (fun (b : Nat) => ([1, (a : Int), (m : Int), (b : Int)] : List Int)) else []
def rowR (A : List (List Nat)) (L : List Nat) (t : Bool) (a : Nat) : List (List Int) := (A.getD a []).flatMap (rowM A L t a)
def forksL (A : List (List Nat)) (L : List Nat) (t : Bool) : List (List Int) := (List.range A.length).flatMap (forkR A L t)
def rowsL (A : List (List Nat)) (L : List Nat) (t : Bool) : List (List Int) := (List.range A.length).flatMap (rowR A L t)
def placesL (A : List (List Nat)) (L : List Nat) (t : Bool) : List (List Int) := forksL A L t ++ rowsL A L t
theorem flat_len {α β : Type} {f : α → List β} {c : Nat} : ∀ (l : List α), (∀ x ∈ l, (f x).length ≤ c) → (l.flatMap f).length ≤ c * l.length
  | [], _ => Nat.zero_le _
  | x :: l, h => by
    rw [List.flatMap_cons, List.length_append, List.length_cons, Nat.mul_succ]
    have h1 := h x List.mem_cons_self
    have h2 := flat_len l fun y hy => h y (List.mem_cons_of_mem _ hy)
    omega
theorem flat_succ {β : Type} (f : Nat → List β) (i : Nat) : (List.range (i + 1)).flatMap f = (List.range i).flatMap f ++ f i := by
  rw [List.range_succ, List.flatMap_append, List.flatMap_cons, List.flatMap_nil, List.append_nil]
/-- the next roads' table is right -/
structure Tab (A : List (List Nat)) : Prop where
  inn : ∀ i j, j ∈ A.getD i [] → j < A.length
  sz : A.length ≤ 24
  row : ∀ i, (A.getD i []).length ≤ 24
theorem Tab.fork {A : List (List Nat)} (T : Tab A) (L : List Nat) (t : Bool) (a : Nat) : (forkR A L t a).length ≤ 24 := by
  unfold forkR
  split
  · rw [List.length_map]
    exact Nat.le_trans (List.length_filter_le _ _) (T.row a)
  · exact Nat.zero_le _
theorem Tab.rowM {A : List (List Nat)} (T : Tab A) (L : List Nat) (t : Bool) (a m : Nat) : (rowM A L t a m).length ≤ 24 := by
  unfold Hc.rowM
  split
  · rw [List.length_map]
    exact Nat.le_trans (List.length_filter_le _ _) (T.row m)
  · exact Nat.zero_le _
theorem Tab.rowR {A : List (List Nat)} (T : Tab A) (L : List Nat) (t : Bool) (a : Nat) : (rowR A L t a).length ≤ 576 := by
  have := flat_len (f := Hc.rowM A L t a) (c := 24) (A.getD a []) fun m _ => T.rowM L t a m
  have r := T.row a
  unfold Hc.rowR
  omega
theorem Tab.forks {A : List (List Nat)} (T : Tab A) (L : List Nat) (t : Bool) : (forksL A L t).length ≤ 576 := by
  have := flat_len (f := forkR A L t) (c := 24) (List.range A.length) fun a _ => T.fork L t a
  rw [List.length_range] at this
  have r := T.sz
  unfold Hc.forksL
  omega
theorem Tab.rows {A : List (List Nat)} (T : Tab A) (L : List Nat) (t : Bool) : (rowsL A L t).length ≤ 13824 := by
  have := flat_len (f := Hc.rowR A L t) (c := 576) (List.range A.length) fun a _ => T.rowR L t a
  rw [List.length_range] at this
  have r := T.sz
  unfold Hc.rowsL
  omega
/-- a list of tuples of numbers -/
def AfT (H : Hp) (a : Addr) (A : List (List Nat)) : Prop := ∃ xs, H a = some (.lst xs) ∧ xs.length = A.length ∧ ∀ i, i < A.length → ∃ b, xs[i]? = some (.ref b) ∧ H b = some (.tup ((A.getD i []).map fun j => V.int (j : Nat)))
theorem AfT.same {H H' : Hp} {a : Addr} {A : List (List Nat)} (x : AfT H a A) (s : Same H H') : AfT H' a A := by
  obtain ⟨xs, e, l, k⟩ := x
  exact ⟨xs, s _ _ e, l, fun i hi => by
    obtain ⟨b, e1, e2⟩ := k i hi
    exact ⟨b, e1, s _ _ e2⟩⟩
theorem flat_nat (ns : List Nat) : (ns.map fun j => V.int (j : Nat)).all flatV = true := by
  rw [List.all_eq_true]
  intro x hx
  obtain ⟨j, _, rfl⟩ := List.mem_map.mp hx
  rfl
theorem in_nat (r : Nat) : ∀ ns : List Nat, inV (.int (r : Nat)) (ns.map fun j => V.int (j : Nat)) = decide (r ∈ ns)
  | [] => by simp [inV]
  | n :: ns => by
    have ih := in_nat r ns
    have e : inV (.int (r : Nat)) ((n :: ns).map fun j => V.int (j : Nat)) = (((n : Int) == (r : Int)) || inV (.int (r : Nat)) (ns.map fun j => V.int (j : Nat))) := rfl
    rw [e, ih]
    by_cases h : r = n
    · subst h; simp
    · have h2 : ¬ ((n : Int) = (r : Int)) := by omega
      have h3 : ((n : Int) == (r : Int)) = false := by simpa using h2
      rw [h3, Bool.false_or]
      by_cases h4 : r ∈ ns
      · rw [decide_eq_true h4, decide_eq_true (List.mem_cons_of_mem _ h4)]
      · rw [decide_eq_false h4, decide_eq_false (fun q => by rcases List.mem_cons.mp q with q | q; exact h q; exact h4 q)]
/-- the sort's word -/
def srt (t : Bool) : Str := if t = true then "turns" else "hours"
theorem srt_eq (t : Bool) : decide (V.str (srt t) = V.str "turns") = t := by cases t <;> decide +kernel
theorem srt_in (t : Bool) : inV (V.str (srt t)) [.str "hours", .str "turns"] = true := by cases t <;> decide +kernel
/-- for i, x in enumerate(l) -/
theorem for_enumL {K : PySem.W.Frag} {a : Addr} {xs : List V} {g : TG} {tb : TS} {D : Ends} {σ : St} {H : Hp} (Pv : Nat → St → Hp → Prop) (h0 : Pv 0 σ H) (hl : ∀ i σ H, i ≤ xs.length → Pv i σ H → SqL K H a xs)
    (hs : ∀ i x σ T H, xs[i]? = some x → H T = none → Pv i σ H → g (.ref T) σ (upd H T (.tup [.int (i : Nat), x])) fun σ2 H2 => tb { D with nx := Pv (i + 1), ct := Pv (i + 1), bk := D.nx } σ2 H2) (hd : ∀ σ H, Pv xs.length σ H → D.nx σ H) :
    ∃ W : Nat → Nat → St → Hp → Prop, (∃ m, W 0 m σ H) ∧ ∀ i m σ H, W i m σ H →
      ((Ite K a).stop i H ∧ D.nx σ H) ∨ ((Ite K a).go i H ∧ ∃ N : St → Hp → Prop, (∀ σ' H', N σ' H' → ∃ m', m' < m ∧ W (i + 1) m' σ' H') ∧ ∀ x H', (Ite K a).yld i H x H' → g x σ H' fun σ2 H2 => tb { D with nx := N, ct := N, bk := D.nx } σ2 H2) := by
  refine ⟨fun i m σ H => m = xs.length - i ∧ i ≤ xs.length ∧ Pv i σ H, ⟨xs.length, by simp, Nat.zero_le _, h0⟩, ?_⟩
  rintro i m σ H ⟨rfl, hi, p⟩
  have q := hl i σ H hi p
  by_cases hlt : i < xs.length
  · refine .inr ⟨⟨xs, xs[i], q, by simp [hlt]⟩, Pv (i + 1), fun σ' H' p' => ⟨xs.length - (i + 1), by omega, rfl, hlt, p'⟩, fun x H' y => ?_⟩
    obtain ⟨T, x', rfl, hT, rfl, f1⟩ := y
    exact hs i x' σ T _ (f1 xs q) hT p
  · have e : i = xs.length := by omega
    subst e
    exact .inl ⟨⟨xs, q, Nat.le_refl _⟩, hd σ H p⟩
/-- [mk(x) for x in t if p(x)], t numbers, mk(x) a place -/
theorem lc_ends {K : PySem.W.Frag} {H0 : Hp} {b D : Addr} {ns : List Nat} {j : Nat} {te : TE} {tt : TT} {σ : St} {vs : List Nat} {Qd : Hp → Prop} (mk : Nat → List Int) (p : Nat → Bool)
    (eb : H0 b = some (.tup (ns.map fun j => V.int (j : Nat)))) (hz : ns.length ≤ 1000) (hD : H0 D = none)
    (hw : ∀ x, wipe ((wipe σ vs).set j (some x)) vs = wipe σ vs)
    (ht : ∀ r ∈ ns, ∀ H' (Q : Bool → Hp → Prop), Same H0 H' → Q (p r) H' → tt ((wipe σ vs).set j (some (.int (r : Nat)))) H' Q)
    (he : ∀ r ∈ ns, ∀ H' (Q : VK), Same H0 H' → (∀ v H'', Same H' H'' → PlV H'' v (mk r) → Q v H'') → te ((wipe σ vs).set j (some (.int (r : Nat)))) H' Q)
    (hd : ∀ H' ys, Same H0 H' → H' D = some (.lst ys) → PlA H' ys ((ns.filter p).map mk) → Qd H') :
    ∃ W : Nat → Nat → Hp → Prop, (∃ m, W 0 m (upd H0 D (.lst []))) ∧ ∀ i m H, W i m H →
      ((Itt K b).stop i H ∧ Qd H) ∨ ((Itt K b).go i H ∧ ∃ Nx : Hp → Prop, (∀ H', Nx H' → ∃ m', m' < m ∧ W (i + 1) m' H') ∧ ∀ x H', (Itt K b).yld i H x H' → (gName j) x (wipe σ vs) H' fun σ2 H2 => wipe σ2 vs = wipe σ vs ∧ tt σ2 H2 fun b H3 =>
        if b = true then te σ2 H3 fun y H4 => ∃ acc, H4 D = some (.lst acc) ∧ acc.length < sizeLine ∧ Nx (upd H4 D (.lst (acc ++ [y]))) else Nx H3) := by
  refine lc_tup (K := K) (xs := ns.map fun j => V.int (j : Nat)) (fun i H' => Same H0 H' ∧ ∃ ys, H' D = some (.lst ys) ∧ PlA H' ys (((ns.take i).filter p).map mk))
    ⟨same_upd hD, [], upd_same, by rw [List.take_zero]; exact .nil⟩ (fun i H' hi ⟨s, _⟩ => SqT.of (s _ _ eb)) ?_ ?_
  · intro i x H' hx ⟨s, ys, hH, hP⟩
    have hi : i < ns.length := by
      have := (List.getElem?_eq_some_iff.mp hx).1
      rwa [List.length_map] at this
    have ex : x = .int (ns[i] : Nat) := by
      rw [List.getElem?_map, List.getElem?_eq_getElem hi] at hx
      exact (Option.some.inj hx).symm
    subst ex
    have hm : ns[i] ∈ ns := List.getElem_mem hi
    have tk : ns.take (i + 1) = ns.take i ++ [ns[i]] := take_more (List.getElem?_eq_getElem hi)
    have hl := hP.len
    have hl2 : ys.length ≤ 1000 := by
      rw [hl, List.length_map]
      refine Nat.le_trans (List.length_filter_le _ _) ?_
      rw [List.length_take]; omega
    refine ⟨hw _, ht _ hm H' _ s ?_⟩
    cases hp : p ns[i] with
    | true =>
      refine iteT (he _ hm H' _ s fun v H'' s2 pv => ⟨ys, s2 _ _ hH, line_lt (by omega), fun b o q => ?_, ys ++ [v], upd_same, ?_⟩)
      · rw [upd_ne (ne_of_none q hD)]
        exact s2 _ _ (s _ _ q)
      · rw [tk, List.filter_append, List.map_append]
        have e1 : [ns[i]].filter p = [ns[i]] := by rw [List.filter_cons, if_pos hp]; rfl
        rw [e1]
        exact ((hP.nl (NL.of s2)).app (.cons pv .nil)).nl (NL.upd (s2 _ _ hH))
    | false =>
      refine iteF ⟨s, ys, hH, ?_⟩
      have e1 : [ns[i]].filter p = [] := by rw [List.filter_cons, if_neg (by rw [hp]; decide)]; rfl
      rw [tk, List.filter_append, e1, List.append_nil]
      exact hP
  · intro H' ⟨s, ys, hH, hP⟩
    rw [List.length_map, List.take_length] at hP
    exact hd H' ys s hH hP
end Hc

set_option Elab.async false
set_option linter.all false
set_option maxRecDepth 100000
set_option maxHeartbeats 1000000
set_option autoImplicit false
namespace Hc
open PySem L2
def nx (rds : List D) : List (List Nat) := (List.range rds.length).map fun j => nextL rds (j : Nat)
theorem nx_len (rds : List D) : (nx rds).length = rds.length := by unfold nx; rw [List.length_map, List.length_range]
theorem nx_at (rds : List D) {j : Nat} (h : j < rds.length) : (nx rds).getD j [] = nextL rds (j : Nat) := by
  unfold nx
  rw [List.getD_eq_getElem?_getD, List.getElem?_map, List.getElem?_range h]; rfl
theorem nx_out (rds : List D) {j : Nat} (h : ¬ j < rds.length) : (nx rds).getD j [] = [] := by
  rw [List.getD_eq_getElem?_getD, List.getElem?_eq_none (by rw [nx_len]; omega)]; rfl
theorem nextL_in {rds : List D} {r : Int} {j : Nat} (h : j ∈ nextL rds r) : j < rds.length := List.mem_range.mp (List.mem_filter.mp h).1
theorem nextL_len (rds : List D) (r : Int) : (nextL rds r).length ≤ rds.length := by
  have := List.length_filter_le (fun j => decide (bg (rds.getD j .non) = en (dAt rds r))) (List.range rds.length)
  rwa [List.length_range] at this
theorem nx_tab {rds : List D} (h : rds.length ≤ 24) : Tab (nx rds) := by
  refine ⟨fun i j hj => ?_, by rw [nx_len]; exact h, fun i => ?_⟩
  · rw [nx_len]
    by_cases q : i < rds.length
    · rw [nx_at rds q] at hj; exact nextL_in hj
    · rw [nx_out rds q] at hj; cases hj
  · by_cases q : i < rds.length
    · rw [nx_at rds q]
      exact Nat.le_trans (nextL_len _ _) h
    · rw [nx_out rds q]; exact Nat.zero_le _
section
variable {P : Program} {w : World} {K : PySem.W.Frag} {mg : Str → Option Value} {base : Heap}
def spAll (C : Addr) : Sp := fun vs H Q _ => ∃ (h p : Addr) (n : Int) (rds : List D), vs = [.ref p] ∧ WebO C H h p n rds ∧ ∀ a H', Same H H' → H a = none → AfT H' a (nx rds) → Q (.ref a) H'
theorem ok_all_next (T : Tx K mg) : FnOk P w K mg base (L2.CX P w) 5 T.all_next.f T.all_next.fd ["web"] (spAll T.Web.C) := by
  refine T.all_next.F.okX sc_all_next (fun vs H Q E h => ?_) (fun cdv A outer s H vs Q E hr h => ?_)
  · obtain ⟨_, p, n, rds, rfl, _⟩ := h
    rfl
  · obtain ⟨h, p, n, rds, rfl, W, k⟩ := h
    obtain ⟨dx, v1, v2, v3, v4, hp, r2⟩ := W.ex
    obtain ⟨pa, xs, rfl, ea, za, ra⟩ := tup_inv r2
    have hl := ra.len
    have l2 := W.l2
    refine ⟨_, (pss_one (ps_ret (pe_lc (own := [("road", 1)]) (g := (gName 1)) (tt := tYes) rfl sc_all_next.nd (pi_range1 (by rfl) T.n_range (pa_cons (pe_callB call_len_seq (by rfl) T.n_len (by decide +kernel) (pa_cons (pe_fld (pv 0) rfl) pa_nil)) pa_nil)) (blkOk_by (own := [("road", 1)]) (N := ["web", "road"]) (sc := defScope s_all_next) (by decide +kernel)) (fun _ _ _ _ _ => (pg_name (i := 1) sc_all_next.nd rfl (Or.inl rfl))) (fun _ _ _ _ _ => pts_nil) (fun _ _ _ _ _ => (by exact (pe_call (ok_next_roads T) (hr.mono (by decide)) rfl T.next_roads.g T.next_roads.F.kp T.next_roads.b .nil passL (pa_cons (pv 0) (pa_cons (pv 1) pa_nil)))))))), ?_⟩
    refine ⟨_, rfl, p, T.Web.C, dx, _, _, rfl, hp, T.Web.cl, T.Web.no _ (by simp), wF_r _ _ _ _, pa, xs, rfl, .inr (SqT.of ea), (xs.length : Int), rfl, by omega, by omega, fun D hD => ?_⟩
    refine lc_range (lo := 0) (n := (xs.length : Int).toNat) (fun i H' => Same H H' ∧ ∃ ys, H' D = some (.lst ys) ∧ ys.length = i ∧ ∀ j, j < i → ∃ b, ys[j]? = some (.ref b) ∧ H' b = some (.tup ((nextL rds (j : Nat)).map fun j => V.int (j : Nat))))
      ⟨same_upd hD, [], upd_same, rfl, fun j hj => absurd hj (Nat.not_lt_zero _)⟩ ?_ ?_
    · rintro i H' hi ⟨s, ys, hd, hy, hb⟩
      have hi' : i < rds.length := by omega
      refine ⟨rfl, tyes ⟨_, rfl, _, rfl, h, p, n, rds, _, .int (0 + (i : Int)), rfl, W.same s, .int _, fun e => ?_, fun _ a H2 s2 ea2 => ?_⟩⟩
      · have : isRoad rds (.int (0 + (i : Int))) = true := btw_of (by omega) (by omega)
        rw [this] at e; cases e
      · refine ⟨ys, s2 _ _ hd, line_lt (by omega), fun b o q => ?_, ys ++ [.ref a], upd_same, by rw [List.length_append, hy]; rfl, fun j hj => ?_⟩
        · rw [upd_ne (ne_of_none q hD)]
          exact s2 _ _ (s _ _ q)
        · have nt : ∀ {b : Addr} {zs : List V}, H2 b = some (.tup zs) → b ≠ D := fun e z => by subst z; rw [s2 _ _ hd] at e; cases e
          by_cases hj2 : j < i
          · obtain ⟨b, e1, e2⟩ := hb j hj2
            refine ⟨b, ?_, ?_⟩
            · rw [List.getElem?_append_left (by omega)]; exact e1
            · have := s2 _ _ e2
              rw [upd_ne (nt this)]; exact this
          · obtain rfl : j = i := by omega
            refine ⟨a, ?_, ?_⟩
            · rw [List.getElem?_append_right (by omega), hy, Nat.sub_self]; rfl
            · rw [upd_ne (nt ea2), ea2]
              have : num (Hc.D.int (0 + (j : Int))) = (j : Int) := Int.zero_add _
              rw [this]
    · rintro H' ⟨s, ys, hd, hy, hb⟩
      have : (xs.length : Int).toNat = rds.length := by omega
      rw [this] at hy hb
      exact k D H' s hD ⟨ys, hd, by rw [hy, nx_len], fun i hi => by
        rw [nx_len] at hi
        rw [nx_at rds hi]
        exact hb i hi⟩
def spBadEnd : Sp := fun vs H Q _ => ∃ (a l : Addr) (A : List (List Nat)) (L : List Nat) (t : Bool) (r : Nat), vs = [.ref a, .ref l, .str (srt t), .int (r : Nat)] ∧ AfT H a A ∧ H l = some (.tup (L.map fun j => V.int (j : Nat))) ∧ r < A.length ∧ Q (.bl (bEnd A L t r)) H
theorem ok_is_bad_end (T : Tx K mg) : FnOk P w K mg base CX0 1 T.is_bad_end.f T.is_bad_end.fd ["after", "lot", "sort", "road"] spBadEnd := by
  refine T.is_bad_end.F.ok sc_is_bad_end (fun vs H Q E h => ?_) (fun cdv A outer s H vs Q E hr h => ?_)
  · obtain ⟨_, _, _, _, _, _, rfl, _⟩ := h
    rfl
  · obtain ⟨a, l, A, L, t, r, rfl, hA, hl, hr', k⟩ := h
    obtain ⟨xs, ea, lx, at_⟩ := hA
    obtain ⟨b, e1, e2⟩ := at_ r hr'
    refine ⟨_, (pss_one (ps_ret (pe_and (pe_cmpR op_gt (pe_callB call_len_seq (by rfl) T.n_len (by decide +kernel) (pa_cons (pe_ix ix_list (pv 0) (pv 3) (fun _ _ => rfl)) pa_nil)) pe_int (nomark _)) (pe_one (pe_or (pe_cmpR op_eq (pv 2) pe_str (nomark _)) (pe_one (pe_cmpR op_notIn_seq (pv 3) (pv 1) (by rfl)))))))), ?_⟩
    refine ⟨_, rfl, _, rfl, a, xs, _, _, rfl, rfl, SqL.of ea, atI_nat e1, b, _, rfl, .inr (SqT.of e2), _, _, rfl, rfl, _, rfl, ?_⟩
    rw [List.length_map]
    unfold bEnd at k
    by_cases g : 0 < (A.getD r []).length
    · rw [decide_eq_true (show (0 : Int) < ((A.getD r []).length : Int) by omega)]
      rw [decide_eq_true g, Bool.true_and] at k
      refine iteT ⟨_, rfl, rfl, _, rfl, ?_⟩
      rw [srt_eq]
      cases t with
      | true => exact iteT k
      | false =>
        refine iteF ⟨_, rfl, _, rfl, l, _, rfl, .inr (SqT.of hl), rfl, flat_nat L, ?_⟩
        rw [if_pos rfl, in_nat]
        exact k
    · rw [decide_eq_false (show ¬ (0 : Int) < ((A.getD r []).length : Int) by omega)]
      rw [decide_eq_false g] at k
      exact iteF k
end
end Hc

set_option Elab.async false
set_option linter.all false
set_option maxRecDepth 100000
set_option maxHeartbeats 1000000
set_option autoImplicit false
namespace Hc
open PySem L2
section
variable {P : Program} {w : World} {K : PySem.W.Frag} {mg : Str → Option Value} {base : Heap}
def spFound (f : List (List Nat) → List Nat → Bool → List (List Int)) : Sp := fun vs H Q _ => ∃ (a l : Addr) (A : List (List Nat)) (L : List Nat) (t : Bool), vs = [.ref a, .ref l, .str (srt t)] ∧ AfT H a A ∧ H l = some (.tup (L.map fun j => V.int (j : Nat))) ∧ Tab A ∧
  ∀ F ys H', Same H H' → H F = none → H' F = some (.lst ys) → PlA H' ys (f A L t) → Q (.ref F) H'
theorem ok_forks (T : Tx K mg) : FnOk P w K mg base CX0 2 T.forks.f T.forks.fd ["after", "lot", "sort"] (spFound forksL) := by
  refine T.forks.F.ok sc_forks (fun vs H Q E h => ?_) (fun cdv A outer s H vs Q E hr h => ?_)
  · obtain ⟨_, _, _, _, _, rfl, _⟩ := h
    rfl
  · obtain ⟨a, l, A, L, t, rfl, hA, hl, Tb, k⟩ := h
    obtain ⟨xs, ea, lx, at_⟩ := id hA
    refine ⟨_, (pss_cons (ps_set (i := 3) sc_forks.nd rfl (Or.inl rfl) (pe_lst pa_nil))
      (pss_cons (ps_for PassesOwn.never rfl (pi_enum (by rfl) T.n_enumerate (pa_cons (pv 0) pa_nil)) (pg_tup (by rfl) (pgs_cons (pg_name (i := 4) sc_forks.nd rfl (Or.inr rfl)) (pgs_cons (pg_name (i := 5) sc_forks.nd rfl (Or.inl rfl)) pgs_nil)))
      (pss_one (ps_if (PW.pt (pw_and (pt_cmpR op_notIn_seq (pv 4) (pv 1) (by rfl)) (pw_and1 (pt_cmpR op_gt (pe_callB call_len_seq (by rfl) T.n_len (by decide +kernel) (pa_cons (pv 5) pa_nil)) pe_int (nomark _)))))
      (pss_one (ps_aug (i := 3) sc_forks.nd rfl (Or.inl rfl) (by exact (pe_lc (own := [("last", 6)]) (g := (gName 6))  rfl sc_forks.nd (pi_tup (pv 5)) (blkOk_by (own := [("last", 6)]) (N := ["after", "lot", "sort", "found", "first", "roads", "last"]) (sc := defScope s_forks) (by decide +kernel)) (fun _ _ _ _ _ => (pg_name (i := 6) sc_forks.nd rfl (Or.inl rfl))) (fun _ _ _ _ _ => (pts_one (by exact (pt_val (pe_call (ok_is_bad_end T) (hr.mono (by decide)) rfl T.is_bad_end.g T.is_bad_end.F.kp T.is_bad_end.b .nil pass0 (pa_cons (pv 0) (pa_cons (pv 1) (pa_cons (pv 2) (pa_cons (pv 6) pa_nil))))))))) (fun _ _ _ _ _ => (by exact (pe_tup (pa_cons pe_str (pa_cons (pv 4) (pa_cons (pv 6) pa_nil)))))))) iop_ext))
      pss_nil)))
      (pss_one (ps_ret (pv 3))))), ?_⟩
    refine ⟨by show 0 ≤ sizeLine; decide, fun F hF => ⟨_, rfl, a, xs, rfl, SqL.of (same_upd hF _ _ ea), for_enumL (xs := xs) (fun i σ' H' => ∃ (ys : List V) (fv rv : Option V), σ' = [some (.ref a), some (.ref l), some (.str (srt t)), some (.ref F), fv, rv, none] ∧ Same H H' ∧ H' F = some (.lst ys) ∧ PlA H' ys ((List.range i).flatMap (forkR A L t)))
      ⟨[], none, none, rfl, same_upd hF, upd_same, .nil⟩ (fun i σ' H' _ ⟨_, _, _, _, s, _⟩ => SqL.of (s _ _ ea)) ?_ ?_⟩⟩
    · rintro i x σ' TT H1 hx hT ⟨ys, fv, rv, rfl, s, hF1, hP⟩
      have hi : i < A.length := by rw [← lx]; exact (List.getElem?_eq_some_iff.mp hx).1
      obtain ⟨b, e1, eb⟩ := at_ i hi
      have ex : x = .ref b := by rw [hx] at e1; exact Option.some.inj e1
      subst ex
      have s1 : Same H1 (upd H1 TT (.tup [.int (i : Nat), .ref b])) := same_upd hT
      have lys : ys.length ≤ 600 := by
        rw [hP.len]
        have := flat_len (f := forkR A L t) (c := 24) (List.range i) fun a _ => Tb.fork L t a
        rw [List.length_range] at this
        have := Tb.sz
        omega
      have sb := s1 _ _ (s _ _ eb)
      have stay : forkR A L t i = [] → ∃ (ys' : List V) (fv rv : Option V), ([some (.ref a), some (.ref l), some (.str (srt t)), some (.ref F), some (.int (i : Nat)), some (.ref b), none] : St) = [some (.ref a), some (.ref l), some (.str (srt t)), some (.ref F), fv, rv, none] ∧ Same H (upd H1 TT (.tup [.int (i : Nat), .ref b])) ∧
          (upd H1 TT (.tup [.int (i : Nat), .ref b])) F = some (.lst ys') ∧ PlA (upd H1 TT (.tup [.int (i : Nat), .ref b])) ys' ((List.range (i + 1)).flatMap (forkR A L t)) := fun e => ⟨ys, _, _, rfl, s.trans s1, s1 _ _ hF1, by
        rw [flat_succ, e, List.append_nil]
        exact hP.nl (NL.of s1)⟩
      refine ⟨TT, _, rfl, SqT.of upd_same, rfl, _, _, rfl, _, _, rfl, rfl, ?_⟩
      refine ⟨_, rfl, _, rfl, l, _, rfl, .inr (SqT.of (s1 _ _ (s _ _ hl))), rfl, flat_nat L, _, rfl, ?_⟩
      rw [if_pos rfl, in_nat]
      by_cases g1 : i ∈ L
      · rw [decide_eq_true g1]
        exact iteF (iteF (stay (by unfold forkR; rw [decide_eq_true g1]; rfl)))
      · rw [decide_eq_false g1]
        refine iteT ⟨_, rfl, b, _, rfl, .inr (SqT.of sb), _, _, rfl, rfl, _, rfl, ?_⟩
        rw [List.length_map]
        by_cases g2 : 1 < (A.getD i []).length
        · rw [decide_eq_true (show (1 : Int) < ((A.getD i []).length : Int) by omega)]
          have ef : forkR A L t i = ((A.getD i []).filter (bEnd A L t)).map (fun (r : Nat) => ([0, (i : Int), (r : Int)] : List Int)) := by
            unfold forkR
            rw [decide_eq_false g1, decide_eq_true g2]; rfl
          have lf := Tb.fork L t i
          rw [ef] at lf
          refine iteT ⟨_, rfl, _, rfl, b, rfl, ⟨_, SqT.of sb⟩, fun D1 hD1 => lc_ends (fun (r : Nat) => ([0, (i : Int), (r : Int)] : List Int)) (bEnd A L t) sb (by have := Tb.row i; omega) hD1 (fun x => rfl) (fun r hr H2 Q' s2 q => ?_) (fun r hr H2 Q' s2 q => ?_) (fun H2 zs s2 hD2 hP2 => ?_)⟩
          · exact ⟨_, rfl, _, rfl, _, rfl, _, rfl, a, l, A, L, t, r, rfl, hA.same ((s.trans s1).trans s2), s2 _ _ (s1 _ _ (s _ _ hl)), Tb.inn i r hr, _, rfl, q⟩
          · exact ⟨_, rfl, _, rfl, by show 3 ≤ sizeLine; decide, fun p hp => q _ _ (same_upd hp) ⟨p, 0, [(i : Int), (r : Int)], rfl, upd_same, rfl, .inl rfl⟩⟩
          · have hF2 := s2 _ _ (s1 _ _ hF1)
            refine ⟨F, D1, ys, zs, rfl, rfl, hF2, hD2, line_le (by have := hP2.len; omega), ys ++ zs, _, _, rfl, fun b o q => ?_, upd_same, ?_⟩
            · rw [upd_ne (ne_of_none q hF)]
              exact s2 _ _ (s1 _ _ (s _ _ q))
            · rw [flat_succ, ef]
              exact ((hP.nl (NL.of (s1.trans s2))).app hP2).nl (NL.upd hF2)
        · rw [decide_eq_false (show ¬ (1 : Int) < ((A.getD i []).length : Int) by omega)]
          exact iteF (stay (by unfold forkR; rw [decide_eq_false g2, Bool.and_false]; rfl))
    · rintro σ' H' ⟨ys, fv, rv, rfl, s, hF1, hP⟩
      rw [lx] at hP
      exact ⟨_, rfl, k F ys H' s hF hF1 hP⟩
theorem ok_rows (T : Tx K mg) : FnOk P w K mg base CX0 2 T.rows.f T.rows.fd ["after", "lot", "sort"] (spFound rowsL) := by
  refine T.rows.F.ok sc_rows (fun vs H Q E h => ?_) (fun cdv A outer s H vs Q E hr h => ?_)
  · obtain ⟨_, _, _, _, _, rfl, _⟩ := h
    rfl
  · obtain ⟨a, l, A, L, t, rfl, hA, hl, Tb, k⟩ := h
    obtain ⟨xs, ea, lx, at_⟩ := id hA
    refine ⟨_, (pss_cons (ps_set (i := 3) sc_rows.nd rfl (Or.inl rfl) (pe_lst pa_nil))
      (pss_cons (ps_for PassesOwn.never rfl (pi_enum (by rfl) T.n_enumerate (pa_cons (pv 0) pa_nil)) (pg_tup (by rfl) (pgs_cons (pg_name (i := 4) sc_rows.nd rfl (Or.inr rfl)) (pgs_cons (pg_name (i := 5) sc_rows.nd rfl (Or.inl rfl)) pgs_nil)))
      (pss_one (ps_for PassesOwn.never rfl (pi_tup (pv 5)) (pg_name (i := 6) sc_rows.nd rfl (Or.inr rfl))
      (pss_one (ps_if (PW.pt (pw_and (pt_cmpR op_notIn_seq (pv 4) (pv 1) (by rfl)) (pw_and1 (pt_cmpR op_notIn_seq (pv 6) (pv 1) (by rfl)))))
      (pss_one (ps_aug (i := 3) sc_rows.nd rfl (Or.inl rfl) (by exact (pe_lc (own := [("last", 7)]) (g := (gName 7))  rfl sc_rows.nd (pi_tup (pe_ix ix_list (pv 0) (pv 6) (fun _ _ => rfl))) (blkOk_by (own := [("last", 7)]) (N := ["after", "lot", "sort", "found", "first", "roads", "middle", "last"]) (sc := defScope s_rows) (by decide +kernel)) (fun _ _ _ _ _ => (pg_name (i := 7) sc_rows.nd rfl (Or.inl rfl))) (fun _ _ _ _ _ => (pts_one (by exact (pt_val (pe_call (ok_is_bad_end T) (hr.mono (by decide)) rfl T.is_bad_end.g T.is_bad_end.F.kp T.is_bad_end.b .nil pass0 (pa_cons (pv 0) (pa_cons (pv 1) (pa_cons (pv 2) (pa_cons (pv 7) pa_nil))))))))) (fun _ _ _ _ _ => (by exact (pe_tup (pa_cons pe_str (pa_cons (pv 4) (pa_cons (pv 6) (pa_cons (pv 7) pa_nil))))))))) iop_ext))
      pss_nil)))))
      (pss_one (ps_ret (pv 3))))), ?_⟩
    refine ⟨by show 0 ≤ sizeLine; decide, fun F hF => ⟨_, rfl, a, xs, rfl, SqL.of (same_upd hF _ _ ea), for_enumL (xs := xs) (fun i σ' H' => ∃ (ys : List V) (fv rv mv : Option V), σ' = [some (.ref a), some (.ref l), some (.str (srt t)), some (.ref F), fv, rv, mv, none] ∧ Same H H' ∧ H' F = some (.lst ys) ∧ PlA H' ys ((List.range i).flatMap (rowR A L t)))
      ⟨[], none, none, none, rfl, same_upd hF, upd_same, .nil⟩ (fun i σ' H' _ ⟨_, _, _, _, _, s, _⟩ => SqL.of (s _ _ ea)) ?_ ?_⟩⟩
    · rintro i x σ' TT H1 hx hT ⟨ys, fv, rv, mv, rfl, s, hF1, hP⟩
      have hi : i < A.length := by rw [← lx]; exact (List.getElem?_eq_some_iff.mp hx).1
      obtain ⟨b, e1, eb⟩ := at_ i hi
      have ex : x = .ref b := by rw [hx] at e1; exact Option.some.inj e1
      subst ex
      have s1 : Same H1 (upd H1 TT (.tup [.int (i : Nat), .ref b])) := same_upd hT
      have l1 : ((List.range i).flatMap (rowR A L t)).length ≤ 13824 := by
        have := flat_len (f := rowR A L t) (c := 576) (List.range i) fun a _ => Tb.rowR L t a
        rw [List.length_range] at this
        have := Tb.sz
        omega
      refine ⟨TT, _, rfl, SqT.of upd_same, rfl, _, _, rfl, _, _, rfl, rfl, ?_⟩
      refine ⟨_, rfl, b, rfl, ⟨_, SqT.of (s1 _ _ (s _ _ eb))⟩, for_tup (xs := (A.getD i []).map fun j => V.int (j : Nat)) (fun j σ' H' => ∃ (ys : List V) (mv : Option V), σ' = [some (.ref a), some (.ref l), some (.str (srt t)), some (.ref F), some (.int (i : Nat)), some (.ref b), mv, none] ∧ Same H H' ∧ H' F = some (.lst ys) ∧
          PlA H' ys ((List.range i).flatMap (rowR A L t) ++ ((A.getD i []).take j).flatMap (rowM A L t i)))
        ⟨ys, mv, rfl, s.trans s1, s1 _ _ hF1, by rw [List.take_zero, List.flatMap_nil, List.append_nil]; exact hP.nl (NL.of s1)⟩ (fun j σ' H' _ ⟨_, _, _, s, _⟩ => SqT.of (s _ _ eb)) ?_ ?_⟩
      · clear hP hF1 s hT ys fv rv mv s1
        rintro j x σ' H1 hx ⟨ys, mv, rfl, s, hF1, hP⟩
        have hj : j < (A.getD i []).length := by
          have := (List.getElem?_eq_some_iff.mp hx).1
          rwa [List.length_map] at this
        obtain ⟨m, em⟩ : ∃ m, m = (A.getD i [])[j] := ⟨_, rfl⟩
        have ex : x = .int (m : Nat) := by
          rw [List.getElem?_map, List.getElem?_eq_getElem hj, ← em] at hx
          exact (Option.some.inj hx).symm
        subst ex
        have hm : m ∈ A.getD i [] := by rw [em]; exact List.getElem_mem hj
        have tk : (A.getD i []).take (j + 1) = (A.getD i []).take j ++ [m] := by rw [em]; exact take_more (List.getElem?_eq_getElem hj)
        have fl : ((A.getD i []).take (j + 1)).flatMap (rowM A L t i) = ((A.getD i []).take j).flatMap (rowM A L t i) ++ rowM A L t i m := by
          rw [tk, List.flatMap_append, List.flatMap_cons, List.flatMap_nil, List.append_nil]
        have hmA := Tb.inn i m hm
        obtain ⟨b2, e3, eb2⟩ := at_ m hmA
        have lys : ys.length ≤ 14400 := by
          rw [hP.len, List.length_append]
          have := flat_len (f := rowM A L t i) (c := 24) ((A.getD i []).take j) fun m _ => Tb.rowM L t i m
          have h2 := Tb.row i
          have h3 : ((A.getD i []).take j).length ≤ (A.getD i []).length := by rw [List.length_take]; omega
          omega
        have stay : rowM A L t i m = [] → ∃ (ys' : List V) (mv : Option V), ([some (.ref a), some (.ref l), some (.str (srt t)), some (.ref F), some (.int (i : Nat)), some (.ref b), some (.int (m : Nat)), none] : St) = [some (.ref a), some (.ref l), some (.str (srt t)), some (.ref F), some (.int (i : Nat)), some (.ref b), mv, none] ∧ Same H H1 ∧
            H1 F = some (.lst ys') ∧ PlA H1 ys' ((List.range i).flatMap (rowR A L t) ++ ((A.getD i []).take (j + 1)).flatMap (rowM A L t i)) := fun e => ⟨ys, _, rfl, s, hF1, by
          rw [fl, e, List.append_nil]
          exact hP⟩
        refine ⟨_, rfl, _, rfl, l, _, rfl, .inr (SqT.of (s _ _ hl)), rfl, flat_nat L, _, rfl, ?_⟩
        rw [if_pos rfl, in_nat]
        by_cases g1 : i ∈ L
        · rw [decide_eq_true g1]
          exact iteF (iteF (stay (by unfold rowM; rw [decide_eq_true g1]; rfl)))
        · rw [decide_eq_false g1]
          refine iteT ⟨_, rfl, _, rfl, l, _, rfl, .inr (SqT.of (s _ _ hl)), rfl, flat_nat L, _, rfl, ?_⟩
          rw [if_pos rfl, in_nat]
          by_cases g2 : m ∈ L
          · rw [decide_eq_true g2]
            exact iteF (stay (by unfold rowM; rw [decide_eq_true g2, Bool.and_comm]; rfl))
          · rw [decide_eq_false g2]
            have ef : rowM A L t i m = ((A.getD m []).filter (bEnd A L t)).map (fun (r : Nat) => ([1, (i : Int), (m : Int), (r : Int)] : List Int)) := by
              unfold rowM
              rw [decide_eq_false g1, decide_eq_false g2]; rfl
            have lf := Tb.rowM L t i m
            rw [ef] at lf
            refine iteT ⟨_, rfl, _, rfl, _, rfl, a, xs, _, _, rfl, rfl, SqL.of (s _ _ ea), atI_nat e3, b2, rfl, ⟨_, SqT.of (s _ _ eb2)⟩, fun D1 hD1 => lc_ends (fun (r : Nat) => ([1, (i : Int), (m : Int), (r : Int)] : List Int)) (bEnd A L t) (s _ _ eb2) (by have := Tb.row m; omega) hD1 (fun x => rfl) (fun r hr H2 Q' s2 q => ?_) (fun r hr H2 Q' s2 q => ?_) (fun H2 zs s2 hD2 hP2 => ?_)⟩
            · exact ⟨_, rfl, _, rfl, _, rfl, _, rfl, a, l, A, L, t, r, rfl, hA.same (s.trans s2), s2 _ _ (s _ _ hl), Tb.inn m r hr, _, rfl, q⟩
            · exact ⟨_, rfl, _, rfl, _, rfl, by show 4 ≤ sizeLine; decide, fun p hp => q _ _ (same_upd hp) ⟨p, 1, [(i : Int), (m : Int), (r : Int)], rfl, upd_same, rfl, .inr rfl⟩⟩
            · have hF2 := s2 _ _ hF1
              refine ⟨F, D1, ys, zs, rfl, rfl, hF2, hD2, line_le (by have := hP2.len; omega), ys ++ zs, _, rfl, fun b o q => ?_, upd_same, ?_⟩
              · rw [upd_ne (ne_of_none q hF)]
                exact s2 _ _ (s _ _ q)
              · rw [fl, ef, ← List.append_assoc]
                exact ((hP.nl (NL.of s2)).app hP2).nl (NL.upd hF2)
      · rintro σ' H' ⟨ys, mv, rfl, s, hF1, hP⟩
        rw [List.length_map, List.take_length] at hP
        refine ⟨ys, _, _, _, rfl, s, hF1, ?_⟩
        rw [flat_succ]
        exact hP
    · rintro σ' H' ⟨ys, fv, rv, mv, rfl, s, hF1, hP⟩
      rw [lx] at hP
      exact ⟨_, rfl, k F ys H' s hF hF1 hP⟩
end
end Hc

set_option Elab.async false
set_option linter.all false
set_option maxRecDepth 100000
set_option maxHeartbeats 1000000
set_option autoImplicit false
namespace Hc
open PySem L2
section
variable {P : Program} {w : World} {K : PySem.W.Frag} {mg : Str → Option Value} {base : Heap}
theorem ok_NoLot___init (T : Tx K mg) : FnOk P w K mg base (L2.CX P w) 1 T.x_NoLot.f T.x_NoLot.fd ["self"] spInitN := by
  refine T.x_NoLot.F.okX sc_NoLot___init (fun vs H Q E h => ?_) (fun cdv A outer s H vs Q E hr h => ?_)
  · obtain ⟨a, rfl, _⟩ := h
    rfl
  · obtain ⟨a, rfl, k⟩ := h
    exact ⟨_, pss_one ps_pass, k⟩
theorem ok_NoSort___init (T : Tx K mg) : FnOk P w K mg base (L2.CX P w) 1 T.x_NoSort.f T.x_NoSort.fd ["self"] spInitN := by
  refine T.x_NoSort.F.okX sc_NoSort___init (fun vs H Q E h => ?_) (fun cdv A outer s H vs Q E hr h => ?_)
  · obtain ⟨a, rfl, _⟩ := h
    rfl
  · obtain ⟨a, rfl, k⟩ := h
    exact ⟨_, pss_one ps_pass, k⟩
def spSort : Sp := fun vs H Q _ => ∃ t : Bool, vs = [.str (srt t)] ∧ Q (.bl true) H
theorem ok_is_sort (T : Tx K mg) : FnOk P w K mg base CX0 1 T.is_sort.f T.is_sort.fd ["thing"] spSort := by
  refine T.is_sort.F.ok sc_is_sort (fun vs H Q E h => ?_) (fun cdv A outer s H vs Q E hr h => ?_)
  · obtain ⟨t, rfl, _⟩ := h
    rfl
  · obtain ⟨t, rfl, k⟩ := h
    refine ⟨_, (pss_one (ps_ret (pe_and (pe_callB call_isi (by rfl) T.n_isinstance (by decide +kernel) (pa_cons (pv 0) (pa_cons (pe_bltn (v := .ty "str") (by rfl) T.n_str (by decide +kernel) rfl) pa_nil))) (pe_one (pe_cmpR op_in_seq (pv 0) (pe_glob (v := .ref T.c_SORTS.choose) rfl T.c_SORTS.choose_spec.1 rfl) (by rfl)))))), ?_⟩
    refine ⟨_, rfl, _, _, _, _, _, rfl, .ty "str", .base (.str _), kit_ty (show kitB "str" "str" = some true by decide +kernel), _, rfl, iteT ?_⟩
    refine ⟨_, rfl, _, _, rfl, .inr (T.c_SORTS.choose_spec.2 H), rfl, rfl, ?_⟩
    rw [if_neg (by decide), srt_in]
    exact k
def spCheck (C : Addr) : Sp := fun vs H Q _ => ∃ (h p : Addr) (n : Int) (rds : List D) (v : V) (d : D) (t : Bool), vs = [.ref p, v, .str (srt t)] ∧ WebO C H h p n rds ∧ Rp H h v d ∧ isLot rds d = true ∧ ∀ H', Same H H' → Q .non H'
theorem ok_check_lot_and_sort (T : Tx K mg) : FnOk P w K mg base (L2.CX P w) 5 T.check_lot_and_sort.f T.check_lot_and_sort.fd ["web", "lot", "sort"] (spCheck T.Web.C) := by
  refine T.check_lot_and_sort.F.okX sc_check_lot_and_sort (fun vs H Q E h => ?_) (fun cdv A outer s H vs Q E hr h => ?_)
  · obtain ⟨_, p, n, rds, v, d, t, rfl, _⟩ := h
    rfl
  · obtain ⟨h, p, n, rds, v, d, t, rfl, W, r, e, k⟩ := h
    refine ⟨_, (pss_cons (ps_if (pt_not (pt_val (pe_call (ok_is_lot T) (hr.mono (by decide)) rfl T.is_lot.g T.is_lot.F.kp T.is_lot.b .nil pass0 (pa_cons (pv 0) (pa_cons (pv 1) pa_nil)))))
      (pss_one (ps_raise rfl (takes_of rfl rfl rfl rfl) (pmk_oexN T.x_NoLot.T T.x_NoLot.iC T.x_NoLot.tI (ok_NoLot___init T) (hr.mono (by decide)) T.x_NoLot.b passL rfl T.x_NoLot.g)))
      pss_nil)
      (pss_one (ps_if (pt_not (pt_val (pe_call (ok_is_sort T) (hr.mono (by decide)) rfl T.is_sort.g T.is_sort.F.kp T.is_sort.b .nil pass0 (pa_cons (pv 2) pa_nil))))
      (pss_one (ps_raise rfl (takes_of rfl rfl rfl rfl) (pmk_oexN T.x_NoSort.T T.x_NoSort.iC T.x_NoSort.tI (ok_NoSort___init T) (hr.mono (by decide)) T.x_NoSort.b passL rfl T.x_NoSort.g)))
      pss_nil))), ?_⟩
    refine ⟨_, rfl, _, rfl, h, p, n, rds, v, d, rfl, W, r, fun H1 s1 => ⟨_, rfl, ?_⟩⟩
    rw [e]
    refine iteF ⟨_, rfl, t, rfl, _, rfl, iteF ?_⟩
    exact k H1 s1
/-- the sorted list of the bad places at F -/
structure BadAt (H : Hp) (F : Addr) (ps : List (List Int)) : Prop where
  ex : ∃ xs zs, H F = some (.lst xs) ∧ PlA H xs zs ∧ Sd zs ps
def spBad (C : Addr) : Sp := fun vs H Q _ => ∃ (h p l : Addr) (n : Int) (rds : List D) (L : List Nat) (t : Bool), vs = [.ref p, .ref l, .str (srt t)] ∧ WebO C H h p n rds ∧ Rp H h (.ref l) (nD L) ∧ isLot rds (nD L) = true ∧
  ∀ F H', Same H H' → H F = none → BadAt H' F (placesL (nx rds) L t) → Q (.ref F) H'
theorem nD_at {H : Hp} {h a : Addr} {ns : List Nat} (r : Rp H h (.ref a) (nD ns)) : H a = some (.tup (ns.map fun j => V.int (j : Nat))) := by
  obtain ⟨b, e, g, _⟩ := nD_inv r
  cases e
  exact g
theorem ok_bad_places (T : Tx K mg) : FnOk P w K mg base (L2.CX P w) 6 T.bad_places.f T.bad_places.fd ["web", "lot", "sort"] (spBad T.Web.C) := by
  refine T.bad_places.F.okX sc_bad_places (fun vs H Q E h => ?_) (fun cdv A outer s H vs Q E hr h => ?_)
  · obtain ⟨_, p, l, n, rds, L, t, rfl, _⟩ := h
    rfl
  · obtain ⟨h, p, l, n, rds, L, t, rfl, W, r, e, k⟩ := h
    have Tb := nx_tab W.l2
    have el := nD_at r
    refine ⟨_, (pss_cons (ps_expr (pe_call (ok_check_lot_and_sort T) (hr.mono (by decide)) rfl T.check_lot_and_sort.g T.check_lot_and_sort.F.kp T.check_lot_and_sort.b .nil passL (pa_cons (pv 0) (pa_cons (pv 1) (pa_cons (pv 2) pa_nil)))))
      (pss_cons (ps_set (i := 3) sc_bad_places.nd rfl (Or.inl rfl) (pe_call (ok_all_next T) (hr.mono (by decide)) rfl T.all_next.g T.all_next.F.kp T.all_next.b .nil passL (pa_cons (pv 0) pa_nil)))
      (pss_one (ps_ret (pe_callB cr_sortedPl (by rfl) T.n_sorted (by decide +kernel) (pa_cons (pe_op op_cat (pe_call (ok_forks T) (hr.mono (by decide)) rfl T.forks.g T.forks.F.kp T.forks.b .nil pass0 (pa_cons (pv 3) (pa_cons (pv 1) (pa_cons (pv 2) pa_nil)))) (pe_call (ok_rows T) (hr.mono (by decide)) rfl T.rows.g T.rows.F.kp T.rows.b .nil pass0 (pa_cons (pv 3) (pa_cons (pv 1) (pa_cons (pv 2) pa_nil))))) pa_nil)))))), ?_⟩
    refine ⟨_, rfl, _, rfl, _, rfl, h, p, n, rds, _, _, t, rfl, W, r, e, fun H1 s1 => ?_⟩
    refine ⟨_, rfl, h, p, n, rds, rfl, W.same s1, fun a H2 s2 _ hA => ?_⟩
    refine ⟨_, rfl, _, rfl, _, rfl, a, l, nx rds, L, t, rfl, hA, s2 _ _ (s1 _ _ el), Tb, fun F1 ys H3 s3 n3 e3 p3 => ?_⟩
    refine ⟨_, rfl, _, rfl, _, rfl, a, l, nx rds, L, t, rfl, hA.same s3, s3 _ _ (s2 _ _ (s1 _ _ el)), Tb, fun F2 zs H4 s4 n4 e4 p4 => ?_⟩
    refine ⟨F1, F2, ys, zs, rfl, rfl, s4 _ _ e3, e4, line_le ?_, fun c hc => ?_⟩
    · have h1 := p3.len
      have h2 := p4.len
      have h3 := Tb.forks L t
      have h4 := Tb.rows L t
      omega
    · have s5 : Same H4 (upd H4 c (.lst (ys ++ zs))) := same_upd hc
      have sm : Same H (upd H4 c (.lst (ys ++ zs))) := (((s1.trans s2).trans s3).trans s4).trans s5
      refine sorted_rule (a := c) (ps := placesL (nx rds) L t) upd_same (((p3.nl (NL.of s4)).app p4).nl (NL.of s5)) fun F us vs H6 s6 n6 e6 p6 d6 => ?_
      refine k F H6 (sm.trans s6) ?_ ⟨us, vs, e6, p6, d6⟩
      cases q : H F with
      | none => rfl
      | some o => rw [sm _ _ q] at n6; cases n6
def spEnough (C : Addr) : Sp := fun vs H Q _ => ∃ (h p l : Addr) (n : Int) (rds : List D) (L : List Nat) (t : Bool), vs = [.ref p, .str (srt t), .ref l] ∧ WebO C H h p n rds ∧ Rp H h (.ref l) (nD L) ∧ isLot rds (nD L) = true ∧
  ∀ H', Same H H' → Q (.bl (decide (placesL (nx rds) L t = []))) H'
theorem ok_is_enough (T : Tx K mg) : FnOk P w K mg base (L2.CX P w) 7 T.is_enough.f T.is_enough.fd ["web", "sort", "lot"] (spEnough T.Web.C) := by
  refine T.is_enough.F.okX sc_is_enough (fun vs H Q E h => ?_) (fun cdv A outer s H vs Q E hr h => ?_)
  · obtain ⟨_, p, l, n, rds, L, t, rfl, _⟩ := h
    rfl
  · obtain ⟨h, p, l, n, rds, L, t, rfl, W, r, e, k⟩ := h
    refine ⟨_, (pss_cons (ps_if (pt_not (pt_val (pe_call (ok_is_sort T) (hr.mono (by decide)) rfl T.is_sort.g T.is_sort.F.kp T.is_sort.b .nil pass0 (pa_cons (pv 1) pa_nil))))
      (pss_one (ps_raise rfl (takes_of rfl rfl rfl rfl) (pmk_oexN T.x_NoSort.T T.x_NoSort.iC T.x_NoSort.tI (ok_NoSort___init T) (hr.mono (by decide)) T.x_NoSort.b passL rfl T.x_NoSort.g)))
      pss_nil)
      (pss_one (ps_ret (pe_and (pe_call (ok_is_lot T) (hr.mono (by decide)) rfl T.is_lot.g T.is_lot.F.kp T.is_lot.b .nil pass0 (pa_cons (pv 0) (pa_cons (pv 2) pa_nil))) (pe_one (pe_cmpR op_eq (pe_callB call_len_seq (by rfl) T.n_len (by decide +kernel) (pa_cons (pe_call (ok_bad_places T) (hr.mono (by decide)) rfl T.bad_places.g T.bad_places.F.kp T.bad_places.b .nil passL (pa_cons (pv 0) (pa_cons (pv 2) (pa_cons (pv 1) pa_nil)))) pa_nil)) pe_int (nomark _))))))), ?_⟩
    refine ⟨_, rfl, t, rfl, _, rfl, iteF ?_⟩
    refine ⟨_, rfl, _, rfl, h, p, n, rds, _, _, rfl, W, r, fun H1 s1 => ⟨_, rfl, ?_⟩⟩
    rw [e]
    refine iteT ⟨_, rfl, _, rfl, _, rfl, h, p, l, n, rds, L, t, rfl, W.same s1, r.same s1, e, fun F H2 s2 _ b => ?_⟩
    obtain ⟨xs, zs, e1, p1, d1⟩ := b.ex
    refine ⟨F, xs, rfl, .inl (SqL.of e1), rfl, ?_⟩
    rw [int_eqd]
    have l1 := p1.len
    have l2 := d1.t.len
    have : decide ((xs.length : Int) = 0) = decide (placesL (nx rds) L t = []) := by
      by_cases q : placesL (nx rds) L t = []
      · rw [decide_eq_true q, decide_eq_true]
        rw [q, List.length_nil] at l2
        omega
      · rw [decide_eq_false q, decide_eq_false]
        intro z
        exact q (List.eq_nil_of_length_eq_zero (by omega))
    rw [this]
    exact k H2 (s1.trans s2)
end
end Hc

set_option Elab.async false
set_option linter.all false
set_option maxRecDepth 100000
set_option maxHeartbeats 1000000
set_option autoImplicit false
namespace Hc
open PySem L2
/-- the pool: a list of two numbers and of the great cells -/
def PoolAt (H : Hp) (h c : Addr) : Prop := ∃ (s t : Int) (gs : List Int), H h = some (.lst [.int s, .int t, .ref c]) ∧ H c = some (.lst (gs.map V.int)) ∧ c ≠ h
/-- all but the pool is as it was -/
def Bt (h c : Addr) (H H' : Hp) : Prop := ∀ b o, H b = some o → b ≠ h → b ≠ c → H' b = some o
theorem Bt.refl (h c : Addr) (H : Hp) : Bt h c H H := fun _ _ e _ _ => e
theorem Bt.trans {h c : Addr} {H H1 H2 : Hp} (a : Bt h c H H1) (b : Bt h c H1 H2) : Bt h c H H2 := fun d o e n m => b d o (a d o e n m) n m
theorem Bt.of {h c : Addr} {H H' : Hp} (s : Same H H') : Bt h c H H' := fun b o e _ _ => s b o e
theorem bt_h {h c : Addr} {H : Hp} {o : HO} : Bt h c H (upd H h o) := fun b u e n _ => by rw [upd_ne n]; exact e
theorem bt_c {h c : Addr} {H : Hp} {o : HO} : Bt h c H (upd H c o) := fun b u e _ n => by rw [upd_ne n]; exact e
theorem Bt.nl {h c : Addr} {H H' : Hp} (k : Bt h c H H') (p : PoolAt H h c) : NL H H' := fun b o e n => by
  obtain ⟨s, t, gs, e1, e2, _⟩ := p
  exact k b o e (fun z => by subst z; rw [e1] at e; exact n _ (Option.some.inj e).symm) (fun z => by subst z; rw [e2] at e; exact n _ (Option.some.inj e).symm)
theorem PoolAt.same {H H' : Hp} {h c : Addr} (p : PoolAt H h c) (k : Same H H') : PoolAt H' h c := by
  obtain ⟨s, t, gs, e1, e2, n⟩ := p
  exact ⟨s, t, gs, k _ _ e1, k _ _ e2, n⟩
theorem PoolAt.ne {H : Hp} {h c : Addr} (p : PoolAt H h c) {D : Addr} (hD : H D = none) : D ≠ h ∧ D ≠ c := by
  obtain ⟨s, t, gs, e1, e2, _⟩ := p
  exact ⟨fun z => ne_of_none e1 hD z.symm, fun z => ne_of_none e2 hD z.symm⟩
theorem PoolAt.upd {H : Hp} {h c : Addr} (p : PoolAt H h c) {D : Addr} {o : HO} (n1 : D ≠ h) (n2 : D ≠ c) : PoolAt (upd H D o) h c := by
  obtain ⟨s, t, gs, e1, e2, n⟩ := p
  exact ⟨s, t, gs, by rw [upd_ne (Ne.symm n1)]; exact e1, by rw [upd_ne (Ne.symm n2)]; exact e2, n⟩
theorem Bt.free {h c : Addr} {H H' : Hp} (k : Bt h c H H') {D : Addr} (n1 : D ≠ h) (n2 : D ≠ c) (e : H' D = none) : H D = none := by
  cases q : H D with
  | none => rfl
  | some o => rw [k D o q n1 n2] at e; cases e
/-- with something new that changes -/
theorem Bt.upd {h c D : Addr} {H H' : Hp} {o : HO} (k : Bt h c H H') (hD : H D = none) : Bt h c H (upd H' D o) := fun b u e n m => by
  rw [upd_ne (ne_of_none e hD)]
  exact k _ _ e n m
theorem mod_range (x : Int) {m : Int} (h : 0 < m) : 0 ≤ x.fmod m ∧ x.fmod m < m := by
  rw [Int.fmod_eq_emod_of_nonneg x (by omega)]
  exact ⟨Int.emod_nonneg x (by omega), Int.emod_lt_of_pos x h⟩
theorem cutV_ints (ns : List Int) (lo hi : Option Int) : ∃ ms : List Int, cutV (ns.map V.int) lo hi = ms.map V.int ∧ ms.length ≤ ns.length := by
  refine ⟨(ns.drop (HT.sIx ns.length 0 lo)).take (HT.sIx ns.length ns.length hi - HT.sIx ns.length 0 lo), ?_, ?_⟩
  · unfold cutV
    rw [List.length_map, List.map_take, List.map_drop]
  · rw [List.length_take, List.length_drop]; omega
theorem seq0 {n : Nat} (h : 0 < n) : seqIndex? 0 n = some 0 := by
  unfold seqIndex?
  simp
  omega
theorem ixN0 {n : Nat} (h : 0 < n) : ixN n 0 = some 0 := by
  unfold ixN
  rw [if_pos (by decide), if_pos (by omega)]; rfl
section
variable {P : Program} {w : World} {K : PySem.W.Frag} {mg : Str → Option Value} {base : Heap}
def spDraw : Sp := fun vs H Q _ => ∃ (h c : Addr) (m : Int), vs = [.ref h, .int m] ∧ PoolAt H h c ∧ 0 < m ∧ m < 1000000 ∧
  ∀ n H', 0 ≤ n → n < m → PoolAt H' h c → Bt h c H H' → Q (.int n) H'
theorem ok__law_draw (T : Tx K mg) : FnOk P w K mg base CX0 1 T._law_draw.f T._law_draw.fd ["_law_pool_here", "_law_many"] spDraw := by
  refine T._law_draw.F.ok sc_law_draw (fun vs H Q E h => ?_) (fun cdv A outer s H vs Q E hr h => ?_)
  · obtain ⟨h, c, m, rfl, _⟩ := h
    rfl
  · obtain ⟨h, c, m, rfl, hA, m0, m1, k⟩ := h
    refine ⟨_, (pss_cons (ps_set (i := 2) sc_law_draw.nd rfl (Or.inl rfl) (pe_ix ix_list (pv 0) pe_int (fun _ _ => rfl)))
      (pss_cons (ps_if (pt_cmpR op_gt (pe_callB call_len_seq (by rfl) T.n_len (by decide +kernel) (pa_cons (pv 2) pa_nil)) pe_int (nomark _))
      (pss_cons (ps_set (i := 3) sc_law_draw.nd rfl (Or.inl rfl) (pe_op op_modN (pe_callTy call_int1 (by rfl) T.n_int (by decide +kernel) (pa_cons (pe_ix ix_list (pv 2) pe_int (fun _ _ => rfl)) pa_nil)) (pv 1)))
      (pss_cons (ps_asg (pe_op op_fdivN (pe_callTy call_int1 (by rfl) T.n_int (by decide +kernel) (pa_cons (pe_ix ix_list (pv 2) pe_int (fun _ _ => rfl)) pa_nil)) (pv 1)) (pg_sub (pv 2) pe_int set_list))
      (pss_cons (ps_if (pt_cmpR op_eq (pe_ix ix_list (pv 2) pe_int (fun _ _ => rfl)) pe_int (nomark _))
      (pss_one (ps_expr (pe_bm PySem.F.plainAttrs_list PySem.F.slot_list_pop PySem.F.type_list_pop mt_popAt (pv 2) (pa_cons pe_int pa_nil))))
      pss_nil)
      (pss_one (ps_ret (pv 3))))))
      pss_nil)
      (pss_cons (ps_asg (pe_op op_add (pe_ix ix_list (pv 0) pe_int (fun _ _ => rfl)) pe_int) (pg_sub (pv 0) pe_int set_list))
      (pss_cons (ps_set (i := 4) sc_law_draw.nd rfl (Or.inl rfl) (pe_op op_modN (pe_callTy call_int1 (by rfl) T.n_int (by decide +kernel) (pa_cons (pe_op op_mul (pe_op op_add (pe_ix ix_list (pv 0) pe_int (fun _ _ => rfl)) (pe_op op_mul pe_int (pe_ix ix_list (pv 0) pe_int (fun _ _ => rfl)))) pe_int) pa_nil)) pe_int))
      (pss_cons (ps_set (i := 4) sc_law_draw.nd rfl (Or.inl rfl) (pe_op op_modN (pe_callTy call_int1 (by rfl) T.n_int (by decide +kernel) (pa_cons (pe_op op_mul (pv 4) (pe_op op_add (pe_op op_fdivN (pv 4) pe_int) pe_int)) pa_nil)) pe_int))
      (pss_cons (ps_set (i := 4) sc_law_draw.nd rfl (Or.inl rfl) (pe_op op_modN (pe_callTy call_int1 (by rfl) T.n_int (by decide +kernel) (pa_cons (pe_op op_mul (pv 4) (pe_op op_add (pe_op op_fdivN (pv 4) pe_int) pe_int)) pa_nil)) pe_int))
      (pss_one (ps_ret (pe_op op_modN (pe_callTy call_int1 (by rfl) T.n_int (by decide +kernel) (pa_cons (pe_op op_fdivN (pv 4) pe_int) pa_nil)) (pv 1)))))))))), ?_⟩
    obtain ⟨s, t, gs, hh, hc, hn⟩ := id hA
    refine ⟨_, rfl, h, _, _, _, rfl, rfl, SqL.of hh, atI_nat (j := 2) rfl, _, rfl, c, _, rfl, .inl (SqL.of hc), _, _, rfl, rfl, _, rfl, ?_⟩
    rw [List.length_map]
    cases gs with
    | cons g gs =>
      rw [decide_eq_true (show (0 : Int) < (((g :: gs).length : Nat) : Int) by rw [List.length_cons]; omega)]
      refine iteT ?_
      obtain ⟨q1, q2⟩ := mod_range g m0
      refine ⟨_, rfl, c, _, _, _, rfl, rfl, SqL.of hc, atI_nat (j := 0) rfl, .inl ⟨_, rfl, _, rfl, _, _, rfl, rfl, by omega, ?_⟩⟩
      refine ⟨_, rfl, c, _, _, _, rfl, rfl, SqL.of hc, atI_nat (j := 0) rfl, .inl ⟨_, rfl, _, rfl, _, _, rfl, rfl, ⟨by omega, by omega⟩, _, rfl, c, _, 0, 0, rfl, rfl, hc, (by rw [List.length_map, List.length_cons]; exact ixN0 (Nat.succ_pos _)), ?_⟩⟩
      have b1 : Bt h c H (upd H c (.lst ((V.int (g.fdiv m)) :: gs.map V.int))) := bt_c
      have p1 : PoolAt (upd H c (.lst ((V.int (g.fdiv m)) :: gs.map V.int))) h c := ⟨s, t, g.fdiv m :: gs, by rw [upd_ne (Ne.symm hn)]; exact hh, upd_same, hn⟩
      refine ⟨_, rfl, c, _, _, _, rfl, rfl, SqL.of upd_same, atI_nat (j := 0) rfl, rfl, _, rfl, ite2 (fun _ => ?_) (fun _ => ?_)⟩
      · refine ⟨_, rfl, .inl ⟨rfl, _, SqL.of upd_same⟩, c, _, 0, 0, _, rfl, rfl, upd_same, by decide, by decide, seq0 (by rw [List.length_set, List.length_map, List.length_cons]; exact Nat.succ_pos _), rfl, ?_⟩
        refine ⟨_, rfl, k _ _ q1 q2 ⟨s, t, gs, ?_, upd_same, hn⟩ (b1.trans bt_c)⟩
        rw [upd_ne (Ne.symm hn), upd_ne (Ne.symm hn)]
        exact hh
      · exact ⟨_, rfl, k _ _ q1 q2 p1 b1⟩
    | nil =>
      rw [decide_eq_false (show ¬ (0 : Int) < ((([] : List Int).length : Nat) : Int) by simp)]
      refine iteF ?_
      have bt : ∀ {H1 : Hp} {xs}, Bt h c H H1 → Bt h c H (upd H1 h xs) := fun b => b.trans bt_h
      refine ⟨_, rfl, h, _, _, _, rfl, rfl, SqL.of hh, atI_nat (j := 1) rfl, _, _, rfl, rfl, _, rfl, h, _, 1, 1, rfl, rfl, hh, rfl, ?_⟩
      refine ⟨_, rfl, h, _, _, _, rfl, rfl, SqL.of upd_same, atI_nat (j := 0) rfl, _, rfl, h, _, _, _, rfl, rfl, SqL.of upd_same, atI_nat (j := 1) rfl, _, _, rfl, rfl, .inl ⟨by decide, by decide⟩, _, _, rfl, rfl, _, _, rfl, rfl, .inr ⟨by decide, by decide⟩, .inl ⟨_, rfl, _, _, rfl, rfl, (show (2147483647 : Int) ≠ 0 by decide), ?_⟩⟩
      obtain ⟨u1, u2⟩ := mod_range ((s + 7919 * (t + 1)) * 48271) (m := 2147483647) (by decide)
      obtain ⟨x, hx⟩ : ∃ x, x = ((s + 7919 * (t + 1)) * 48271).fmod 2147483647 := ⟨_, rfl⟩
      rw [← hx] at u1 u2
      refine ⟨_, rfl, _, rfl, _, _, rfl, rfl, ⟨by decide, by decide⟩, _, _, rfl, rfl, _, _, rfl, rfl, .inl ⟨by rw [← hx]; omega, by rw [← hx]; omega⟩, .inl ⟨_, rfl, _, _, rfl, rfl, (show (2147483647 : Int) ≠ 0 by decide), ?_⟩⟩
      rw [← hx]
      obtain ⟨u1, u2⟩ := mod_range (x * (x.fdiv 1009 + 69621)) (m := 2147483647) (by decide)
      obtain ⟨y, hy⟩ : ∃ y, y = (x * (x.fdiv 1009 + 69621)).fmod 2147483647 := ⟨_, rfl⟩
      rw [← hy] at u1 u2
      refine ⟨_, rfl, _, rfl, _, _, rfl, rfl, ⟨by decide, by decide⟩, _, _, rfl, rfl, _, _, rfl, rfl, .inl ⟨by rw [← hy]; omega, by rw [← hy]; omega⟩, .inl ⟨_, rfl, _, _, rfl, rfl, (show (2147483399 : Int) ≠ 0 by decide), ?_⟩⟩
      rw [← hy]
      refine ⟨_, rfl, _, _, rfl, rfl, ⟨by decide, by decide⟩, .inl ⟨_, rfl, _, rfl, _, _, rfl, rfl, by omega, ?_⟩⟩
      obtain ⟨q1, q2⟩ := mod_range (((y * (y.fdiv 2003 + 40692)).fmod 2147483399).fdiv 16) m0
      exact k _ _ q1 q2 ⟨s, t + 1, [], upd_same, by rw [upd_ne hn]; exact hc, hn⟩ (bt (Bt.refl h c H))
def spPool (K : PySem.W.Frag) : Sp := fun vs H Q _ => ∃ (a : Addr) (ns : List Int), vs = [.ref a] ∧ SqL K H a (ns.map V.int) ∧ ns.length ≤ 63 ∧
  ∀ h c H', Same H H' → PoolAt H' h c → Q (.ref h) H'
theorem ok__law_pool (T : Tx K mg) : FnOk P w K mg base CX0 1 T._law_pool.f T._law_pool.fd ["_law_script"] (spPool K) := by
  refine T._law_pool.F.ok sc_law_pool (fun vs H Q E h => ?_) (fun cdv A outer s H vs Q E hr h => ?_)
  · obtain ⟨a, ns, rfl, _⟩ := h
    rfl
  · obtain ⟨a, ns, rfl, hS, hl, k⟩ := h
    refine ⟨_, (pss_cons (ps_set (i := 1) sc_law_pool.nd rfl (Or.inl rfl) (pe_op op_add (pe_callB call_len_seq (by rfl) T.n_len (by decide +kernel) (pa_cons (pv 0) pa_nil)) pe_int))
      (pss_cons (ps_for PassesOwn.never rfl (pi_list (pe_slice sl_list (pv 0) po_none (po_some pe_int))) (pg_name (i := 2) sc_law_pool.nd rfl (Or.inl rfl))
      (pss_one (ps_set (i := 1) sc_law_pool.nd rfl (Or.inl rfl) (pe_op op_modN (pe_callTy call_int1 (by rfl) T.n_int (by decide +kernel) (pa_cons (pe_op op_add (pe_op op_add (pe_op op_mul (pv 1) pe_int) (pe_op op_modN (pe_callTy call_int1 (by rfl) T.n_int (by decide +kernel) (pa_cons (pv 2) pa_nil)) pe_int)) pe_int) pa_nil)) pe_int))))
      (pss_one (ps_ret (pe_lst (pa_cons (pv 1) (pa_cons pe_int (pa_cons (pe_lc (own := [("_law_cell", 2)]) (g := (gName 2))  rfl sc_law_pool.nd (pi_list (pe_slice sl_list (pv 0) po_none (po_some pe_int))) (blkOk_by (own := [("_law_cell", 2)]) (N := ["_law_script", "_law_seed", "_law_cell"]) (sc := defScope s_law_pool) (by decide +kernel)) (fun _ _ _ _ _ => (pg_name (i := 2) sc_law_pool.nd rfl (Or.inl rfl))) (fun _ _ _ _ _ => (pts_one (by exact (pt_cmpR op_ge (pe_callB call_abs (by rfl) T.n_abs (by decide +kernel) (pa_cons (pv 2) pa_nil)) (pe_op op_pow pe_int pe_int) (nomark _))))) (fun _ _ _ _ _ => (by exact (pe_callB call_abs (by rfl) T.n_abs (by decide +kernel) (pa_cons (pv 2) pa_nil))))) pa_nil)))))))), ?_⟩
    obtain ⟨ms, em, lm⟩ := cutV_ints ns none (some 63)
    refine ⟨_, rfl, a, _, rfl, .inl hS, _, _, rfl, rfl, ?_⟩
    rw [List.length_map]
    refine ⟨_, rfl, _, rfl, a, _, rfl, hS, fun p hp => ?_⟩
    rw [em]
    have s1 : Same H (upd H p (.lst (ms.map V.int))) := same_upd hp
    refine ⟨p, rfl, ⟨_, SqL.of upd_same⟩, for_list (xs := ms.map V.int) (fun i σ' H' => ∃ (sd : Int) (cv : Option V), σ' = [some (.ref a), some (.int sd), cv] ∧ 0 ≤ sd ∧ sd < 2147483647 ∧ Same (upd H p (.lst (ms.map V.int))) H')
      ⟨_, none, rfl, by omega, by omega, Same.refl _⟩ (fun i σ' H' _ ⟨_, _, _, _, _, s⟩ => SqL.of (s _ _ upd_same)) ?_ ?_⟩
    · rintro i x σ' H' hx ⟨sd, cv, rfl, d0, d1, s⟩
      obtain ⟨z, rfl⟩ : ∃ z, x = V.int z := by
        rw [List.getElem?_map] at hx
        cases e : ms[i]? with
        | none => rw [e] at hx; cases hx
        | some z => rw [e] at hx; exact ⟨z, (Option.some.inj hx).symm⟩
      obtain ⟨f0, f1⟩ := mod_range (sd * 48271 + z.fmod 2147483629 + 11) (m := 2147483647) (by decide)
      refine ⟨_, rfl, _, _, rfl, rfl, .inl ⟨by omega, by omega⟩, _, rfl, .inl ⟨_, rfl, _, _, rfl, rfl, (show (2147483629 : Int) ≠ 0 by decide), _, _, rfl, rfl, _, _, rfl, rfl, .inl ⟨_, rfl, _, _, rfl, rfl, (show (2147483647 : Int) ≠ 0 by decide), ?_⟩⟩⟩
      exact ⟨_, _, rfl, f0, f1, s⟩
    · rintro σ' H' ⟨sd, cv, rfl, d0, d1, s⟩
      have s2 := s1.trans s
      refine ⟨_, rfl, _, rfl, _, rfl, a, _, rfl, s2.seq hS, fun p2 hp2 => ?_⟩
      rw [em]
      have s3 : Same H' (upd H' p2 (.lst (ms.map V.int))) := same_upd hp2
      refine ⟨p2, rfl, ⟨_, SqL.of upd_same⟩, fun D hD => ?_⟩
      refine lc_list (K := K) (a := p2) (xs := ms.map V.int) (fun i H2 => ∃ ys : List Int, H2 D = some (.lst (ys.map V.int)) ∧ ys.length ≤ i ∧ Same (upd H' p2 (.lst (ms.map V.int))) H2)
        ⟨[], upd_same, Nat.le_refl _, same_upd hD⟩ (fun i H2 _ ⟨_, _, _, s⟩ => SqL.of (s _ _ upd_same)) ?_ ?_
      · rintro i x H2 hx ⟨ys, hd, hy, s4⟩
        have hi : i < (ms.map V.int).length := (List.getElem?_eq_some_iff.mp hx).1
        rw [List.length_map] at hi
        obtain ⟨z, rfl⟩ : ∃ z, x = V.int z := by
          rw [List.getElem?_map] at hx
          cases e : ms[i]? with
          | none => rw [e] at hx; cases hx
          | some z => rw [e] at hx; exact ⟨z, (Option.some.inj hx).symm⟩
        refine ⟨rfl, _, rfl, _, rfl, _, _, rfl, rfl, ⟨by decide, by decide, by decide⟩, _, _, rfl, rfl, _, rfl, ite2 (fun _ => ?_) (fun _ => ⟨ys, hd, by omega, s4⟩)⟩
        refine ⟨_, rfl, _, rfl, _, hd, ?_, ys ++ [if z < 0 then -z else z], ?_, ?_, ?_⟩
        · rw [List.length_map]; exact line_lt (by omega)
        · rw [upd_same, List.map_append]; rfl
        · rw [List.length_append]; show ys.length + 1 ≤ i + 1; omega
        · intro b o q
          rw [upd_ne (ne_of_none q hD)]
          exact s4 _ _ q
      · rintro H2 ⟨ys, hd, hy, s4⟩
        refine ⟨by show 3 ≤ sizeLine; decide, fun hh nh => ?_⟩
        have nD : D ≠ hh := ne_of_none hd nh
        refine k hh D _ (((s2.trans s3).trans s4).trans (same_upd nh)) ⟨_, _, ys, upd_same, by rw [upd_ne nD]; exact hd, nD⟩
end
end Hc

set_option Elab.async false
set_option linter.all false
set_option maxRecDepth 100000
set_option maxHeartbeats 1000000
set_option autoImplicit false
namespace Hc
open PySem L2
def PrV (H : Hp) (x : V) (p : Int × Int) : Prop := ∃ q, x = V.ref q ∧ H q = some (.tup [.int p.1, .int p.2])
inductive PrA (H : Hp) : List V → List (Int × Int) → Prop
  | nil : PrA H [] []
  | cons {x : V} {p : Int × Int} {xs : List V} {ps : List (Int × Int)} : PrV H x p → PrA H xs ps → PrA H (x :: xs) (p :: ps)
theorem PrV_nl {H H' : Hp} {x : V} {p : Int × Int} (a : PrV H x p) (k : NL H H') : PrV H' x p := by
  obtain ⟨q, e, h⟩ := a
  exact ⟨q, e, k.tup h⟩
theorem PrA.nl {H H' : Hp} (k : NL H H') : ∀ {xs : List V} {ps : List (Int × Int)}, PrA H xs ps → PrA H' xs ps
  | _, _, .nil => .nil
  | _, _, .cons a r => .cons (PrV_nl a k) (PrA.nl k r)
theorem PrA.app {H : Hp} : ∀ {xs ys : List V} {ps qs : List (Int × Int)}, PrA H xs ps → PrA H ys qs → PrA H (xs ++ ys) (ps ++ qs)
  | _, _, _, _, .nil, s => s
  | _, _, _, _, .cons a r, s => .cons a (PrA.app r s)
theorem PrA.len {H : Hp} : ∀ {xs : List V} {ps : List (Int × Int)}, PrA H xs ps → xs.length = ps.length
  | _, _, .nil => rfl
  | _, _, .cons a r => by rw [List.length_cons, List.length_cons, PrA.len r]
theorem PrA.take {H : Hp} : ∀ {xs : List V} {ps : List (Int × Int)} (n : Nat), PrA H xs ps → PrA H (xs.take n) (ps.take n)
  | _, _, 0, _ => .nil
  | _, _, _ + 1, .nil => .nil
  | _, _, n + 1, .cons a r => .cons a (PrA.take n r)
theorem PrA.get {H : Hp} : ∀ {xs : List V} {ps : List (Int × Int)} {i : Nat} {x : V}, PrA H xs ps → xs[i]? = some x → ∃ p, ps[i]? = some p ∧ PrV H x p
  | _, _, i, _, .nil, e => by simp at e
  | _, _, 0, _, .cons a r, e => by simp at e; subst e; exact ⟨_, rfl, a⟩
  | _, _, i + 1, v, .cons a r, e => by
    obtain ⟨d, h1, h2⟩ := PrA.get (i := i) (x := v) r (by simpa using e)
    exact ⟨d, by simpa using h1, h2⟩
def prD (p : Int × Int) : D := .tup [.int p.1, .int p.2]
theorem PrA.rp {H : Hp} {h : Addr} : ∀ {xs : List V} {ps : List (Int × Int)}, PrA H xs ps → RpA H h xs (ps.map prD)
  | _, _, .nil => .nil
  | _, _, .cons a r => by
    obtain ⟨q, rfl, e⟩ := a
    exact .cons (.tup e (by simp) (.cons (.int _) (.cons (.int _) .nil))) (PrA.rp r)
def Good (n : Int) (p : Int × Int) : Prop := 0 ≤ p.1 ∧ p.1 < n ∧ 0 ≤ p.2 ∧ p.2 < n ∧ p.1 ≠ p.2
theorem good_be {n : Int} {ps : List (Int × Int)} (g : ∀ p ∈ ps, Good n p) : (ps.map prD).all (isBE n) = true := by
  rw [List.all_eq_true]
  intro d hd
  obtain ⟨p, hp, rfl⟩ := List.mem_map.mp hd
  obtain ⟨a, b, c, d, e⟩ := g p hp
  exact be_of a b c d e
theorem good_app {n : Int} {ps qs : List (Int × Int)} (a : ∀ p ∈ ps, Good n p) (b : ∀ p ∈ qs, Good n p) : ∀ p ∈ ps ++ qs, Good n p := fun p hp => by
  rcases List.mem_append.mp hp with hp | hp
  · exact a p hp
  · exact b p hp
theorem good_one {n : Int} {q : Int × Int} (a : Good n q) : ∀ p ∈ [q], Good n p := fun p hp => by rw [List.mem_singleton] at hp; subst hp; exact a
section
variable {P : Program} {w : World} {K : PySem.W.Frag} {mg : Str → Option Value} {base : Heap}
/-- roads of n houses at F, a new list -/
structure NewRoads (H H' : Hp) (F : Addr) (n : Int) (m : Nat) : Prop where
  fr : H F = none
  ex : ∃ xs ps, H' F = some (.lst xs) ∧ PrA H' xs ps ∧ (∀ p ∈ ps, Good n p) ∧ ps.length = m
def spFree : Sp := fun vs H Q _ => ∃ (h c : Addr) (n m : Int), vs = [.ref h, .int n, .int m] ∧ PoolAt H h c ∧ 2 ≤ n ∧ n ≤ 1000 ∧ 0 ≤ m ∧ m ≤ 1000 ∧
  ∀ F H', PoolAt H' h c → Bt h c H H' → NewRoads H H' F n m.toNat → Q (.ref F) H'
theorem ok__law_free_roads (T : Tx K mg) : FnOk P w K mg base CX0 2 T._law_free_roads.f T._law_free_roads.fd ["_law_pool_here", "_law_houses", "_law_many"] spFree := by
  refine T._law_free_roads.F.ok sc_law_free_roads (fun vs H Q E h => ?_) (fun cdv A outer s H vs Q E hr h => ?_)
  · obtain ⟨h, c, n, m, rfl, _⟩ := h
    rfl
  · obtain ⟨h, c, n, m, rfl, hA, n0, n1, m0, m1, k⟩ := h
    refine ⟨_, (pss_cons (ps_set (i := 3) sc_law_free_roads.nd rfl (Or.inl rfl) (pe_lst pa_nil))
      (pss_cons (ps_for PassesOwn.never rfl (pi_range1 (by rfl) T.n_range (pa_cons (pv 2) pa_nil)) (pg_name (i := 4) sc_law_free_roads.nd rfl (Or.inl rfl))
      (pss_cons (ps_set (i := 5) sc_law_free_roads.nd rfl (Or.inl rfl) (pe_call (ok__law_draw T) (hr.mono (by decide)) rfl T._law_draw.g T._law_draw.F.kp T._law_draw.b .nil pass0 (pa_cons (pv 0) (pa_cons (pv 1) pa_nil))))
      (pss_cons (ps_set (i := 6) sc_law_free_roads.nd rfl (Or.inl rfl) (pe_call (ok__law_draw T) (hr.mono (by decide)) rfl T._law_draw.g T._law_draw.F.kp T._law_draw.b .nil pass0 (pa_cons (pv 0) (pa_cons (pe_op op_sub (pv 1) pe_int) pa_nil))))
      (pss_one (ps_expr (pe_bm PySem.F.plainAttrs_list PySem.F.slot_list_append PySem.F.type_list_append mt_append (pv 3) (pa_cons (pe_tup (pa_cons (pv 5) (pa_cons (pe_op op_add (pv 6) (pe_callTy call_int1 (by rfl) T.n_int (by decide +kernel) (pa_cons (pe_cmpR op_ge (pv 6) (pv 5) (nomark _)) pa_nil))) pa_nil))) pa_nil)))))))
      (pss_one (ps_ret (pv 3))))), ?_⟩
    refine ⟨by show 0 ≤ sizeLine; decide, fun F hF => ?_⟩
    obtain ⟨f1, f2⟩ := hA.ne hF
    refine ⟨_, rfl, m, rfl, by omega, by omega, for_range (lo := 0) (n := m.toNat) (fun i σ' H' => ∃ (kv bv ev : Option V) (xs : List V) (ps : List (Int × Int)), σ' = [some (.ref h), some (.int n), some (.int m), some (.ref F), kv, bv, ev] ∧ PoolAt H' h c ∧ Bt h c H H' ∧
        H' F = some (.lst xs) ∧ PrA H' xs ps ∧ (∀ p ∈ ps, Good n p) ∧ ps.length = i)
      ⟨none, none, none, [], [], rfl, hA.upd f1 f2, (Bt.refl h c H).upd hF, upd_same, .nil, fun _ z => (nomatch z), rfl⟩ ?_ ?_⟩
    · rintro i σ' H1 hi ⟨kv, bv, ev, xs, ps, rfl, p1, b1, e1, r1, g1, l1⟩
      refine ⟨_, rfl, _, rfl, h, c, n, rfl, p1, by omega, by omega, fun x H2 x0 x1 p2 b2 => ?_⟩
      refine ⟨_, rfl, _, rfl, _, _, rfl, rfl, h, c, n - 1, rfl, p2, by omega, by omega, fun y H3 y0 y1 p3 b3 => ?_⟩
      have e3 := b3 _ _ (b2 _ _ e1 f1 f2) f1 f2
      have r3 := (r1.nl (b2.nl p1)).nl (b3.nl p2)
      have l3 := r3.len
      refine ⟨_, rfl, .inl ⟨rfl, _, SqL.of e3⟩, _, rfl, _, rfl, _, rfl, _, rfl, _, _, rfl, rfl, .inr ⟨_, rfl, _, _, rfl, rfl, by show 2 ≤ sizeLine; decide, fun q hq => ?_⟩⟩
      have gd : Good n (x, y + (if decide (x ≤ y) = true then (1 : Int) else 0)) := by
        have : 0 ≤ y + (if decide (x ≤ y) = true then (1 : Int) else 0) ∧ y + (if decide (x ≤ y) = true then (1 : Int) else 0) < n ∧ x ≠ y + (if decide (x ≤ y) = true then (1 : Int) else 0) := by
          by_cases h : x ≤ y
          · rw [decide_eq_true h, if_pos rfl]; omega
          · rw [decide_eq_false h, if_neg (by decide)]; omega
        exact ⟨x0, x1, this.1, this.2.1, this.2.2⟩
      have s4 : Same H3 (upd H3 q (.tup [.int x, .int (y + (if decide (x ≤ y) = true then (1 : Int) else 0))])) := same_upd hq
      obtain ⟨q1, q2⟩ := p3.ne hq
      have e4 := s4 _ _ e3
      refine ⟨F, xs, _, rfl, rfl, e4, line_lt (by omega), ?_⟩
      refine ⟨_, _, _, xs ++ [.ref q], ps ++ [(x, y + (if decide (x ≤ y) = true then (1 : Int) else 0))], rfl, (p3.same s4).upd f1 f2, (((b1.trans b2).trans b3).trans (Bt.of s4)).upd hF, upd_same, ?_, good_app g1 (good_one gd), by rw [List.length_append, l1]; rfl⟩
      exact ((r3.nl (NL.of s4)).app (.cons ⟨q, rfl, upd_same⟩ .nil)).nl (NL.upd e4)
    · rintro σ' H1 ⟨kv, bv, ev, xs, ps, rfl, p1, b1, e1, r1, g1, l1⟩
      exact ⟨_, rfl, k F H1 p1 b1 ⟨hF, xs, ps, e1, r1, g1, l1⟩⟩
def spTree : Sp := fun vs H Q _ => ∃ (h c : Addr) (n : Int), vs = [.int n, .ref h] ∧ PoolAt H h c ∧ 2 ≤ n ∧ n ≤ 1000 ∧
  ∀ F H', PoolAt H' h c → Bt h c H H' → NewRoads H H' F n (n - 1).toNat → Q (.ref F) H'
theorem ok__law_tree_roads (T : Tx K mg) : FnOk P w K mg base CX0 2 T._law_tree_roads.f T._law_tree_roads.fd ["_law_houses", "_law_pool_here"] spTree := by
  refine T._law_tree_roads.F.ok sc_law_tree_roads (fun vs H Q E h => ?_) (fun cdv A outer s H vs Q E hr h => ?_)
  · obtain ⟨h, c, n, rfl, _⟩ := h
    rfl
  · obtain ⟨h, c, n, rfl, hA, n0, n1, k⟩ := h
    refine ⟨_, (pss_one (ps_ret (pe_lc (own := [("_law_house", 2)]) (g := (gName 2)) (tt := tYes) rfl sc_law_tree_roads.nd (pi_range2 (by rfl) T.n_range (pa_cons pe_int (pa_cons (pv 0) pa_nil))) (blkOk_by (own := [("_law_house", 2)]) (N := ["_law_houses", "_law_pool_here", "_law_house"]) (sc := defScope s_law_tree_roads) (by decide +kernel)) (fun _ _ _ _ _ => (pg_name (i := 2) sc_law_tree_roads.nd rfl (Or.inl rfl))) (fun _ _ _ _ _ => pts_nil) (fun _ _ _ _ _ => (by exact (pe_tup (pa_cons (pv 2) (pa_cons (pe_call (ok__law_draw T) (hr.mono (by decide)) rfl T._law_draw.g T._law_draw.F.kp T._law_draw.b .nil pass0 (pa_cons (pv 1) (pa_cons (pv 2) pa_nil))) pa_nil)))))))), ?_⟩
    refine ⟨_, rfl, 1, n, rfl, by omega, fun F hF => ?_⟩
    obtain ⟨f1, f2⟩ := hA.ne hF
    refine lc_range (lo := 1) (n := (n - 1).toNat) (fun i H' => ∃ (xs : List V) (ps : List (Int × Int)), PoolAt H' h c ∧ Bt h c H H' ∧ H' F = some (.lst xs) ∧ PrA H' xs ps ∧ (∀ p ∈ ps, Good n p) ∧ ps.length = i)
      ⟨[], [], hA.upd f1 f2, (Bt.refl h c H).upd hF, upd_same, .nil, fun _ z => (nomatch z), rfl⟩ ?_ ?_
    · rintro i H1 hi ⟨xs, ps, p1, b1, e1, r1, g1, l1⟩
      refine ⟨rfl, tyes ⟨_, rfl, _, rfl, _, rfl, h, c, 1 + (i : Int), rfl, p1, by omega, by omega, fun y H3 y0 y1 p3 b3 => ⟨by show 2 ≤ sizeLine; decide, fun q hq => ?_⟩⟩⟩
      have e3 := b3 _ _ e1 f1 f2
      have r3 := r1.nl (b3.nl p1)
      have l3 := r3.len
      have gd : Good n (1 + (i : Int), y) := ⟨by show 0 ≤ 1 + (i : Int); omega, by show 1 + (i : Int) < n; omega, y0, by show y < n; omega, by show 1 + (i : Int) ≠ y; omega⟩
      have s4 : Same H3 (upd H3 q (.tup [.int (1 + (i : Int)), .int y])) := same_upd hq
      have e4 := s4 _ _ e3
      refine ⟨xs, e4, line_lt (by omega), xs ++ [.ref q], ps ++ [(1 + (i : Int), y)], (p3.same s4).upd f1 f2, ((b1.trans b3).trans (Bt.of s4)).upd hF, upd_same, ?_, good_app g1 (good_one gd), by rw [List.length_append, l1]; rfl⟩
      exact ((r3.nl (NL.of s4)).app (.cons ⟨q, rfl, upd_same⟩ .nil)).nl (NL.upd e4)
    · rintro H1 ⟨xs, ps, p1, b1, e1, r1, g1, l1⟩
      exact k F H1 p1 b1 ⟨hF, xs, ps, e1, r1, g1, l1⟩
def spRing : Sp := fun vs H Q _ => ∃ (n : Int), vs = [.int n] ∧ 2 ≤ n ∧ n ≤ 1000 ∧ ∀ F H', Same H H' → NewRoads H H' F n n.toNat → Q (.ref F) H'
theorem ok__law_ring_roads (T : Tx K mg) : FnOk P w K mg base CX0 1 T._law_ring_roads.f T._law_ring_roads.fd ["_law_houses"] spRing := by
  refine T._law_ring_roads.F.ok sc_law_ring_roads (fun vs H Q E h => ?_) (fun cdv A outer s H vs Q E hr h => ?_)
  · obtain ⟨n, rfl, _⟩ := h
    rfl
  · obtain ⟨n, rfl, n0, n1, k⟩ := h
    refine ⟨_, (pss_one (ps_ret (pe_lc (own := [("_law_house", 1)]) (g := (gName 1)) (tt := tYes) rfl sc_law_ring_roads.nd (pi_range1 (by rfl) T.n_range (pa_cons (pv 0) pa_nil)) (blkOk_by (own := [("_law_house", 1)]) (N := ["_law_houses", "_law_house"]) (sc := defScope s_law_ring_roads) (by decide +kernel)) (fun _ _ _ _ _ => (pg_name (i := 1) sc_law_ring_roads.nd rfl (Or.inl rfl))) (fun _ _ _ _ _ => pts_nil) (fun _ _ _ _ _ => (by exact (pe_tup (pa_cons (pv 1) (pa_cons (pe_op op_modN (pe_callTy call_int1 (by rfl) T.n_int (by decide +kernel) (pa_cons (pe_op op_add (pv 1) pe_int) pa_nil)) (pv 0)) pa_nil)))))))), ?_⟩
    refine ⟨_, rfl, n, rfl, by omega, by omega, fun F hF => ?_⟩
    refine lc_range (lo := 0) (n := n.toNat) (fun i H' => ∃ (xs : List V) (ps : List (Int × Int)), Same H H' ∧ H' F = some (.lst xs) ∧ PrA H' xs ps ∧ (∀ p ∈ ps, Good n p) ∧ ps.length = i)
      ⟨[], [], same_upd hF, upd_same, .nil, fun _ z => (nomatch z), rfl⟩ ?_ ?_
    · rintro i H3 hi ⟨xs, ps, s1, e3, r3, g1, l1⟩
      obtain ⟨f0, f1⟩ := mod_range (0 + (i : Int) + 1) (m := n) (by omega)
      refine ⟨rfl, tyes ⟨_, rfl, _, rfl, _, _, rfl, rfl, .inl ⟨_, rfl, _, rfl, _, _, rfl, rfl, by omega, by show 2 ≤ sizeLine; decide, fun q hq => ?_⟩⟩⟩
      have l3 := r3.len
      have ne := ring_ne (b := 0 + (i : Int)) (x := 0) (n := n) (by omega) (by omega) (by omega) (by omega)
      rw [Int.add_zero] at ne
      have gd : Good n (0 + (i : Int), (0 + (i : Int) + 1).fmod n) := ⟨by show 0 ≤ 0 + (i : Int); omega, by show 0 + (i : Int) < n; omega, f0, f1, ne⟩
      have s4 : Same H3 (upd H3 q (.tup [.int (0 + (i : Int)), .int ((0 + (i : Int) + 1).fmod n)])) := same_upd hq
      have e4 := s4 _ _ e3
      refine ⟨xs, e4, line_lt (by omega), xs ++ [.ref q], ps ++ [(0 + (i : Int), (0 + (i : Int) + 1).fmod n)], fun b o z => ?_, upd_same, ?_, good_app g1 (good_one gd), by rw [List.length_append, l1]; rfl⟩
      · rw [upd_ne (ne_of_none z hF)]
        exact s4 _ _ (s1 _ _ z)
      · exact ((r3.nl (NL.of s4)).app (.cons ⟨q, rfl, upd_same⟩ .nil)).nl (NL.upd e4)
    · rintro H1 ⟨xs, ps, s1, e1, r1, g1, l1⟩
      exact k F H1 s1 ⟨hF, xs, ps, e1, r1, g1, l1⟩
end
end Hc

set_option Elab.async false
set_option linter.all false
set_option maxRecDepth 100000
set_option maxHeartbeats 1000000
set_option autoImplicit false
namespace Hc
open PySem L2
theorem cut_take {xs : List V} {k : Int} (h : 0 ≤ k) : cutV xs none (some k) = xs.take k.toNat := by
  have s1 : HT.sIx xs.length 0 none = 0 := rfl
  have s2 : HT.sIx xs.length xs.length (some k) = min k.toNat xs.length := by
    show (if k < 0 then (k + (xs.length : Int)).toNat else min k.toNat xs.length) = _
    rw [if_neg (by omega)]
  unfold cutV
  rw [s1, s2, List.drop_zero, Nat.sub_zero]
  by_cases q : k.toNat ≤ xs.length
  · rw [Nat.min_eq_left q]
  · rw [Nat.min_eq_right (by omega), List.take_of_length_le (Nat.le_refl _), List.take_of_length_le (by omega)]
theorem noL_int : ∀ ns : List Int, noLs (ns.map D.int) = true
  | [] => rfl
  | n :: ns => by
    show (noL _ && noLs _) = true
    rw [noL_int ns]; rfl
theorem noL_pr : ∀ ps : List (Int × Int), noLs (ps.map prD) = true
  | [] => rfl
  | n :: ns => by
    show (noL _ && noLs _) = true
    rw [noL_pr ns]; rfl
theorem btw_ints {m lo hi : Int} {ns : List Int} (hl : (ns.length : Int) = m) (hn : ∀ x ∈ ns, lo ≤ x ∧ x ≤ hi) : areBtw m lo hi (.tup (ns.map D.int)) = true := by
  rw [areBtw_tup, List.length_map, decide_eq_true hl, Bool.true_and, List.all_eq_true]
  intro d hd
  obtain ⟨x, hx, rfl⟩ := List.mem_map.mp hd
  exact btw_of (hn x hx).1 (hn x hx).2
/-- a drawn web's parts at v -/
structure WebP (H : Hp) (v : V) (n : Int) (ps : List (Int × Int)) (rm tm : List Int) : Prop where
  r : Rp H 0 v (.tup [.int n, .tup (ps.map prD), .tup (rm.map D.int), .tup (tm.map D.int)])
  n0 : 2 ≤ n
  n1 : n ≤ 12
  l0 : 1 ≤ ps.length
  l1 : ps.length ≤ 24
  g : ∀ p ∈ ps, Good n p
  a : areBtw ps.length 1 3 (.tup (rm.map D.int)) = true
  b : areBtw ps.length 1 3 (.tup (tm.map D.int)) = true
theorem WebP.nl {H H' : Hp} {v : V} {n : Int} {ps : List (Int × Int)} {rm tm : List Int} (x : WebP H v n ps rm tm) (k : NL H H') : WebP H' v n ps rm tm :=
  ⟨x.r.nl k (by simp only [noL, noLs, noL_pr, noL_int, Bool.and_true]), x.n0, x.n1, x.l0, x.l1, x.g, x.a, x.b⟩
theorem NewRoads.ne {H H' : Hp} {F : Addr} {n : Int} {m : Nat} (N : NewRoads H H' F n m) {h c : Addr} (p : PoolAt H h c) : F ≠ h ∧ F ≠ c := p.ne N.fr
/-- between the ifs -/
def WInv (h c : Addr) (n kd : Int) (H : Hp) : St → Hp → Prop := fun σ' H' => ∃ (F : Addr) (xs : List V) (ps : List (Int × Int)) (tv : Option V), σ' = [some (.ref h), some (.int 9), some (.int kd), some (.int n), some (.ref F), tv, none, none, none, none, none, none] ∧
  PoolAt H' h c ∧ Bt h c H H' ∧ F ≠ h ∧ F ≠ c ∧ H' F = some (.lst xs) ∧ PrA H' xs ps ∧ (∀ p ∈ ps, Good n p) ∧ 1 ≤ ps.length ∧ ps.length ≤ 10
/-- [1 + draw(3) * plain for road in roads] -/
theorem lc_cnt {K : PySem.W.Frag} {H0 : Hp} {h c F D1 : Addr} {xs : List V} {m : Nat} {te : TE} {σ : St} {vs : List Nat} {j : Nat} {Qd : Hp → Prop}
    (p0 : PoolAt H0 h c) (e0 : H0 F = some (.lst xs)) (f1 : F ≠ h) (f2 : F ≠ c) (hm : xs.length = m) (hz : m ≤ 1000) (hD : H0 D1 = none)
    (hw : ∀ x, wipe ((wipe σ vs).set j (some x)) vs = wipe σ vs)
    (he : ∀ v H' (Q : VK), PoolAt H' h c → (∀ z H'', 1 ≤ z → z ≤ 3 → PoolAt H'' h c → Bt h c H' H'' → Q (.int z) H'') → te ((wipe σ vs).set j (some v)) H' Q)
    (hd : ∀ H' (ns : List Int), PoolAt H' h c → Bt h c H0 H' → H' D1 = some (.lst (ns.map V.int)) → ns.length = m → (∀ x ∈ ns, (1 : Int) ≤ x ∧ x ≤ 3) → Qd H') :
    ∃ W : Nat → Nat → Hp → Prop, (∃ m, W 0 m (upd H0 D1 (.lst []))) ∧ ∀ i m H, W i m H →
      ((Itl K F).stop i H ∧ Qd H) ∨ ((Itl K F).go i H ∧ ∃ Nx : Hp → Prop, (∀ H', Nx H' → ∃ m', m' < m ∧ W (i + 1) m' H') ∧ ∀ x H', (Itl K F).yld i H x H' → (gName j) x (wipe σ vs) H' fun σ2 H2 => wipe σ2 vs = wipe σ vs ∧ tYes σ2 H2 fun b H3 =>
        if b = true then te σ2 H3 fun y H4 => ∃ acc, H4 D1 = some (.lst acc) ∧ acc.length < sizeLine ∧ Nx (upd H4 D1 (.lst (acc ++ [y]))) else Nx H3) := by
  obtain ⟨d1, d2⟩ := p0.ne hD
  refine lc_list (K := K) (a := F) (xs := xs) (fun i H' => ∃ ns : List Int, ns.length = i ∧ (∀ x ∈ ns, (1 : Int) ≤ x ∧ x ≤ 3) ∧ H' D1 = some (.lst (ns.map V.int)) ∧ PoolAt H' h c ∧ Bt h c H0 H')
    ⟨[], rfl, fun _ z => (nomatch z), upd_same, p0.upd d1 d2, (Bt.refl h c H0).upd hD⟩ (fun i H' _ ⟨_, _, _, _, _, b⟩ => SqL.of (b _ _ e0 f1 f2)) ?_ ?_
  · rintro i x H' hx ⟨ns, hl, hn, hd, p', b'⟩
    have hi : i < xs.length := (List.getElem?_eq_some_iff.mp hx).1
    refine ⟨hw x, tyes (he x H' _ p' fun z H3 z0 z1 p3 b3 => ⟨_, b3 _ _ hd d1 d2, ?_, ns ++ [z], ?_, ?_, ?_, p3.upd d1 d2, (b'.trans b3).upd hD⟩)⟩
    · rw [List.length_map]; exact line_lt (by omega)
    · rw [List.length_append, hl]; rfl
    · intro y hy
      rcases List.mem_append.mp hy with q | q
      · exact hn y q
      · rw [List.mem_singleton] at q; subst q; exact ⟨z0, z1⟩
    · rw [upd_same, List.map_append]; rfl
  · rintro H' ⟨ns, hl, hn, hd', p', b'⟩
    exact hd H' ns p' b' hd' (hl.trans hm) hn
theorem plain_range {y p : Int} (y0 : 0 ≤ y) (y1 : y < 3) (p0 : 0 ≤ p) (p1 : p < 2) : 1 ≤ 1 + y * p ∧ 1 + y * p ≤ 3 := by
  have : p = 0 ∨ p = 1 := by omega
  rcases this with rfl | rfl
  · rw [Int.mul_zero]; omega
  · rw [Int.mul_one]; omega
section
variable {P : Program} {w : World} {K : PySem.W.Frag} {mg : Str → Option Value} {base : Heap}
def spWebD : Sp := fun vs H Q _ => ∃ (h c : Addr), vs = [.ref h, .int 9] ∧ PoolAt H h c ∧ ∀ v n ps rm tm H', PoolAt H' h c → Bt h c H H' → WebP H' v n ps rm tm → Q v H'
theorem ok__law_web (T : Tx K mg) : FnOk P w K mg base CX0 3 T._law_web.f T._law_web.fd ["_law_pool_here", "_law_most"] spWebD := by
  refine T._law_web.F.ok sc_law_web (fun vs H Q E h => ?_) (fun cdv A outer s H vs Q E hr h => ?_)
  · obtain ⟨h, c, rfl, _⟩ := h
    rfl
  · obtain ⟨h, c, rfl, hA, k⟩ := h
    refine ⟨_, (pss_cons (ps_set (i := 2) sc_law_web.nd rfl (Or.inl rfl) (pe_call (ok__law_draw T) (hr.mono (by decide)) rfl T._law_draw.g T._law_draw.F.kp T._law_draw.b .nil pass0 (pa_cons (pv 0) (pa_cons pe_int pa_nil))))
      (pss_cons (ps_set (i := 3) sc_law_web.nd rfl (Or.inl rfl) (pe_op op_add pe_int (pe_call (ok__law_draw T) (hr.mono (by decide)) rfl T._law_draw.g T._law_draw.F.kp T._law_draw.b .nil pass0 (pa_cons (pv 0) (pa_cons pe_int pa_nil)))))
      (pss_cons (ps_set (i := 4) sc_law_web.nd rfl (Or.inl rfl) (pe_call (ok__law_free_roads T) (hr.mono (by decide)) rfl T._law_free_roads.g T._law_free_roads.F.kp T._law_free_roads.b .nil pass0 (pa_cons (pv 0) (pa_cons (pv 3) (pa_cons (pe_op op_add pe_int (pe_call (ok__law_draw T) (hr.mono (by decide)) rfl T._law_draw.g T._law_draw.F.kp T._law_draw.b .nil pass0 (pa_cons (pv 0) (pa_cons (pv 1) pa_nil)))) pa_nil)))))
      (C8.pss_cut (ps_if (pt_cmpR op_eq (pv 2) pe_int (nomark _))
      (pss_one (ps_set (i := 4) sc_law_web.nd rfl (Or.inl rfl) (pe_slice sl_list (pe_call (ok__law_ring_roads T) (hr.mono (by decide)) rfl T._law_ring_roads.g T._law_ring_roads.F.kp T._law_ring_roads.b .nil pass0 (pa_cons (pv 3) pa_nil)) po_none (po_some (pe_op op_sub (pv 3) (pe_call (ok__law_draw T) (hr.mono (by decide)) rfl T._law_draw.g T._law_draw.F.kp T._law_draw.b .nil pass0 (pa_cons (pv 0) (pa_cons pe_int pa_nil))))))))
      pss_nil)
      (C8.pss_cut (ps_if (pt_cmpR op_eq (pv 2) pe_int (nomark _))
      (pss_one (ps_set (i := 4) sc_law_web.nd rfl (Or.inl rfl) (pe_call (ok__law_tree_roads T) (hr.mono (by decide)) rfl T._law_tree_roads.g T._law_tree_roads.F.kp T._law_tree_roads.b .nil pass0 (pa_cons (pv 3) (pa_cons (pv 0) pa_nil)))))
      pss_nil)
      (C8.pss_cut (ps_if (pt_cmpR op_eq (pv 2) pe_int (nomark _))
      (pss_cons (ps_set (i := 5) sc_law_web.nd rfl (Or.inl rfl) (pe_slice sl_list (pe_call (ok__law_tree_roads T) (hr.mono (by decide)) rfl T._law_tree_roads.g T._law_tree_roads.F.kp T._law_tree_roads.b .nil pass0 (pa_cons (pv 3) (pa_cons (pv 0) pa_nil))) po_none (po_some (pe_op op_add (pe_op op_fdivN (pv 1) pe_int) pe_int))))
      (pss_one (ps_set (i := 4) sc_law_web.nd rfl (Or.inl rfl) (pe_op op_cat (pv 5) (pe_lc (own := [("_law_begin", 9), ("_law_end", 10)]) (g := (gTup K 2 (gCons (gName 9) (gCons (gName 10) gNil)))) (tt := tYes) rfl sc_law_web.nd (pi_list (pv 5)) (blkOk_by (own := [("_law_begin", 9), ("_law_end", 10)]) (N := ["_law_pool_here", "_law_most", "_law_kind_here", "_law_houses", "_law_roads", "_law_ties", "_law_plain", "_law_rooms", "_law_times", "_law_begin", "_law_end", "_law_road"]) (sc := defScope s_law_web) (by decide +kernel)) (fun _ _ _ _ _ => (pg_tup (by rfl) (pgs_cons (pg_name (i := 9) sc_law_web.nd rfl (Or.inl rfl)) (pgs_cons (pg_name (i := 10) sc_law_web.nd rfl (Or.inl rfl)) pgs_nil)))) (fun _ _ _ _ _ => pts_nil) (fun _ _ _ _ _ => (by exact (pe_tup (pa_cons (pv 10) (pa_cons (pv 9) pa_nil))))))))))
      pss_nil)
      (C8.pss_cut (ps_if (pt_cmpR op_eq (pv 2) pe_int (nomark _))
      (pss_one (ps_set (i := 4) sc_law_web.nd rfl (Or.inl rfl) (pe_op op_cat (pe_call (ok__law_ring_roads T) (hr.mono (by decide)) rfl T._law_ring_roads.g T._law_ring_roads.F.kp T._law_ring_roads.b .nil pass0 (pa_cons (pv 3) pa_nil)) (pe_slice sl_list (pv 4) po_none (po_some pe_int)))))
      pss_nil)
      (pss_cons (ps_set (i := 6) sc_law_web.nd rfl (Or.inr rfl) (pe_call (ok__law_draw T) (hr.mono (by decide)) rfl T._law_draw.g T._law_draw.F.kp T._law_draw.b .nil pass0 (pa_cons (pv 0) (pa_cons pe_int pa_nil))))
      (pss_cons (ps_set (i := 7) sc_law_web.nd rfl (Or.inl rfl) (pe_callTy call_tuple_of (by rfl) T.n_tuple (by decide +kernel) (pa_cons (pe_lc (own := [("_law_road", 11)]) (g := (gName 11)) (tt := tYes) rfl sc_law_web.nd (pi_list (pv 4)) (blkOk_by (own := [("_law_road", 11)]) (N := ["_law_pool_here", "_law_most", "_law_kind_here", "_law_houses", "_law_roads", "_law_ties", "_law_plain", "_law_rooms", "_law_times", "_law_begin", "_law_end", "_law_road"]) (sc := defScope s_law_web) (by decide +kernel)) (fun _ _ _ _ _ => (pg_name (i := 11) sc_law_web.nd rfl (Or.inl rfl))) (fun _ _ _ _ _ => pts_nil) (fun _ _ _ _ _ => (by exact (pe_op op_add pe_int (pe_op op_mul (pe_call (ok__law_draw T) (hr.mono (by decide)) rfl T._law_draw.g T._law_draw.F.kp T._law_draw.b .nil pass0 (pa_cons (pv 0) (pa_cons pe_int pa_nil))) (pv 6)))))) pa_nil)))
      (pss_cons (ps_set (i := 8) sc_law_web.nd rfl (Or.inl rfl) (pe_callTy call_tuple_of (by rfl) T.n_tuple (by decide +kernel) (pa_cons (pe_lc (own := [("_law_road", 11)]) (g := (gName 11)) (tt := tYes) rfl sc_law_web.nd (pi_list (pv 4)) (blkOk_by (own := [("_law_road", 11)]) (N := ["_law_pool_here", "_law_most", "_law_kind_here", "_law_houses", "_law_roads", "_law_ties", "_law_plain", "_law_rooms", "_law_times", "_law_begin", "_law_end", "_law_road"]) (sc := defScope s_law_web) (by decide +kernel)) (fun _ _ _ _ _ => (pg_name (i := 11) sc_law_web.nd rfl (Or.inl rfl))) (fun _ _ _ _ _ => pts_nil) (fun _ _ _ _ _ => (by exact (pe_op op_add pe_int (pe_op op_mul (pe_call (ok__law_draw T) (hr.mono (by decide)) rfl T._law_draw.g T._law_draw.F.kp T._law_draw.b .nil pass0 (pa_cons (pv 0) (pa_cons pe_int pa_nil))) (pv 6)))))) pa_nil)))
      (pss_one (ps_ret (pe_tup (pa_cons (pv 3) (pa_cons (pe_callTy call_tuple_of (by rfl) T.n_tuple (by decide +kernel) (pa_cons (pv 4) pa_nil)) (pa_cons (pv 7) (pa_cons (pv 8) pa_nil))))))))))))))))), ?_⟩
    refine ⟨_, rfl, h, c, 6, rfl, hA, by decide, by decide, fun kd H1 _ _ p1 b1 => ?_⟩
    refine ⟨_, rfl, h, c, 5, rfl, p1, by decide, by decide, fun x H2 x0 x1 p2 b2 => ⟨_, _, rfl, rfl, ?_⟩⟩
    refine ⟨_, rfl, _, rfl, _, rfl, _, rfl, h, c, 9, rfl, p2, by decide, by decide, fun y H3 y0 y1 p3 b3 => ⟨_, _, rfl, rfl, h, c, 2 + x, 1 + y, rfl, p3, by omega, by omega, by omega, by omega, fun F H4 p4 b4 N4 => ?_⟩⟩
    have n0 : 2 ≤ 2 + x := by omega
    have n1 : 2 + x ≤ 6 := by omega
    have start : WInv h c (2 + x) kd H [some (.ref h), some (.int 9), some (.int kd), some (.int (2 + x)), some (.ref F), none, none, none, none, none, none, none] H4 := by
      obtain ⟨f1, f2⟩ := N4.ne p3
      obtain ⟨xs, ps, e, r, g, l⟩ := N4.ex
      exact ⟨F, xs, ps, none, rfl, p4, ((b1.trans b2).trans b3).trans b4, f1, f2, e, r, g, by omega, by omega⟩
    clear N4 p4 b4 p3 b3 p2 b2 p1 b1 hA
    refine ⟨WInv h c (2 + x) kd H, ?_, ?_⟩
    · obtain ⟨_, _, _, _, e0, p1, b1, f1, f2, e1, r1, g1, l1, l2⟩ := id start
      refine ⟨_, rfl, rfl, _, rfl, ite2 (fun _ => ?_) (fun _ => start)⟩
      refine ⟨_, rfl, 2 + x, rfl, n0, by omega, fun F5 H5 s5 N5 => ⟨_, rfl, _, rfl, h, c, 2, rfl, p1.same s5, by decide, by decide, fun d H6 d0 d1 p6 b6 => ⟨_, _, rfl, rfl, ?_⟩⟩⟩
      obtain ⟨f3, f4⟩ := N5.ne p1
      obtain ⟨ys, qs, e, r, g, l⟩ := N5.ex
      have e6 := b6 _ _ e f3 f4
      have r6 := r.nl (b6.nl (p1.same s5))
      refine ⟨_, rfl, F5, ys, rfl, SqL.of e6, fun q hq => ?_⟩
      obtain ⟨f5, f6⟩ := p6.ne hq
      rw [cut_take (by omega)]
      refine ⟨q, _, qs.take (2 + x - d).toNat, _, rfl, p6.upd f5 f6, (b1.trans ((Bt.of s5).trans b6)).trans (Bt.of (same_upd hq)), f5, f6, upd_same, (r6.take _).nl (NL.of (same_upd hq)), fun p hp => g p (List.mem_of_mem_take hp), ?_, ?_⟩
      · rw [List.length_take]; omega
      · rw [List.length_take]; omega
    clear start F H4
    rintro σ1 H4 ⟨F, xs, ps, tv, rfl, p4, b4, f1, f2, e4, r4, g4, l4, m4⟩
    refine ⟨WInv h c (2 + x) kd H, ?_, ?_⟩
    · refine ⟨_, rfl, rfl, _, rfl, ite2 (fun _ => ?_) (fun _ => ⟨F, xs, ps, tv, rfl, p4, b4, f1, f2, e4, r4, g4, l4, m4⟩)⟩
      refine ⟨_, rfl, _, rfl, h, c, 2 + x, rfl, p4, n0, by omega, fun F5 H5 p5 b5 N5 => ?_⟩
      obtain ⟨f3, f4⟩ := N5.ne p4
      obtain ⟨ys, qs, e, r, g, l⟩ := N5.ex
      exact ⟨F5, ys, qs, _, rfl, p5, b4.trans b5, f3, f4, e, r, g, by omega, by omega⟩
    clear e4 r4 g4 l4 m4 f1 f2 p4 b4
    clear F xs ps tv H4
    rintro σ1 H4 ⟨F, xs, ps, tv, rfl, p4, b4, f1, f2, e4, r4, g4, l4, m4⟩
    refine ⟨WInv h c (2 + x) kd H, ?_, ?_⟩
    · refine ⟨_, rfl, rfl, _, rfl, ite2 (fun _ => ?_) (fun _ => ⟨F, xs, ps, tv, rfl, p4, b4, f1, f2, e4, r4, g4, l4, m4⟩)⟩
      refine ⟨_, rfl, _, rfl, h, c, 2 + x, rfl, p4, n0, by omega, fun F5 H5 p5 b5 N5 => ⟨_, rfl, _, _, rfl, rfl, ⟨by decide, by decide⟩, _, _, rfl, rfl, ?_⟩⟩
      obtain ⟨f3, f4⟩ := N5.ne p4
      obtain ⟨ys, qs, e, r, g, l⟩ := N5.ex
      refine ⟨_, rfl, F5, ys, rfl, SqL.of e, fun q hq => ?_⟩
      rw [cut_take (by decide)]
      obtain ⟨f5, f6⟩ := p5.ne hq
      have s6 : Same H5 (upd H5 q (.lst (ys.take (Int.fdiv 9 2 + 1).toNat))) := same_upd hq
      have r6 := (r.take (Int.fdiv 9 2 + 1).toNat).nl (NL.of s6)
      have t5 : (Int.fdiv 9 2 + 1).toNat = 5 := by decide
      rw [t5] at s6 r6 ⊢
      have g6 : ∀ p ∈ qs.take 5, Good (2 + x) p := fun p hp => g p (List.mem_of_mem_take hp)
      have l6 : (qs.take 5).length ≤ 5 := by rw [List.length_take]; omega
      have l7 : 1 ≤ (qs.take 5).length := by rw [List.length_take]; omega
      refine ⟨_, rfl, _, rfl, q, rfl, ⟨_, SqL.of upd_same⟩, fun D1 hD1 => ?_⟩
      refine lc_list (K := K) (a := q) (xs := ys.take 5) (fun i H' => ∃ (zs : List V) (us : List (Int × Int)), Same (upd H5 q (.lst (ys.take 5))) H' ∧ H' D1 = some (.lst zs) ∧ PrA H' zs us ∧ (∀ p ∈ us, Good (2 + x) p) ∧ us.length = i)
        ⟨[], [], same_upd hD1, upd_same, .nil, fun _ z => (nomatch z), rfl⟩ (fun i H' _ ⟨_, _, s, _⟩ => SqL.of (s _ _ upd_same)) ?_ ?_
      · rintro i v H' hv ⟨zs, us, s, e8, r8, g8, l8⟩
        obtain ⟨pp, hp1, qq, rfl, eq⟩ := r6.get hv
        have gp := g6 pp (List.mem_of_getElem? hp1)
        have hi : i < (qs.take 5).length := (List.getElem?_eq_some_iff.mp hp1).1
        have lz := r8.len
        refine ⟨qq, _, rfl, SqT.of (s _ _ eq), rfl, _, _, rfl, _, _, rfl, rfl, rfl, tyes ⟨_, rfl, _, rfl, by show 2 ≤ sizeLine; decide, fun u hu => ?_⟩⟩
        have s9 : Same H' (upd H' u (.tup [.int pp.2, .int pp.1])) := same_upd hu
        have e9 := s9 _ _ e8
        refine ⟨zs, e9, line_lt (by omega), zs ++ [.ref u], us ++ [(pp.2, pp.1)], fun b o z => ?_, upd_same, ?_, good_app g8 (good_one ⟨gp.2.2.1, gp.2.2.2.1, gp.1, gp.2.1, fun z => gp.2.2.2.2 z.symm⟩), by rw [List.length_append, l8]; rfl⟩
        · rw [upd_ne (ne_of_none z hD1)]
          exact s9 _ _ (s _ _ z)
        · exact ((r8.nl (NL.of s9)).app (.cons ⟨u, rfl, upd_same⟩ .nil)).nl (NL.upd e9)
      · rintro H' ⟨zs, us, s, e8, r8, g8, l8⟩
        have lt := r6.len
        have lz := r8.len
        refine ⟨q, D1, ys.take 5, zs, rfl, rfl, s _ _ upd_same, e8, line_le (by omega), fun u hu => ?_⟩
        have p8 : PoolAt H' h c := (p5.same s6).same s
        obtain ⟨f7, f8⟩ := p8.ne hu
        have s9 : Same H' (upd H' u (.lst (ys.take 5 ++ zs))) := same_upd hu
        refine ⟨u, _, qs.take 5 ++ us, _, rfl, p8.upd f7 f8, (b4.trans b5).trans (Bt.of ((s6.trans s).trans s9)), f7, f8, upd_same, (((r6.nl (NL.of s)).app r8)).nl (NL.of s9), good_app g6 g8, ?_, ?_⟩
        · rw [List.length_append]; omega
        · rw [List.length_append]; omega
    clear e4 r4 g4 l4 m4 f1 f2 p4 b4
    clear F xs ps tv H4
    rintro σ1 H4 ⟨F, xs, ps, tv, rfl, p4, b4, f1, f2, e4, r4, g4, l4, m4⟩
    refine ⟨WInv h c (2 + x) kd H, ?_, ?_⟩
    · refine ⟨_, rfl, rfl, _, rfl, ite2 (fun _ => ?_) (fun _ => ⟨F, xs, ps, tv, rfl, p4, b4, f1, f2, e4, r4, g4, l4, m4⟩)⟩
      refine ⟨_, rfl, 2 + x, rfl, n0, by omega, fun F5 H5 s5 N5 => ?_⟩
      obtain ⟨ys, qs, e, r, g, l⟩ := N5.ex
      refine ⟨_, rfl, _, rfl, F, xs, rfl, SqL.of (s5 _ _ e4), fun q hq => ?_⟩
      rw [cut_take (by decide)]
      have s6 : Same H5 (upd H5 q (.lst (xs.take (2 : Int).toNat))) := same_upd hq
      have r6 := ((r4.nl (NL.of s5)).take (2 : Int).toNat).nl (NL.of s6)
      have l6 : (ps.take (2 : Int).toNat).length ≤ 2 := by rw [List.length_take]; show min 2 _ ≤ 2; omega
      have lr := r6.len
      have ly := r.len
      refine ⟨F5, q, ys, _, rfl, rfl, s6 _ _ e, upd_same, line_le (by omega), fun u hu => ?_⟩
      have p8 : PoolAt (upd H5 q (.lst (xs.take (2 : Int).toNat))) h c := (p4.same s5).same s6
      obtain ⟨f7, f8⟩ := p8.ne hu
      have s9 := same_upd (o := .lst (ys ++ xs.take (2 : Int).toNat)) hu
      refine ⟨u, _, qs ++ ps.take (2 : Int).toNat, _, rfl, p8.upd f7 f8, b4.trans (Bt.of ((s5.trans s6).trans s9)), f7, f8, upd_same, ((r.nl (NL.of s6)).app r6).nl (NL.of s9), good_app g (fun p hp => g4 p (List.mem_of_mem_take hp)), ?_, ?_⟩
      · rw [List.length_append]; omega
      · rw [List.length_append]; omega
    clear e4 r4 g4 l4 m4 f1 f2 p4 b4
    clear F xs ps tv H4
    rintro σ1 H4 ⟨F, xs, ps, tv, rfl, p4, b4, f1, f2, e4, r4, g4, l4, m4⟩
    have lx := r4.len
    refine ⟨_, rfl, h, c, 2, rfl, p4, by decide, by decide, fun pl H5 q0 q1 p5 b5 => ?_⟩
    have e5 := b5 _ _ e4 f1 f2
    have r5 := r4.nl (b5.nl p4)
    refine ⟨_, rfl, F, rfl, ⟨_, SqL.of e5⟩, fun D1 hD1 => lc_cnt (m := ps.length) p5 e5 f1 f2 lx (by omega) hD1 (fun x => rfl) (fun v H' Q' p' kz => ?_) (fun H6 ms p6 b6 e6 lm hm => ?_)⟩
    · exact ⟨_, rfl, h, c, 3, rfl, p', by decide, by decide, fun y H3 y0 y1 p3 b3 => ⟨_, rfl, _, _, rfl, rfl, .inl ⟨by omega, by omega⟩, _, _, rfl, rfl, kz _ _ (plain_range y0 y1 q0 q1).1 (plain_range y0 y1 q0 q1).2 p3 b3⟩⟩
    refine ⟨_, _, rfl, .inl ⟨SqL.of e6, fun q hq => ?_⟩⟩
    have s7 : Same H6 (upd H6 q (.tup (ms.map V.int))) := same_upd hq
    have t7 : (upd H6 q (.tup (ms.map V.int))) q = some (.tup (ms.map V.int)) := upd_same
    generalize upd H6 q (.tup (ms.map V.int)) = H7 at s7 t7 ⊢
    have p7 := p6.same s7
    have e7 := s7 _ _ (b6 _ _ e5 f1 f2)
    have r7 := (r5.nl (b6.nl p5)).nl (NL.of s7)
    have rq : Rp H7 0 (.ref q) (.tup (ms.map D.int)) := .tup t7 (by rw [List.length_map]; omega) (RpA.ints ms)
    refine ⟨_, rfl, F, rfl, ⟨_, SqL.of e7⟩, fun D2 hD2 => lc_cnt (m := ps.length) p7 e7 f1 f2 lx (by omega) hD2 (fun x => rfl) (fun v H' Q' p' kz => ?_) (fun H8 us p8 b8 e8 lu hu => ?_)⟩
    · exact ⟨_, rfl, h, c, 3, rfl, p', by decide, by decide, fun y H3 y0 y1 p3 b3 => ⟨_, rfl, _, _, rfl, rfl, .inl ⟨by omega, by omega⟩, _, _, rfl, rfl, kz _ _ (plain_range y0 y1 q0 q1).1 (plain_range y0 y1 q0 q1).2 p3 b3⟩⟩
    refine ⟨_, _, rfl, .inl ⟨SqL.of e8, fun u hu2 => ?_⟩⟩
    have s9 : Same H8 (upd H8 u (.tup (us.map V.int))) := same_upd hu2
    have t9 : (upd H8 u (.tup (us.map V.int))) u = some (.tup (us.map V.int)) := upd_same
    generalize upd H8 u (.tup (us.map V.int)) = H9 at s9 t9 ⊢
    have p9 := p8.same s9
    have e9 := s9 _ _ (b8 _ _ e7 f1 f2)
    have r9 := (r7.nl (b8.nl p7)).nl (NL.of s9)
    have rq9 := (rq.nl (b8.nl p7) (noL_int ms)).nl (NL.of s9) (noL_int ms)
    have ru9 : Rp H9 0 (.ref u) (.tup (us.map D.int)) := .tup t9 (by rw [List.length_map]; omega) (RpA.ints us)
    refine ⟨_, rfl, _, rfl, F, xs, rfl, .inl ⟨SqL.of e9, fun t ht => ?_⟩⟩
    have s10 : Same H9 (upd H9 t (.tup xs)) := same_upd ht
    have t10 : (upd H9 t (.tup xs)) t = some (.tup xs) := upd_same
    generalize upd H9 t (.tup xs) = H10 at s10 t10 ⊢
    refine ⟨_, rfl, _, rfl, by show 4 ≤ sizeLine; decide, fun z hz => ?_⟩
    have s11 : Same H10 (upd H10 z (.tup [.int (2 + x), .ref t, .ref q, .ref u])) := same_upd hz
    have t11 : (upd H10 z (.tup [.int (2 + x), .ref t, .ref q, .ref u])) z = some (.tup [.int (2 + x), .ref t, .ref q, .ref u]) := upd_same
    generalize upd H10 z (.tup [.int (2 + x), .ref t, .ref q, .ref u]) = H11 at s11 t11 ⊢
    refine k (.ref z) (2 + x) ps ms us H11 ((p9.same s10).same s11) ?_ ⟨?_, n0, by omega, l4, by omega, g4, btw_ints (by omega) hm, btw_ints (by omega) hu⟩
    · exact b4.trans (b5.trans (b6.trans ((Bt.of s7).trans (b8.trans (Bt.of ((s9.trans s10).trans s11))))))
    · refine .tup t11 (by simp) (.cons (.int _) (.cons (.tup (s11 _ _ t10) (by omega) ?_) (.cons ((rq9.same s10).same s11) (.cons ((ru9.same s10).same s11) .nil))))
      exact (r9.nl (NL.of (s10.trans s11))).rp
theorem ok__law_great_web (T : Tx K mg) : FnOk P w K mg base CX0 3 T._law_great_web.f T._law_great_web.fd ["_law_pool_here"] (fun vs H Q E => ∃ h, vs = [.ref h] ∧ spWebD [.ref h, .int 9] H Q E) := by
  refine T._law_great_web.F.ok sc_law_great_web (fun vs H Q E h => ?_) (fun cdv A outer s H vs Q E hr h => ?_)
  · obtain ⟨h, rfl, _⟩ := h
    rfl
  · obtain ⟨h0, rfl, h, c, eh, hA, k⟩ := h
    obtain rfl : h0 = h := by injection (List.cons.inj eh).1
    refine ⟨_, (pss_cons (ps_set (i := 1) sc_law_great_web.nd rfl (Or.inl rfl) (pe_op op_add pe_int (pe_call (ok__law_draw T) (hr.mono (by decide)) rfl T._law_draw.g T._law_draw.F.kp T._law_draw.b .nil pass0 (pa_cons (pv 0) (pa_cons pe_int pa_nil)))))
      (pss_cons (ps_set (i := 2) sc_law_great_web.nd rfl (Or.inl rfl) (pe_call (ok__law_free_roads T) (hr.mono (by decide)) rfl T._law_free_roads.g T._law_free_roads.F.kp T._law_free_roads.b .nil pass0 (pa_cons (pv 0) (pa_cons (pv 1) (pa_cons (pe_op op_add pe_int (pe_call (ok__law_draw T) (hr.mono (by decide)) rfl T._law_draw.g T._law_draw.F.kp T._law_draw.b .nil pass0 (pa_cons (pv 0) (pa_cons pe_int pa_nil)))) pa_nil)))))
      (pss_cons (ps_set (i := 3) sc_law_great_web.nd rfl (Or.inl rfl) (pe_op op_repA (pe_tup (pa_cons pe_int pa_nil)) (pe_callB call_len_seq (by rfl) T.n_len (by decide +kernel) (pa_cons (pv 2) pa_nil))))
      (pss_one (ps_ret (pe_tup (pa_cons (pv 1) (pa_cons (pe_callTy call_tuple_of (by rfl) T.n_tuple (by decide +kernel) (pa_cons (pv 2) pa_nil)) (pa_cons (pv 3) (pa_cons (pv 3) pa_nil)))))))))), ?_⟩
    refine ⟨_, rfl, h0, c, 7, rfl, hA, by decide, by decide, fun x H1 x0 x1 p1 b1 => ⟨_, _, rfl, rfl, ?_⟩⟩
    refine ⟨_, rfl, _, rfl, _, rfl, h0, c, 16, rfl, p1, by decide, by decide, fun y H2 y0 y1 p2 b2 => ⟨_, _, rfl, rfl, h0, c, 6 + x, 9 + y, rfl, p2, by omega, by omega, by omega, by omega, fun F H3 p3 b3 N3 => ?_⟩⟩
    obtain ⟨f1, f2⟩ := N3.ne p2
    obtain ⟨xs, ps, e3, r3, g3, l3⟩ := N3.ex
    have lx := r3.len
    refine ⟨by show 1 ≤ sizeLine; decide, fun q hq => ?_⟩
    have s4 : Same H3 (upd H3 q (.tup [.int 1])) := same_upd hq
    have t4 : (upd H3 q (.tup [.int 1])) q = some (.tup [.int 1]) := upd_same
    generalize upd H3 q (.tup [.int 1]) = H4 at s4 t4 ⊢
    refine ⟨_, rfl, F, xs, rfl, .inl (SqL.of (s4 _ _ e3)), q, _, _, rfl, rfl, SqT.of t4, by simp, by omega, by omega, by simp, fun e => by omega, fun _ u hu => ?_⟩
    have ef : (List.replicate ((xs.length : Nat) : Int).toNat [V.int 1]).flatten = (List.replicate ps.length (1 : Int)).map V.int := by
      rw [show ((xs.length : Nat) : Int).toNat = ps.length by omega]
      generalize ps.length = m
      induction m with
      | zero => rfl
      | succ m ih => rw [List.replicate_succ, List.flatten_cons, ih, List.replicate_succ]; rfl
    rw [ef]
    have s5 : Same H4 (upd H4 u (.tup ((List.replicate ps.length (1 : Int)).map V.int))) := same_upd hu
    have t5 : (upd H4 u (.tup ((List.replicate ps.length (1 : Int)).map V.int))) u = some (.tup ((List.replicate ps.length (1 : Int)).map V.int)) := upd_same
    generalize upd H4 u (.tup ((List.replicate ps.length (1 : Int)).map V.int)) = H5 at s5 t5 ⊢
    have e5 := s5 _ _ (s4 _ _ e3)
    have ru : Rp H5 0 (.ref u) (.tup ((List.replicate ps.length (1 : Int)).map D.int)) := .tup t5 (by rw [List.length_map, List.length_replicate]; omega) (RpA.ints _)
    refine ⟨_, rfl, _, rfl, F, xs, rfl, .inl ⟨SqL.of e5, fun t ht => ?_⟩⟩
    have s10 : Same H5 (upd H5 t (.tup xs)) := same_upd ht
    have t10 : (upd H5 t (.tup xs)) t = some (.tup xs) := upd_same
    generalize upd H5 t (.tup xs) = H10 at s10 t10 ⊢
    refine ⟨_, rfl, _, rfl, by show 4 ≤ sizeLine; decide, fun z hz => ?_⟩
    have s11 : Same H10 (upd H10 z (.tup [.int (6 + x), .ref t, .ref u, .ref u])) := same_upd hz
    have t11 : (upd H10 z (.tup [.int (6 + x), .ref t, .ref u, .ref u])) z = some (.tup [.int (6 + x), .ref t, .ref u, .ref u]) := upd_same
    generalize upd H10 z (.tup [.int (6 + x), .ref t, .ref u, .ref u]) = H11 at s11 t11 ⊢
    have on : ∀ z ∈ List.replicate ps.length (1 : Int), (1 : Int) ≤ z ∧ z ≤ 3 := fun z hz => by rw [List.eq_of_mem_replicate hz]; omega
    refine k (.ref z) (6 + x) ps _ _ H11 ((((p3.same s4).same s5).same s10).same s11) ?_ ⟨?_, by omega, by omega, by omega, by omega, g3, btw_ints (by rw [List.length_replicate]) on, btw_ints (by rw [List.length_replicate]) on⟩
    · exact b1.trans (b2.trans (b3.trans (Bt.of (((s4.trans s5).trans s10).trans s11))))
    · refine .tup t11 (by simp) (.cons (.int _) (.cons (.tup (s11 _ _ t10) (by omega) ?_) (.cons ((ru.same s10).same s11) (.cons ((ru.same s10).same s11) .nil))))
      exact (r3.nl (NL.of (((s4.trans s5).trans s10).trans s11))).rp
end
end Hc

set_option Elab.async false
set_option linter.all false
set_option maxRecDepth 100000
set_option maxHeartbeats 1000000
set_option autoImplicit false
namespace Hc
open PySem L2
theorem PrA.of {H : Hp} {h : Addr} : ∀ {xs : List V} {ps : List (Int × Int)}, RpA H h xs (ps.map prD) → PrA H xs ps
  | _, [], .nil => .nil
  | _, p :: ps, .cons r q => by
    obtain ⟨a, ys, rfl, e, _, ra⟩ := tup_inv r
    cases ra with
    | cons r1 ra =>
      cases ra with
      | cons r2 ra =>
        cases ra
        cases r1
        cases r2
        exact .cons ⟨a, rfl, e⟩ (PrA.of q)
theorem WebP.inv {H : Hp} {v : V} {n : Int} {ps : List (Int × Int)} {rm tm : List Int} (x : WebP H v n ps rm tm) : ∃ p q x3 x4 xs, v = .ref p ∧ H p = some (.tup [.int n, .ref q, x3, x4]) ∧ H q = some (.tup xs) ∧ PrA H xs ps ∧ xs.length ≤ 100000 ∧
    Rp H 0 x3 (.tup (rm.map D.int)) ∧ Rp H 0 x4 (.tup (tm.map D.int)) := by
  obtain ⟨p, ys, rfl, e, _, ra⟩ := tup_inv x.r
  cases ra with
  | cons r1 ra =>
  cases ra with
  | cons r2 ra =>
  cases ra with
  | cons r3 ra =>
  cases ra with
  | cons r4 ra =>
  cases ra
  cases r1
  obtain ⟨q, xs, rfl, e2, z, r2'⟩ := tup_inv r2
  exact ⟨p, q, _, _, xs, rfl, e, e2, PrA.of r2', z, r3, r4⟩
/-- the roads as things -/
def rdsOf (ps : List (Int × Int)) : List D := ps.map prD
theorem rdsOf_len (ps : List (Int × Int)) : (rdsOf ps).length = ps.length := by unfold rdsOf; rw [List.length_map]
theorem rdsOf_at {ps : List (Int × Int)} {j : Nat} {p : Int × Int} (h : ps[j]? = some p) : (rdsOf ps).getD j .non = prD p := by
  unfold rdsOf
  rw [List.getD_eq_getElem?_getD, List.getElem?_map, h]; rfl
/-- the law's table of next roads: a list of lists, apart from the pool -/
structure NxL (H : Hp) (h c a : Addr) (A : List (List Nat)) : Prop where
  n1 : a ≠ h
  n2 : a ≠ c
  ex : ∃ xs, H a = some (.lst xs) ∧ xs.length = A.length ∧ ∀ i, i < A.length → ∃ b, xs[i]? = some (.ref b) ∧ H b = some (.lst ((A.getD i []).map fun j => V.int (j : Nat))) ∧ b ≠ h ∧ b ≠ c
theorem NxL.bt {H H' : Hp} {h c a : Addr} {A : List (List Nat)} (x : NxL H h c a A) (k : Bt h c H H') : NxL H' h c a A := by
  obtain ⟨n1, n2, xs, e, l, q⟩ := x
  exact ⟨n1, n2, xs, k _ _ e n1 n2, l, fun i hi => by
    obtain ⟨b, e1, e2, e3, e4⟩ := q i hi
    exact ⟨b, e1, k _ _ e2 e3 e4, e3, e4⟩⟩
theorem NxL.same {H H' : Hp} {h c a : Addr} {A : List (List Nat)} (x : NxL H h c a A) (k : Same H H') : NxL H' h c a A := x.bt (Bt.of k)
/-- [x for x in l if p(x)], l numbers -/
theorem lc_fl {K : PySem.W.Frag} {H0 : Hp} {b D : Addr} {ns : List Nat} {j : Nat} {te : TE} {tt : TT} {σ : St} {vs : List Nat} {Qd : Hp → Prop} (p : Nat → Bool)
    (eb : H0 b = some (.lst (ns.map fun j => V.int (j : Nat)))) (hz : ns.length ≤ 1000) (hD : H0 D = none)
    (hw : ∀ x, wipe ((wipe σ vs).set j (some x)) vs = wipe σ vs)
    (ht : ∀ r ∈ ns, ∀ H' (Q : Bool → Hp → Prop), Same H0 H' → Q (p r) H' → tt ((wipe σ vs).set j (some (.int (r : Nat)))) H' Q)
    (he : ∀ r ∈ ns, ∀ H' (Q : VK), Q (.int (r : Nat)) H' → te ((wipe σ vs).set j (some (.int (r : Nat)))) H' Q)
    (hd : ∀ H', Same H0 H' → H' D = some (.lst ((ns.filter p).map fun j => V.int (j : Nat))) → Qd H') :
    ∃ W : Nat → Nat → Hp → Prop, (∃ m, W 0 m (upd H0 D (.lst []))) ∧ ∀ i m H, W i m H →
      ((Itl K b).stop i H ∧ Qd H) ∨ ((Itl K b).go i H ∧ ∃ Nx : Hp → Prop, (∀ H', Nx H' → ∃ m', m' < m ∧ W (i + 1) m' H') ∧ ∀ x H', (Itl K b).yld i H x H' → (gName j) x (wipe σ vs) H' fun σ2 H2 => wipe σ2 vs = wipe σ vs ∧ tt σ2 H2 fun b H3 =>
        if b = true then te σ2 H3 fun y H4 => ∃ acc, H4 D = some (.lst acc) ∧ acc.length < sizeLine ∧ Nx (upd H4 D (.lst (acc ++ [y]))) else Nx H3) := by
  refine lc_list (K := K) (xs := ns.map fun j => V.int (j : Nat)) (fun i H' => Same H0 H' ∧ H' D = some (.lst (((ns.take i).filter p).map fun j => V.int (j : Nat))))
    ⟨same_upd hD, upd_same⟩ (fun i H' hi ⟨s, _⟩ => SqL.of (s _ _ eb)) ?_ ?_
  · intro i x H' hx ⟨s, hH⟩
    have hi : i < ns.length := by
      have := (List.getElem?_eq_some_iff.mp hx).1
      rwa [List.length_map] at this
    have ex : x = .int (ns[i] : Nat) := by
      rw [List.getElem?_map, List.getElem?_eq_getElem hi] at hx
      exact (Option.some.inj hx).symm
    subst ex
    have hm : ns[i] ∈ ns := List.getElem_mem hi
    have tk : ns.take (i + 1) = ns.take i ++ [ns[i]] := take_more (List.getElem?_eq_getElem hi)
    have hl2 : ((ns.take i).filter p).length ≤ 1000 := by
      refine Nat.le_trans (List.length_filter_le _ _) ?_
      rw [List.length_take]; omega
    refine ⟨hw _, ht _ hm H' _ s ?_⟩
    cases hp : p ns[i] with
    | true =>
      refine iteT (he _ hm H' _ ⟨_, hH, by rw [List.length_map]; exact line_lt (by omega), fun b o q => ?_, ?_⟩)
      · rw [upd_ne (ne_of_none q hD)]
        exact s _ _ q
      · have e1 : [ns[i]].filter p = [ns[i]] := by rw [List.filter_cons, if_pos hp]; rfl
        rw [upd_same, tk, List.filter_append, List.map_append, e1]; rfl
    | false =>
      have e1 : [ns[i]].filter p = [] := by rw [List.filter_cons, if_neg (by rw [hp]; decide)]; rfl
      refine iteF ⟨s, ?_⟩
      rw [tk, List.filter_append, e1, List.append_nil]
      exact hH
  · intro H' ⟨s, hH⟩
    rw [List.length_map, List.take_length] at hH
    exact hd H' s hH
/-- [x for x in range(n) if p(x)] -/
theorem lc_fr {H0 : Hp} {D : Addr} {n : Nat} {j : Nat} {te : TE} {tt : TT} {σ : St} {vs : List Nat} {Qd : Hp → Prop} (p : Nat → Bool) (hz : n ≤ 1000) (hD : H0 D = none)
    (hw : ∀ x, wipe ((wipe σ vs).set j (some x)) vs = wipe σ vs)
    (ht : ∀ r, r < n → ∀ H' (Q : Bool → Hp → Prop), Same H0 H' → Q (p r) H' → tt ((wipe σ vs).set j (some (.int (0 + (r : Int))))) H' Q)
    (he : ∀ r, r < n → ∀ H' (Q : VK), Q (.int (0 + (r : Int))) H' → te ((wipe σ vs).set j (some (.int (0 + (r : Int))))) H' Q)
    (hd : ∀ H', Same H0 H' → H' D = some (.lst (((List.range n).filter p).map fun j => V.int (j : Nat))) → Qd H') :
    ∃ W : Nat → Nat → Hp → Prop, (∃ m, W 0 m (upd H0 D (.lst []))) ∧ ∀ i m H, W i m H →
      ((Itr 0 n).stop i H ∧ Qd H) ∨ ((Itr 0 n).go i H ∧ ∃ Nx : Hp → Prop, (∀ H', Nx H' → ∃ m', m' < m ∧ W (i + 1) m' H') ∧ ∀ x H', (Itr 0 n).yld i H x H' → (gName j) x (wipe σ vs) H' fun σ2 H2 => wipe σ2 vs = wipe σ vs ∧ tt σ2 H2 fun b H3 =>
        if b = true then te σ2 H3 fun y H4 => ∃ acc, H4 D = some (.lst acc) ∧ acc.length < sizeLine ∧ Nx (upd H4 D (.lst (acc ++ [y]))) else Nx H3) := by
  refine lc_range (lo := 0) (n := n) (fun i H' => Same H0 H' ∧ H' D = some (.lst (((List.range i).filter p).map fun j => V.int (j : Nat))))
    ⟨same_upd hD, upd_same⟩ ?_ ?_
  · intro i H' hi ⟨s, hH⟩
    have hl2 : ((List.range i).filter p).length ≤ 1000 := by
      refine Nat.le_trans (List.length_filter_le _ _) ?_
      rw [List.length_range]; omega
    refine ⟨hw _, ht _ hi H' _ s ?_⟩
    cases hp : p i with
    | true =>
      refine iteT (he _ hi H' _ ⟨_, hH, by rw [List.length_map]; exact line_lt (by omega), fun b o q => ?_, ?_⟩)
      · rw [upd_ne (ne_of_none q hD)]
        exact s _ _ q
      · have e1 : [i].filter p = [i] := by rw [List.filter_cons, if_pos hp]; rfl
        rw [upd_same, List.range_succ, List.filter_append, List.map_append, e1, List.map_cons, List.map_nil, Int.zero_add]
    | false =>
      have e1 : [i].filter p = [] := by rw [List.filter_cons, if_neg (by rw [hp]; decide)]; rfl
      refine iteF ⟨s, ?_⟩
      rw [List.range_succ, List.filter_append, e1, List.append_nil]
      exact hH
  · intro H' ⟨s, hH⟩
    exact hd H' s hH
section
variable {P : Program} {w : World} {K : PySem.W.Frag} {mg : Str → Option Value} {base : Heap}
def spNexts : Sp := fun vs H Q _ => ∃ (h c : Addr) (v : V) (n : Int) (ps : List (Int × Int)) (rm tm : List Int), vs = [v] ∧ PoolAt H h c ∧ WebP H v n ps rm tm ∧ ∀ a H', Same H H' → NxL H' h c a (nx (rdsOf ps)) → Q (.ref a) H'
theorem ok__law_nexts (T : Tx K mg) : FnOk P w K mg base CX0 1 T._law_nexts.f T._law_nexts.fd ["_law_web_here"] spNexts := by
  refine T._law_nexts.F.ok sc_law_nexts (fun vs H Q E h => ?_) (fun cdv A outer s H vs Q E hr h => ?_)
  · obtain ⟨_, _, v, _, _, _, _, rfl, _⟩ := h
    rfl
  · obtain ⟨h, c, v, n, ps, rm, tm, rfl, hA, W, k⟩ := h
    obtain ⟨p, q, x3, x4, xs, rfl, ep, eq, ra, _, _, _⟩ := W.inv
    have lx := ra.len
    have l24 := W.l1
    refine ⟨_, (pss_cons (ps_set (i := 1) sc_law_nexts.nd rfl (Or.inr rfl) (by exact (pe_lc (own := [("_law_pair", 5)]) (g := (gName 5)) (tt := tYes) (te := (tOp (rIxT K) (tVar 5) (tC (.int 0)))) rfl sc_law_nexts.nd (pi_tup (pe_ix ix_tup (pv 0) pe_int (fun _ _ => rfl))) (blkOk_by (own := [("_law_pair", 5)]) (N := ["_law_web_here", "_law_begins", "_law_found", "_law_begin", "_law_end", "_law_pair", "_law_k"]) (sc := defScope s_law_nexts) (by decide +kernel)) (fun _ _ _ _ _ => (pg_name (i := 5) sc_law_nexts.nd rfl (Or.inl rfl))) (fun _ _ _ _ _ => pts_nil) (fun _ _ _ _ _ => (by exact (pe_ix ix_tup (pv 5) pe_int (fun _ _ => rfl)))))))
      (pss_cons (ps_set (i := 2) sc_law_nexts.nd rfl (Or.inl rfl) (pe_lst pa_nil))
      (pss_cons (ps_for PassesOwn.never rfl (pi_tup (pe_ix ix_tup (pv 0) pe_int (fun _ _ => rfl))) (pg_tup (by rfl) (pgs_cons (pg_name (i := 3) sc_law_nexts.nd rfl (Or.inl rfl)) (pgs_cons (pg_name (i := 4) sc_law_nexts.nd rfl (Or.inr rfl)) pgs_nil)))
      (pss_one (ps_expr (pe_bm PySem.F.plainAttrs_list PySem.F.slot_list_append PySem.F.type_list_append mt_append (pv 2) (pa_cons (pe_lc (own := [("_law_k", 6)]) (g := (gName 6))  (tt := (tTest (tOp rEq (tOp (rIxL K) (tVar 1) (tVar 6)) (tVar 4)))) rfl sc_law_nexts.nd (pi_range1 (by rfl) T.n_range (pa_cons (pe_callB call_len_seq (by rfl) T.n_len (by decide +kernel) (pa_cons (pv 1) pa_nil)) pa_nil)) (blkOk_by (own := [("_law_k", 6)]) (N := ["_law_web_here", "_law_begins", "_law_found", "_law_begin", "_law_end", "_law_pair", "_law_k"]) (sc := defScope s_law_nexts) (by decide +kernel)) (fun _ _ _ _ _ => (pg_name (i := 6) sc_law_nexts.nd rfl (Or.inl rfl))) (fun _ _ _ _ _ => (pts_one (by exact (pt_cmpR op_eq (pe_ix ix_list (pv 1) (pv 6) (fun _ _ => rfl)) (pv 4) (nomark _))))) (fun _ _ _ _ _ => (by exact (pv 6)))) pa_nil)))))
      (pss_one (ps_ret (pv 2)))))), ?_⟩
    refine ⟨_, rfl, p, _, 1, _, rfl, rfl, SqT.of ep, atI_nat (j := 1) rfl, q, rfl, ⟨_, SqT.of eq⟩, fun B hB => ?_⟩
    refine lc_tup (K := K) (a := q) (xs := xs) (fun i H' => Same H H' ∧ H' B = some (.lst ((ps.take i).map fun p => V.int p.1)))
      ⟨same_upd hB, upd_same⟩ (fun i H' _ ⟨s, _⟩ => SqT.of (s _ _ eq)) ?_ ?_
    · rintro i x H' hx ⟨s, hd⟩
      obtain ⟨pp, hp1, qq, rfl, e2⟩ := ra.get hx
      have hi : i < ps.length := (List.getElem?_eq_some_iff.mp hp1).1
      refine ⟨rfl, tyes ⟨_, rfl, qq, _, 0, _, rfl, rfl, SqT.of (s _ _ e2), atI_nat (j := 0) rfl, _, hd, ?_, fun b o z => ?_, ?_⟩⟩
      · rw [List.length_map, List.length_take]; exact line_lt (by omega)
      · rw [upd_ne (ne_of_none z hB)]; exact s _ _ z
      · rw [upd_same, take_more hp1, List.map_append]; rfl
    rintro H1 ⟨s1, hB1⟩
    rw [lx, List.take_length] at hB1
    refine ⟨by show 0 ≤ sizeLine; decide, fun F hF => ?_⟩
    obtain ⟨f1, f2⟩ := (hA.same s1).ne hF
    have sF : Same H1 (upd H1 F (.lst [])) := same_upd hF
    refine ⟨_, rfl, p, _, 1, _, rfl, rfl, SqT.of (sF _ _ (s1 _ _ ep)), atI_nat (j := 1) rfl, q, rfl, ⟨_, SqT.of (sF _ _ (s1 _ _ eq))⟩, for_tup (xs := xs) (fun i σ' H' => ∃ (o3 o4 : Option V) (ys : List V), σ' = [some (.ref p), some (.ref B), some (.ref F), o3, o4, none, none] ∧ Same H1 H' ∧ H' F = some (.lst ys) ∧ ys.length = i ∧
        ∀ j, j < i → ∃ b, ys[j]? = some (.ref b) ∧ H' b = some (.lst ((nextL (rdsOf ps) (j : Nat)).map fun j => V.int (j : Nat))) ∧ b ≠ F ∧ b ≠ h ∧ b ≠ c)
      ⟨none, none, [], rfl, sF, upd_same, rfl, fun j hj => absurd hj (Nat.not_lt_zero _)⟩ (fun i σ' H' _ ⟨_, _, _, _, s, _⟩ => SqT.of (s _ _ (s1 _ _ eq))) ?_ ?_⟩
    · rintro i x σ' H2 hx ⟨o3, o4, ys, rfl, s2, hF2, ly, hb⟩
      obtain ⟨pp, hp1, qq, rfl, e2⟩ := ra.get hx
      have hi : i < ps.length := (List.getElem?_eq_some_iff.mp hp1).1
      refine ⟨qq, _, rfl, SqT.of (s2 _ _ (s1 _ _ e2)), rfl, _, _, rfl, _, _, rfl, rfl, ?_⟩
      refine ⟨_, rfl, .inl ⟨rfl, _, SqL.of hF2⟩, _, rfl, B, _, rfl, .inl (SqL.of (s2 _ _ hB1)), ((ps.map fun p => V.int p.1).length : Int), rfl, by rw [List.length_map]; omega, by rw [List.length_map]; omega, fun D1 hD1 => ?_⟩
      refine lc_fr (j := 6) (n := ((ps.map fun p => V.int p.1).length : Int).toNat) (fun j' => decide (bg ((rdsOf ps).getD j' .non) = en (dAt (rdsOf ps) (i : Nat)))) (by rw [List.length_map]; omega) hD1 ?_ ?_ ?_ ?_
      · exact fun x => rfl
      · intro r hr H3 Q' s3 kq
        rw [List.length_map] at hr
        have hr' : r < ps.length := by omega
        have e5 : (ps.map fun p => V.int p.1)[r]? = some (.int ps[r].1) := by rw [List.getElem?_map, List.getElem?_eq_getElem hr']; rfl
        refine ⟨_, rfl, _, rfl, B, _, _, _, rfl, rfl, SqL.of (s3 _ _ (s2 _ _ hB1)), at_of (by omega) e5, _, rfl, rfl, _, rfl, ?_⟩
        rw [int_eqd]
        have eb : bg ((rdsOf ps).getD r .non) = ps[r].1 := by rw [rdsOf_at (List.getElem?_eq_getElem hr')]; rfl
        have ee : en (dAt (rdsOf ps) (i : Nat)) = pp.2 := by unfold dAt; rw [Int.toNat_natCast, rdsOf_at hp1]; rfl
        rw [eb, ee] at kq
        exact kq
      · exact fun r hr H3 Q' kq => ⟨_, rfl, kq⟩
      · intro H3 s3 hD3
        have nDF : D1 ≠ F := fun z => by subst z; rw [hF2] at hD1; cases hD1
        have p2 : PoolAt H2 h c := (hA.same s1).same s2
        obtain ⟨d1, d2⟩ := p2.ne hD1
        have hF3 := s3 _ _ hF2
        have hn : ((ps.map fun p => V.int p.1).length : Int).toNat = (rdsOf ps).length := by rw [List.length_map, rdsOf_len]; omega
        rw [hn] at hD3
        refine ⟨F, ys, _, rfl, rfl, hF3, line_lt (by omega), _, _, ys ++ [.ref D1], rfl, fun b o z => ?_, upd_same, by rw [List.length_append, ly]; rfl, fun j hj => ?_⟩
        · rw [upd_ne (ne_of_none z hF)]; exact s3 _ _ (s2 _ _ z)
        · by_cases hj2 : j < i
          · obtain ⟨b, e6, e7, n1, n2, n3⟩ := hb j hj2
            exact ⟨b, by rw [List.getElem?_append_left (by omega)]; exact e6, by rw [upd_ne n1]; exact s3 _ _ e7, n1, n2, n3⟩
          · obtain rfl : j = i := by omega
            exact ⟨D1, by rw [List.getElem?_append_right (by omega), ly, Nat.sub_self]; rfl, by rw [upd_ne nDF]; exact hD3, nDF, d1, d2⟩
    · rintro σ' H2 ⟨o3, o4, ys, rfl, s2, hF2, ly, hb⟩
      rw [lx] at ly hb
      exact ⟨_, rfl, k F H2 (s1.trans s2) ⟨f1, f2, ys, hF2, by rw [nx_len, rdsOf_len]; exact ly, fun i hi => by
        rw [nx_len] at hi
        rw [nx_at _ hi]
        rw [rdsOf_len] at hi
        obtain ⟨b, e6, e7, n1, n2, n3⟩ := hb i hi
        exact ⟨b, e6, e7, n2, n3⟩⟩⟩
end
end Hc

set_option Elab.async false
set_option linter.all false
set_option maxRecDepth 100000
set_option maxHeartbeats 1000000
set_option autoImplicit false
namespace Hc
open PySem L2
/-- a lot, as a tuple or as a list -/
def LotAt (H : Hp) (l : Addr) (L : List Nat) : Prop := H l = some (.tup (L.map fun j => V.int (j : Nat))) ∨ H l = some (.lst (L.map fun j => V.int (j : Nat)))
theorem LotAt.same {H H' : Hp} {l : Addr} {L : List Nat} (x : LotAt H l L) (s : Same H H') : LotAt H' l L := by
  rcases x with x | x
  · exact .inl (s _ _ x)
  · exact .inr (s _ _ x)
theorem LotAt.sq {K : PySem.W.Frag} {H : Hp} {l : Addr} {L : List Nat} (x : LotAt H l L) : SqL K H l (L.map fun j => V.int (j : Nat)) ∨ SqT K H l (L.map fun j => V.int (j : Nat)) := by
  rcases x with x | x
  · exact .inr (SqT.of x)
  · exact .inl (SqL.of x)
/-- the silent roads -/
def silentL (n : Nat) (L : List Nat) : List Nat := (List.range n).filter fun r => !decide (r ∈ L)
theorem flat_filter {α β : Type} {f : α → List β} {p : α → Bool} : ∀ (l : List α), (∀ x ∈ l, p x = false → f x = []) → (l.filter p).flatMap f = l.flatMap f
  | [], _ => rfl
  | x :: l, h => by
    have ih := flat_filter l fun y hy => h y (List.mem_cons_of_mem _ hy)
    rw [List.filter_cons, List.flatMap_cons]
    cases q : p x with
    | true => rw [if_pos rfl, List.flatMap_cons, ih]
    | false => rw [if_neg (by decide), ih, h x List.mem_cons_self q]; rfl
theorem fork_in {A : List (List Nat)} {L : List Nat} {t : Bool} {a : Nat} (g : a ∉ L) : forkR A L t a = ((A.getD a []).filter fun b => bEnd A L t b && decide (1 < (A.getD a []).length)).map (fun (b : Nat) => ([0, (a : Int), (b : Int)] : List Int)) := by
  unfold forkR
  rw [decide_eq_false g]
  by_cases h : 1 < (A.getD a []).length
  · simp only [decide_eq_true h, Bool.and_true, Bool.not_false, if_true]
  · simp only [decide_eq_false h, Bool.and_false, Bool.false_eq_true, if_false]
    have : ∀ l : List Nat, l.filter (fun _ => false) = [] := fun l => by induction l with | nil => rfl | cons x l ih => rw [List.filter_cons, if_neg (by decide), ih]
    rw [this]; rfl
theorem row_in {A : List (List Nat)} {L : List Nat} {t : Bool} {a m : Nat} (g : a ∉ L) (g2 : m ∉ L) : rowM A L t a m = ((A.getD m []).filter (bEnd A L t)).map (fun (b : Nat) => ([1, (a : Int), (m : Int), (b : Int)] : List Int)) := by
  unfold rowM
  rw [decide_eq_false g, decide_eq_false g2]; rfl
theorem mem_silent {n : Nat} {L : List Nat} {r : Nat} : r ∈ silentL n L ↔ r < n ∧ r ∉ L := by
  unfold silentL
  rw [List.mem_filter, List.mem_range]
  constructor
  · rintro ⟨a, b⟩
    exact ⟨a, fun z => by rw [decide_eq_true z] at b; cases b⟩
  · rintro ⟨a, b⟩
    exact ⟨a, by rw [decide_eq_false b]; rfl⟩
theorem forks_silent {A : List (List Nat)} {L : List Nat} {t : Bool} : (silentL A.length L).flatMap (forkR A L t) = forksL A L t := by
  unfold silentL forksL
  refine flat_filter _ fun r _ h => ?_
  have g : r ∈ L := by
    by_cases g : r ∈ L
    · exact g
    · rw [decide_eq_false g] at h; cases h
  unfold forkR
  rw [decide_eq_true g]; rfl
/-- of a row's roads only the silent ones count -/
theorem rowR_silent {A : List (List Nat)} {L : List Nat} {t : Bool} {a : Nat} (T : Tab A) : ((A.getD a []).filter fun m => decide (m ∈ silentL A.length L)).flatMap (rowM A L t a) = rowR A L t a := by
  unfold rowR
  refine flat_filter _ fun m hm h => ?_
  have h1 := of_decide_eq_false h
  have g : m ∈ L := by
    by_cases g : m ∈ L
    · exact g
    · exact absurd (mem_silent.mpr ⟨T.inn a m hm, g⟩) h1
  unfold rowM
  rw [decide_eq_true g, Bool.and_comm]; rfl
theorem rows_silent {A : List (List Nat)} {L : List Nat} {t : Bool} : (silentL A.length L).flatMap (rowR A L t) = rowsL A L t := by
  unfold silentL rowsL
  refine flat_filter _ fun r _ h => ?_
  have g : r ∈ L := by
    by_cases g : r ∈ L
    · exact g
    · rw [decide_eq_false g] at h; cases h
  unfold rowR
  have : ∀ l : List Nat, l.flatMap (rowM A L t r) = [] := fun l => by
    induction l with
    | nil => rfl
    | cons x l ih =>
      rw [List.flatMap_cons, ih]
      unfold rowM
      rw [decide_eq_true g]; rfl
  exact this _
section
variable {P : Program} {w : World} {K : PySem.W.Frag} {mg : Str → Option Value} {base : Heap}
def spMayEnd : Sp := fun vs H Q _ => ∃ (h c a l : Addr) (A : List (List Nat)) (L : List Nat) (t : Bool) (r : Nat), vs = [.ref a, .ref l, .str (srt t), .int (r : Nat)] ∧ NxL H h c a A ∧ LotAt H l L ∧ r < A.length ∧ Q (.bl (bEnd A L t r)) H
theorem ok__law_may_end (T : Tx K mg) : FnOk P w K mg base CX0 1 T._law_may_end.f T._law_may_end.fd ["_law_nexts_here", "_law_lot_here", "_law_sort", "_law_road"] spMayEnd := by
  refine T._law_may_end.F.ok sc_law_may_end (fun vs H Q E h => ?_) (fun cdv A outer s H vs Q E hr h => ?_)
  · obtain ⟨_, _, _, _, _, _, _, _, rfl, _⟩ := h
    rfl
  · obtain ⟨h, c, a, l, A, L, t, r, rfl, hA, hl, hr', k⟩ := h
    obtain ⟨_, _, xs, ea, lx, at_⟩ := hA
    obtain ⟨b, e1, e2, _, _⟩ := at_ r hr'
    refine ⟨_, (pss_cons (ps_if (pt_cmpR op_eq (pe_callB call_len_seq (by rfl) T.n_len (by decide +kernel) (pa_cons (pe_ix ix_list (pv 0) (pv 3) (fun _ _ => rfl)) pa_nil)) pe_int (nomark _))
      (pss_one (ps_ret pe_bl))
      pss_nil)
      (pss_one (ps_ret (pe_or (pe_cmpR op_eq (pv 2) pe_str (nomark _)) (pe_one (pe_cmpR op_notIn_seq (pv 3) (pv 1) (by rfl))))))), ?_⟩
    refine ⟨_, rfl, _, rfl, a, xs, _, _, rfl, rfl, SqL.of ea, atI_nat e1, b, _, rfl, .inl (SqL.of e2), rfl, _, rfl, ?_⟩
    rw [int_eqd, List.length_map]
    unfold bEnd at k
    by_cases g : 0 < (A.getD r []).length
    · rw [decide_eq_false (show ¬ (((A.getD r []).length : Nat) : Int) = 0 by omega)]
      rw [decide_eq_true g, Bool.true_and] at k
      refine iteF ⟨_, rfl, rfl, _, rfl, ?_⟩
      rw [srt_eq]
      cases t with
      | true => exact iteT k
      | false =>
        refine iteF ⟨_, rfl, _, rfl, l, _, rfl, hl.sq, rfl, flat_nat L, ?_⟩
        rw [if_pos rfl, in_nat]
        exact k
    · rw [decide_eq_true (show (((A.getD r []).length : Nat) : Int) = 0 by omega)]
      rw [decide_eq_false g] at k
      exact iteT k
def spLawBad : Sp := fun vs H Q _ => ∃ (h c a l : Addr) (A : List (List Nat)) (L : List Nat) (t : Bool), vs = [.ref a, .ref l, .str (srt t)] ∧ PoolAt H h c ∧ NxL H h c a A ∧ LotAt H l L ∧ Tab A ∧
  ∀ F H', Same H H' → H F = none → BadAt H' F (placesL A L t) → Q (.ref F) H'
theorem ok__law_bad (T : Tx K mg) : FnOk P w K mg base CX0 2 T._law_bad.f T._law_bad.fd ["_law_nexts_here", "_law_lot_here", "_law_sort"] spLawBad := by
  refine T._law_bad.F.ok sc_law_bad (fun vs H Q E h => ?_) (fun cdv A outer s H vs Q E hr h => ?_)
  · obtain ⟨_, _, _, _, _, _, _, rfl, _⟩ := h
    rfl
  · obtain ⟨h, c, a, l, A, L, t, rfl, hP, hA, hl, Tb, k⟩ := h
    obtain ⟨_, _, xs, ea, lx, at_⟩ := id hA
    refine ⟨_, (pss_cons (ps_set (i := 3) sc_law_bad.nd rfl (Or.inl rfl) (pe_lst pa_nil))
      (pss_cons (ps_set (i := 4) sc_law_bad.nd rfl (Or.inr rfl) (by exact (pe_lc (own := [("_law_road", 8)]) (g := (gName 8))  (tt := (tTest (tOp (rIn K true) (tVar 8) (tVar 1)))) rfl sc_law_bad.nd (pi_range1 (by rfl) T.n_range (pa_cons (pe_callB call_len_seq (by rfl) T.n_len (by decide +kernel) (pa_cons (pv 0) pa_nil)) pa_nil)) (blkOk_by (own := [("_law_road", 8)]) (N := ["_law_nexts_here", "_law_lot_here", "_law_sort", "_law_found", "_law_silent", "_law_a", "_law_b", "_law_m", "_law_road"]) (sc := defScope s_law_bad) (by decide +kernel)) (fun _ _ _ _ _ => (pg_name (i := 8) sc_law_bad.nd rfl (Or.inl rfl))) (fun _ _ _ _ _ => (pts_one (by exact (pt_cmpR op_notIn_seq (pv 8) (pv 1) (by rfl))))) (fun _ _ _ _ _ => (by exact (pv 8))))))
      (pss_cons (ps_for PassesOwn.never rfl (pi_list (pv 4)) (pg_name (i := 5) sc_law_bad.nd rfl (Or.inl rfl))
      (pss_one (ps_for PassesOwn.never rfl (pi_list (pe_ix ix_list (pv 0) (pv 5) (fun _ _ => rfl))) (pg_name (i := 6) sc_law_bad.nd rfl (Or.inl rfl))
      (pss_one (ps_if (PW.pt (pw_and (pt_val (pe_call (ok__law_may_end T) (hr.mono (by decide)) rfl T._law_may_end.g T._law_may_end.F.kp T._law_may_end.b .nil pass0 (pa_cons (pv 0) (pa_cons (pv 1) (pa_cons (pv 2) (pa_cons (pv 6) pa_nil)))))) (pw_and1 (pt_cmpR op_gt (pe_callB call_len_seq (by rfl) T.n_len (by decide +kernel) (pa_cons (pe_ix ix_list (pv 0) (pv 5) (fun _ _ => rfl)) pa_nil)) pe_int (nomark _)))))
      (pss_one (ps_expr (pe_bm PySem.F.plainAttrs_list PySem.F.slot_list_append PySem.F.type_list_append mt_append (pv 3) (pa_cons (pe_tup (pa_cons pe_str (pa_cons (pv 5) (pa_cons (pv 6) pa_nil)))) pa_nil))))
      pss_nil)))))
      (pss_cons (ps_for PassesOwn.never rfl (pi_list (pv 4)) (pg_name (i := 5) sc_law_bad.nd rfl (Or.inl rfl))
      (pss_one (ps_for PassesOwn.never rfl (pi_list (pe_lc (own := [("_law_road", 8)]) (g := (gName 8))  (tt := (tTest (tOp (rIn K false) (tVar 8) (tVar 4)))) rfl sc_law_bad.nd (pi_list (pe_ix ix_list (pv 0) (pv 5) (fun _ _ => rfl))) (blkOk_by (own := [("_law_road", 8)]) (N := ["_law_nexts_here", "_law_lot_here", "_law_sort", "_law_found", "_law_silent", "_law_a", "_law_b", "_law_m", "_law_road"]) (sc := defScope s_law_bad) (by decide +kernel)) (fun _ _ _ _ _ => (pg_name (i := 8) sc_law_bad.nd rfl (Or.inl rfl))) (fun _ _ _ _ _ => (pts_one (by exact (pt_cmpR op_in_seq (pv 8) (pv 4) (by rfl))))) (fun _ _ _ _ _ => (by exact (pv 8))))) (pg_name (i := 7) sc_law_bad.nd rfl (Or.inl rfl))
      (pss_one (ps_for PassesOwn.never rfl (pi_list (pe_ix ix_list (pv 0) (pv 7) (fun _ _ => rfl))) (pg_name (i := 6) sc_law_bad.nd rfl (Or.inl rfl))
      (pss_one (ps_if (pt_val (pe_call (ok__law_may_end T) (hr.mono (by decide)) rfl T._law_may_end.g T._law_may_end.F.kp T._law_may_end.b .nil pass0 (pa_cons (pv 0) (pa_cons (pv 1) (pa_cons (pv 2) (pa_cons (pv 6) pa_nil))))))
      (pss_one (ps_expr (pe_bm PySem.F.plainAttrs_list PySem.F.slot_list_append PySem.F.type_list_append mt_append (pv 3) (pa_cons (pe_tup (pa_cons pe_str (pa_cons (pv 5) (pa_cons (pv 7) (pa_cons (pv 6) pa_nil))))) pa_nil))))
      pss_nil)))))))
      (pss_one (ps_ret (pe_callB cr_sortedPl (by rfl) T.n_sorted (by decide +kernel) (pa_cons (pv 3) pa_nil)))))))), ?_⟩
    refine ⟨by show 0 ≤ sizeLine; decide, fun F hF => ?_⟩
    have sF : Same H (upd H F (.lst [])) := same_upd hF
    refine ⟨_, rfl, a, xs, rfl, .inl (SqL.of (sF _ _ ea)), (xs.length : Int), rfl, by have := Tb.sz; omega, by have := Tb.sz; omega, fun S hS => ?_⟩
    have hn : (xs.length : Int).toNat = A.length := by omega
    refine lc_fr (j := 8) (n := (xs.length : Int).toNat) (fun r => !decide (r ∈ L)) (by have := Tb.sz; omega) hS ?_ ?_ ?_ ?_
    · exact fun x => rfl
    · intro r hr H2 Q' s2 kq
      refine ⟨_, rfl, _, rfl, l, _, rfl, (hl.same (sF.trans s2)).sq, rfl, flat_nat L, _, rfl, ?_⟩
      rw [if_pos rfl, Int.zero_add, in_nat]
      exact kq
    · exact fun r hr H2 Q' kq => ⟨_, rfl, kq⟩
    intro H1 s1 hS1
    rw [hn] at hS1
    have hS1 : H1 S = some (.lst ((silentL A.length L).map fun j => V.int (j : Nat))) := hS1
    have hF1 := s1 _ _ (show (upd H F (.lst [])) F = some (.lst []) from upd_same)
    have nSF : S ≠ F := fun z => by subst z; rw [upd_same] at hS; cases hS
    have sl24 : (silentL A.length L).length ≤ 24 := by
      have := List.length_filter_le (fun r => !decide (r ∈ L)) (List.range A.length)
      rw [List.length_range] at this
      have := Tb.sz
      unfold silentL
      omega
    have sm1 : Same H H1 := sF.trans s1
    obtain ⟨SL, eSL⟩ : ∃ SL, SL = silentL A.length L := ⟨_, rfl⟩
    rw [← eSL] at hS1 sl24
    have hSm : ∀ r ∈ SL, r < A.length ∧ r ∉ L := fun r hr => mem_silent.mp (by rw [← eSL]; exact hr)
    have fin1 : SL.flatMap (forkR A L t) = forksL A L t := by rw [eSL]; exact forks_silent
    have fin2 : SL.flatMap (rowR A L t) = rowsL A L t := by rw [eSL]; exact rows_silent
    have f24 := Tb.forks L t
    clear hS s1 sF
    refine ⟨_, rfl, S, rfl, ⟨_, SqL.of hS1⟩, for_list (xs := SL.map fun j => V.int (j : Nat)) (fun i σ' H' => ∃ (ys : List V) (av bv : Option V), σ' = [some (.ref a), some (.ref l), some (.str (srt t)), some (.ref F), some (.ref S), av, bv, none, none] ∧ Same H H' ∧ H' F = some (.lst ys) ∧ H' S = some (.lst (SL.map fun j => V.int (j : Nat))) ∧
        PlA H' ys ((SL.take i).flatMap (forkR A L t)))
      ⟨[], none, none, rfl, sm1, hF1, hS1, .nil⟩ (fun i σ' H' _ ⟨_, _, _, _, _, _, e, _⟩ => SqL.of e) ?_ ?_⟩
    · skip
      rintro i x σ' H1 hx ⟨ys, av, bv, rfl, s1, hF1, hS1, hP1⟩
      have hi : i < SL.length := by
        have := (List.getElem?_eq_some_iff.mp hx).1
        rwa [List.length_map] at this
      obtain ⟨r, er⟩ : ∃ r, r = SL[i] := ⟨_, rfl⟩
      have ex : x = .int (r : Nat) := by
        rw [List.getElem?_map, List.getElem?_eq_getElem hi, ← er] at hx
        exact (Option.some.inj hx).symm
      subst ex
      have hrm : r ∈ SL := by rw [er]; exact List.getElem_mem hi
      obtain ⟨hr1, hr2⟩ := hSm r hrm
      have tk : SL.take (i + 1) = SL.take i ++ [r] := by rw [er]; exact take_more (List.getElem?_eq_getElem hi)
      obtain ⟨b, e1, eb, _, _⟩ := at_ r hr1
      have lP : ((SL.take i).flatMap (forkR A L t)).length ≤ 576 := by
        have := flat_len (f := forkR A L t) (c := 24) (SL.take i) fun a _ => Tb.fork L t a
        have h3 : (SL.take i).length ≤ 24 := by rw [List.length_take]; omega
        omega
      obtain ⟨q, eq⟩ : ∃ q, q = fun b => bEnd A L t b && decide (1 < (A.getD r []).length) := ⟨_, rfl⟩
      refine ⟨_, rfl, _, rfl, a, xs, _, _, rfl, rfl, SqL.of (s1 _ _ ea), atI_nat e1, b, rfl, ⟨_, SqL.of (s1 _ _ eb)⟩, for_list (xs := (A.getD r []).map fun j => V.int (j : Nat)) (fun j σ' H' => ∃ (ys : List V) (bv : Option V), σ' = [some (.ref a), some (.ref l), some (.str (srt t)), some (.ref F), some (.ref S), some (.int (r : Nat)), bv, none, none] ∧ Same H H' ∧ H' F = some (.lst ys) ∧ H' S = some (.lst (SL.map fun j => V.int (j : Nat))) ∧
          PlA H' ys ((SL.take i).flatMap (forkR A L t) ++ (((A.getD r []).take j).filter q).map (fun (b : Nat) => ([0, (r : Int), (b : Int)] : List Int))))
        ⟨ys, bv, rfl, s1, hF1, hS1, by rw [List.take_zero]; simpa using hP1⟩ (fun j σ' H' _ ⟨_, _, _, s, _⟩ => SqL.of (s _ _ eb)) ?_ ?_⟩
      · clear hP1 hS1 hF1 s1 H1
        rintro j x σ' H1 hx ⟨ys, bv, rfl, s1, hF1, hS1, hP1⟩
        have hj : j < (A.getD r []).length := by
          have := (List.getElem?_eq_some_iff.mp hx).1
          rwa [List.length_map] at this
        obtain ⟨m, em⟩ : ∃ m, m = (A.getD r [])[j] := ⟨_, rfl⟩
        have ex : x = .int (m : Nat) := by
          rw [List.getElem?_map, List.getElem?_eq_getElem hj, ← em] at hx
          exact (Option.some.inj hx).symm
        subst ex
        have hm : m ∈ A.getD r [] := by rw [em]; exact List.getElem_mem hj
        have tj : (A.getD r []).take (j + 1) = (A.getD r []).take j ++ [m] := by rw [em]; exact take_more (List.getElem?_eq_getElem hj)
        have ly : ys.length ≤ 600 := by
          rw [hP1.len, List.length_append, List.length_map]
          have h3 := List.length_filter_le q ((A.getD r []).take j)
          have h4 : ((A.getD r []).take j).length ≤ (A.getD r []).length := by rw [List.length_take]; omega
          have := Tb.row r
          omega
        have stay : q m = false → ∃ (ys' : List V) (bv : Option V), ([some (.ref a), some (.ref l), some (.str (srt t)), some (.ref F), some (.ref S), some (.int (r : Nat)), some (.int (m : Nat)), none, none] : St) = [some (.ref a), some (.ref l), some (.str (srt t)), some (.ref F), some (.ref S), some (.int (r : Nat)), bv, none, none] ∧ Same H H1 ∧ H1 F = some (.lst ys') ∧ H1 S = some (.lst (SL.map fun j => V.int (j : Nat))) ∧
            PlA H1 ys' ((SL.take i).flatMap (forkR A L t) ++ (((A.getD r []).take (j + 1)).filter q).map (fun (b : Nat) => ([0, (r : Int), (b : Int)] : List Int))) := fun z => ⟨ys, _, rfl, s1, hF1, hS1, by
          have e2 : [m].filter q = [] := by rw [List.filter_cons, if_neg (by rw [z]; decide)]; rfl
          rw [tj, List.filter_append, e2, List.append_nil]
          exact hP1⟩
        refine ⟨_, rfl, _, rfl, _, rfl, _, rfl, h, c, a, l, A, L, t, m, rfl, hA.same s1, hl.same s1, Tb.inn r m hm, _, rfl, ?_⟩
        cases g : bEnd A L t m with
        | false => exact iteF (iteF (stay (by rw [eq]; show (bEnd A L t m && _) = false; rw [g]; rfl)))
        | true =>
          refine iteT ⟨_, rfl, _, rfl, a, xs, _, _, rfl, rfl, SqL.of (s1 _ _ ea), atI_nat e1, b, _, rfl, .inl (SqL.of (s1 _ _ eb)), _, _, rfl, rfl, _, rfl, ?_⟩
          rw [List.length_map]
          by_cases g2 : 1 < (A.getD r []).length
          · rw [decide_eq_true (show (1 : Int) < ((A.getD r []).length : Int) by omega)]
            have qm : q m = true := by rw [eq]; show (bEnd A L t m && decide (1 < (A.getD r []).length)) = true; rw [g, decide_eq_true g2]; rfl
            refine iteT ⟨_, rfl, .inl ⟨rfl, _, SqL.of hF1⟩, _, rfl, _, rfl, by show 3 ≤ sizeLine; decide, fun p hp => ?_⟩
            have sp : Same H1 (upd H1 p (.tup [.str "fork", .int (r : Nat), .int (m : Nat)])) := same_upd hp
            have eF := sp _ _ hF1
            have nS : S ≠ F := nSF
            refine ⟨F, ys, _, rfl, rfl, eF, line_lt (by omega), ys ++ [.ref p], _, rfl, fun b o z => ?_, upd_same, ?_, ?_⟩
            · rw [upd_ne (ne_of_none z hF)]; exact sp _ _ (s1 _ _ z)
            · rw [upd_ne nS]; exact sp _ _ hS1
            · have e2 : [m].filter q = [m] := by rw [List.filter_cons, if_pos qm]; rfl
              rw [tj, List.filter_append, e2, List.map_append, ← List.append_assoc]
              exact ((hP1.nl (NL.of sp)).app (.cons ⟨p, 0, [(r : Int), (m : Int)], rfl, upd_same, rfl, .inl rfl⟩ .nil)).nl (NL.upd eF)
          · rw [decide_eq_false (show ¬ (1 : Int) < ((A.getD r []).length : Int) by omega)]
            exact iteF (stay (by rw [eq]; show (bEnd A L t m && decide (1 < (A.getD r []).length)) = false; rw [decide_eq_false g2, Bool.and_false]))
      · rintro σ' H2 ⟨ys, bv, rfl, s2, hF2, hS2, hP2⟩
        rw [List.length_map, List.take_length, eq, ← fork_in hr2] at hP2
        refine ⟨ys, _, _, rfl, s2, hF2, hS2, ?_⟩
        rw [tk, List.flatMap_append, List.flatMap_cons, List.flatMap_nil, List.append_nil]
        exact hP2
    skip
    rintro σ1 H1 ⟨ys, av, bv, rfl, s1, hF1, hS1, hP1⟩
    rw [List.length_map, List.take_length, fin1] at hP1
    refine ⟨_, rfl, S, rfl, ⟨_, SqL.of hS1⟩, for_list (xs := SL.map fun j => V.int (j : Nat)) (fun i σ' H' => ∃ (ys : List V) (av bv mv : Option V), σ' = [some (.ref a), some (.ref l), some (.str (srt t)), some (.ref F), some (.ref S), av, bv, mv, none] ∧ Same H H' ∧ H' F = some (.lst ys) ∧ H' S = some (.lst (SL.map fun j => V.int (j : Nat))) ∧
        PlA H' ys (forksL A L t ++ (SL.take i).flatMap (rowR A L t)))
      ⟨ys, av, bv, none, rfl, s1, hF1, hS1, by rw [List.take_zero, List.flatMap_nil, List.append_nil]; exact hP1⟩ (fun i σ' H' _ ⟨_, _, _, _, _, _, _, e, _⟩ => SqL.of e) ?_ ?_⟩
    · clear hP1 hS1 hF1 s1 H1 ys av bv
      rintro i x σ' H1 hx ⟨ys, av, bv, mv, rfl, s1, hF1, hS1, hP1⟩
      have hi : i < SL.length := by
        have := (List.getElem?_eq_some_iff.mp hx).1
        rwa [List.length_map] at this
      obtain ⟨r, er⟩ : ∃ r, r = SL[i] := ⟨_, rfl⟩
      have ex : x = .int (r : Nat) := by
        rw [List.getElem?_map, List.getElem?_eq_getElem hi, ← er] at hx
        exact (Option.some.inj hx).symm
      subst ex
      have hrm : r ∈ SL := by rw [er]; exact List.getElem_mem hi
      obtain ⟨hr1, hr2⟩ := hSm r hrm
      have tk : SL.take (i + 1) = SL.take i ++ [r] := by rw [er]; exact take_more (List.getElem?_eq_getElem hi)
      obtain ⟨b, e1, eb, _, _⟩ := at_ r hr1
      have lP : ((SL.take i).flatMap (rowR A L t)).length ≤ 13824 := by
        have := flat_len (f := rowR A L t) (c := 576) (SL.take i) fun a _ => Tb.rowR L t a
        have h3 : (SL.take i).length ≤ 24 := by rw [List.length_take]; omega
        omega
      have hrow := Tb.row r
      refine ⟨_, rfl, _, rfl, a, xs, _, _, rfl, rfl, SqL.of (s1 _ _ ea), atI_nat e1, b, rfl, ⟨_, SqL.of (s1 _ _ eb)⟩, fun D1 hD1 => ?_⟩
      refine lc_fl (j := 8) (ns := A.getD r []) (fun m => decide (m ∈ SL)) (s1 _ _ eb) (by omega) hD1 ?_ ?_ ?_ ?_
      · exact fun x => rfl
      · intro m hm H2 Q' s2 kq
        refine ⟨_, rfl, _, rfl, S, _, rfl, .inl (SqL.of (s2 _ _ hS1)), rfl, flat_nat SL, _, rfl, ?_⟩
        rw [if_neg (by decide), in_nat]
        exact kq
      · exact fun m hm H2 Q' kq => ⟨_, rfl, kq⟩
      intro H2 s2 hD2
      obtain ⟨ML, eML⟩ : ∃ ML, ML = (A.getD r []).filter fun m => decide (m ∈ SL) := ⟨_, rfl⟩
      have hMr : ML.flatMap (rowM A L t r) = rowR A L t r := by rw [eML, eSL]; exact rowR_silent Tb
      have hMm : ∀ m ∈ ML, m ∈ A.getD r [] ∧ m ∈ SL := fun m hm => by
        rw [eML] at hm
        obtain ⟨q1, q2⟩ := List.mem_filter.mp hm
        exact ⟨q1, of_decide_eq_true q2⟩
      have lM : ML.length ≤ 24 := by
        rw [eML]
        exact Nat.le_trans (List.length_filter_le _ _) hrow
      rw [← eML] at hD2
      have nDF : D1 ≠ F := fun z => by subst z; rw [hF1] at hD1; cases hD1
      refine ⟨D1, rfl, ⟨_, SqL.of hD2⟩, for_list (xs := ML.map fun j => V.int (j : Nat)) (fun j σ' H' => ∃ (ys : List V) (bv mv : Option V), σ' = [some (.ref a), some (.ref l), some (.str (srt t)), some (.ref F), some (.ref S), some (.int (r : Nat)), bv, mv, none] ∧ Same H H' ∧ H' F = some (.lst ys) ∧ H' S = some (.lst (SL.map fun j => V.int (j : Nat))) ∧ H' D1 = some (.lst (ML.map fun j => V.int (j : Nat))) ∧
          PlA H' ys (forksL A L t ++ (SL.take i).flatMap (rowR A L t) ++ (ML.take j).flatMap (rowM A L t r)))
        ⟨ys, bv, mv, rfl, s1.trans s2, s2 _ _ hF1, s2 _ _ hS1, hD2, by rw [List.take_zero, List.flatMap_nil, List.append_nil]; exact hP1.nl (NL.of s2)⟩ (fun j σ' H' _ ⟨_, _, _, _, _, _, _, e, _⟩ => SqL.of e) ?_ ?_⟩
      · clear hP1 hS1 hF1 s1 hD2 s2 hD1 H1 H2 ys bv mv av
        rintro j x σ' H1 hx ⟨ys, bv, mv, rfl, s1, hF1, hS1, hD1, hP1⟩
        have hj : j < ML.length := by
          have := (List.getElem?_eq_some_iff.mp hx).1
          rwa [List.length_map] at this
        obtain ⟨m, em⟩ : ∃ m, m = ML[j] := ⟨_, rfl⟩
        have ex : x = .int (m : Nat) := by
          rw [List.getElem?_map, List.getElem?_eq_getElem hj, ← em] at hx
          exact (Option.some.inj hx).symm
        subst ex
        obtain ⟨hm1, hm2⟩ := hMm m (by rw [em]; exact List.getElem_mem hj)
        obtain ⟨hm3, hm4⟩ := hSm m hm2
        have tj : ML.take (j + 1) = ML.take j ++ [m] := by rw [em]; exact take_more (List.getElem?_eq_getElem hj)
        obtain ⟨b2, e2, eb2, _, _⟩ := at_ m hm3
        have lQ : ((ML.take j).flatMap (rowM A L t r)).length ≤ 576 := by
          have := flat_len (f := rowM A L t r) (c := 24) (ML.take j) fun m _ => Tb.rowM L t r m
          have h3 : (ML.take j).length ≤ 24 := by rw [List.length_take]; omega
          omega
        have hrow2 := Tb.row m
        refine ⟨_, rfl, _, rfl, a, xs, _, _, rfl, rfl, SqL.of (s1 _ _ ea), atI_nat e2, b2, rfl, ⟨_, SqL.of (s1 _ _ eb2)⟩, for_list (xs := (A.getD m []).map fun j => V.int (j : Nat)) (fun jj σ' H' => ∃ (ys : List V) (bv : Option V), σ' = [some (.ref a), some (.ref l), some (.str (srt t)), some (.ref F), some (.ref S), some (.int (r : Nat)), bv, some (.int (m : Nat)), none] ∧ Same H H' ∧ H' F = some (.lst ys) ∧ H' S = some (.lst (SL.map fun j => V.int (j : Nat))) ∧ H' D1 = some (.lst (ML.map fun j => V.int (j : Nat))) ∧
            PlA H' ys (forksL A L t ++ (SL.take i).flatMap (rowR A L t) ++ (ML.take j).flatMap (rowM A L t r) ++ (((A.getD m []).take jj).filter (bEnd A L t)).map (fun (b : Nat) => ([1, (r : Int), (m : Int), (b : Int)] : List Int))))
          ⟨ys, bv, rfl, s1, hF1, hS1, hD1, by rw [List.take_zero]; simpa using hP1⟩ (fun j σ' H' _ ⟨_, _, _, s, _⟩ => SqL.of (s _ _ eb2)) ?_ ?_⟩
        · clear hP1 hS1 hF1 s1 hD1 H1 ys bv mv
          rintro jj x σ' H1 hx ⟨ys, bv, rfl, s1, hF1, hS1, hD1, hP1⟩
          have hjj : jj < (A.getD m []).length := by
            have := (List.getElem?_eq_some_iff.mp hx).1
            rwa [List.length_map] at this
          obtain ⟨u, eu⟩ : ∃ u, u = (A.getD m [])[jj] := ⟨_, rfl⟩
          have ex : x = .int (u : Nat) := by
            rw [List.getElem?_map, List.getElem?_eq_getElem hjj, ← eu] at hx
            exact (Option.some.inj hx).symm
          subst ex
          have hu : u ∈ A.getD m [] := by rw [eu]; exact List.getElem_mem hjj
          have tu : (A.getD m []).take (jj + 1) = (A.getD m []).take jj ++ [u] := by rw [eu]; exact take_more (List.getElem?_eq_getElem hjj)
          have ly : ys.length ≤ 20000 := by
            rw [hP1.len, List.length_append, List.length_append, List.length_append, List.length_map]
            have h3 := List.length_filter_le (bEnd A L t) ((A.getD m []).take jj)
            have h4 : ((A.getD m []).take jj).length ≤ (A.getD m []).length := by rw [List.length_take]; omega
            omega
          refine ⟨_, rfl, _, rfl, _, rfl, _, rfl, h, c, a, l, A, L, t, u, rfl, hA.same s1, hl.same s1, Tb.inn m u hu, _, rfl, ?_⟩
          cases g : bEnd A L t u with
          | false =>
            refine iteF ⟨ys, _, rfl, s1, hF1, hS1, hD1, ?_⟩
            have e2 : [u].filter (bEnd A L t) = [] := by rw [List.filter_cons, if_neg (by rw [g]; decide)]; rfl
            rw [tu, List.filter_append, e2, List.append_nil]
            exact hP1
          | true =>
            refine iteT ⟨_, rfl, .inl ⟨rfl, _, SqL.of hF1⟩, _, rfl, _, rfl, _, rfl, by show 4 ≤ sizeLine; decide, fun p hp => ?_⟩
            have sp : Same H1 (upd H1 p (.tup [.str "row", .int (r : Nat), .int (m : Nat), .int (u : Nat)])) := same_upd hp
            have eF := sp _ _ hF1
            refine ⟨F, ys, _, rfl, rfl, eF, line_lt (by omega), ys ++ [.ref p], _, rfl, fun b o z => ?_, upd_same, ?_, ?_, ?_⟩
            · rw [upd_ne (ne_of_none z hF)]; exact sp _ _ (s1 _ _ z)
            · rw [upd_ne nSF]; exact sp _ _ hS1
            · rw [upd_ne nDF]; exact sp _ _ hD1
            · have e2 : [u].filter (bEnd A L t) = [u] := by rw [List.filter_cons, if_pos g]; rfl
              rw [tu, List.filter_append, e2, List.map_append, ← List.append_assoc]
              exact ((hP1.nl (NL.of sp)).app (.cons ⟨p, 1, [(r : Int), (m : Int), (u : Int)], rfl, upd_same, rfl, .inr rfl⟩ .nil)).nl (NL.upd eF)
        · rintro σ' H2 ⟨ys, bv, rfl, s2, hF2, hS2, hD2, hP2⟩
          rw [List.length_map, List.take_length, ← row_in hr2 hm4] at hP2
          refine ⟨ys, _, _, rfl, s2, hF2, hS2, hD2, ?_⟩
          rw [tj, List.flatMap_append, List.flatMap_cons, List.flatMap_nil, List.append_nil, ← List.append_assoc]
          exact hP2
      · rintro σ' H2 ⟨ys, bv, mv, rfl, s2, hF2, hS2, hD2, hP2⟩
        rw [List.length_map, List.take_length, hMr] at hP2
        refine ⟨ys, _, _, _, rfl, s2, hF2, hS2, ?_⟩
        rw [tk, List.flatMap_append, List.flatMap_cons, List.flatMap_nil, List.append_nil, ← List.append_assoc]
        exact hP2
    clear hP1 hS1 hF1 s1 H1 ys av bv
    rintro σ1 H1 ⟨ys, av, bv, mv, rfl, s1, hF1, hS1, hP1⟩
    rw [List.length_map, List.take_length, fin2] at hP1
    refine ⟨_, rfl, sorted_rule hF1 hP1 fun G us vs H2 s2 n2 e2 p2 d2 => k G H2 (s1.trans s2) ?_ ⟨us, vs, e2, p2, d2⟩⟩
    cases q : H G with
    | none => rfl
    | some o => rw [s1 _ _ q] at n2; cases n2
end
end Hc

set_option Elab.async false
set_option linter.all false
set_option maxRecDepth 100000
set_option maxHeartbeats 1000000
set_option autoImplicit false
namespace Hc
open PySem L2
/-- a place as data -/
def plP : List Int → PyData
  | n :: ns => .tuple (.str (Pl.kd n) :: ns.map .int)
  | [] => .none
theorem eqv_refl' {d : PyData} (h : d.canLay0 = true) : PyData.eqv d d = true := SeqAt.eqv_refl _ h
theorem dpl_ints {K : PySem.W.Frag} {H : Hp} : ∀ l : List Int, DpAll K H (l.map V.int) (l.map .int)
  | [] => .nil
  | a :: l => .cons (.int a) (dpl_ints l)
theorem lay_int (l : List Int) : PyData.canLayAll0 (l.map .int) = true ∧ PyData.depthAll (l.map .int) = 0 := by
  induction l with
  | nil => exact ⟨rfl, rfl⟩
  | cons a l ih =>
    constructor
    · show (true && PyData.canLayAll0 (l.map .int)) = true
      rw [ih.1]; rfl
    · show max 0 (PyData.depthAll (l.map .int)) = 0
      rw [ih.2]; rfl
theorem lay_pl (p : List Int) : (plP p).canLay0 = true ∧ (plP p).depth ≤ 1 := by
  cases p with
  | nil => exact ⟨rfl, by decide⟩
  | cons n ns =>
    have h := lay_int ns
    have k : PyData.strOk (Pl.kd n) = true := by
      unfold Pl.kd
      split <;> decide +kernel
    constructor
    · show (PyData.strOk (Pl.kd n) && PyData.canLayAll0 (ns.map .int)) = true
      rw [h.1, k]; rfl
    · show max 0 (PyData.depthAll (ns.map .int)) + 1 ≤ 1
      rw [h.2]; decide
theorem lay_pls : ∀ zs : List (List Int), PyData.canLayAll0 (zs.map plP) = true ∧ PyData.depthAll (zs.map plP) ≤ 1
  | [] => ⟨rfl, by decide⟩
  | z :: zs => by
    have h := lay_pl z
    have ih := lay_pls zs
    constructor
    · show ((plP z).canLay0 && PyData.canLayAll0 (zs.map plP)) = true
      rw [h.1, ih.1]; rfl
    · show max (plP z).depth (PyData.depthAll (zs.map plP)) ≤ 1
      have := h.2
      have := ih.2
      omega
theorem shaped_pl (p : List Int) : SeqAt.shaped (plP p) = true := by
  have h := lay_pl p
  show ((plP p).canLay0 && decide ((plP p).depth ≤ 64)) = true
  rw [h.1, decide_eq_true (by omega)]; rfl
theorem shaped_pls (zs : List (List Int)) : SeqAt.shaped (.list (zs.map plP)) = true := by
  have h := lay_pls zs
  show (PyData.canLayAll0 (zs.map plP) && decide (PyData.depthAll (zs.map plP) + 1 ≤ 64)) = true
  rw [h.1, decide_eq_true (by omega)]; rfl
theorem dp_pl {K : PySem.W.Frag} {H : Hp} {x : V} {p : List Int} (a : PlV H x p) : Dp K H x (plP p) := by
  obtain ⟨t, n0, ns, rfl, h, rfl, _⟩ := a
  exact .tup (SqT.of h) (.cons (.str _) (dpl_ints ns))
theorem dp_pls {K : PySem.W.Frag} {H : Hp} : ∀ {xs : List V} {zs : List (List Int)}, PlA H xs zs → DpAll K H xs (zs.map plP)
  | _, _, .nil => .nil
  | _, _, .cons a r => .cons (dp_pl a) (dp_pls r)
theorem eqv_pls (zs : List (List Int)) : PyData.eqv (.list (zs.map plP)) (.list (zs.map plP)) = true := eqv_refl' (show PyData.canLayAll0 (zs.map plP) = true from (lay_pls zs).1)
theorem eqv_empty (zs : List (List Int)) : PyData.eqv (.list (zs.map plP)) (.list []) = decide (zs = []) := by
  cases zs with
  | nil => rfl
  | cons z zs => rfl
theorem lot_ok {rds : List D} {L : List Nat} (h1 : ∀ j ∈ L, j < rds.length) (h2 : L.Pairwise (· < ·)) : isLot rds (nD L) = true := by
  show isLot rds (.tup (L.map fun j => .int (j : Nat))) = true
  rw [isLot_tup, Bool.and_eq_true]
  constructor
  · rw [List.all_eq_true]
    intro d hd
    obtain ⟨j, hj, rfl⟩ := List.mem_map.mp hd
    have := h1 j hj
    exact btw_of (by omega) (by omega)
  · rw [nums_map]
    unfold adj
    rw [List.all_eq_true, List.length_map]
    intro j hj
    have hj := List.mem_range.mp hj
    have a1 : j < L.length := by omega
    have a2 : j + 1 < L.length := by omega
    rw [getD_map L a1, getD_map L a2]
    have := (List.pairwise_iff_getElem.mp h2) j (j + 1) a1 a2 (Nat.lt_succ_self j)
    exact decide_eq_true (by omega)
section
variable {P : Program} {w : World} {K : PySem.W.Frag} {mg : Str → Option Value} {base : Heap}
def spLot : Sp := fun vs H Q _ => ∃ (h c : Addr) (m : Nat), vs = [.ref h, .int (m : Nat)] ∧ PoolAt H h c ∧ m ≤ 1000 ∧ ∀ v L H', PoolAt H' h c → Bt h c H H' → Rp H' 0 v (nD L) → (∀ j ∈ L, j < m) → L.Pairwise (· < ·) → Q v H'
theorem ok__law_lot (T : Tx K mg) : FnOk P w K mg base CX0 2 T._law_lot.f T._law_lot.fd ["_law_pool_here", "_law_many"] spLot := by
  refine T._law_lot.F.ok sc_law_lot (fun vs H Q E h => ?_) (fun cdv A outer s H vs Q E hr h => ?_)
  · obtain ⟨_, _, _, rfl, _⟩ := h
    rfl
  · obtain ⟨h, c, m, rfl, hA, hm, k⟩ := h
    refine ⟨_, (pss_cons (ps_set (i := 2) sc_law_lot.nd rfl (Or.inr rfl) (pe_op op_add pe_int (pe_call (ok__law_draw T) (hr.mono (by decide)) rfl T._law_draw.g T._law_draw.F.kp T._law_draw.b .nil pass0 (pa_cons (pv 0) (pa_cons pe_int pa_nil)))))
      (pss_one (ps_ret (pe_callTy call_tuple_of (by rfl) T.n_tuple (by decide +kernel) (pa_cons (pe_lc (own := [("_law_road", 3)]) (g := (gName 3))  rfl sc_law_lot.nd (pi_range1 (by rfl) T.n_range (pa_cons (pv 1) pa_nil)) (blkOk_by (own := [("_law_road", 3)]) (N := ["_law_pool_here", "_law_many", "_law_share", "_law_road"]) (sc := defScope s_law_lot) (by decide +kernel)) (fun _ _ _ _ _ => (pg_name (i := 3) sc_law_lot.nd rfl (Or.inl rfl))) (fun _ _ _ _ _ => (pts_one (by exact (pt_cmpR op_lt (pe_call (ok__law_draw T) (hr.mono (by decide)) rfl T._law_draw.g T._law_draw.F.kp T._law_draw.b .nil pass0 (pa_cons (pv 0) (pa_cons pe_int pa_nil))) (pv 2) (nomark _))))) (fun _ _ _ _ _ => (by exact (pv 3)))) pa_nil))))), ?_⟩
    refine ⟨_, rfl, h, c, 4, rfl, hA, by decide, by decide, fun sh H1 _ _ p1 b1 => ⟨_, _, rfl, rfl, ?_⟩⟩
    refine ⟨_, rfl, (m : Int), rfl, by omega, by omega, fun D1 hD1 => ?_⟩
    obtain ⟨d1, d2⟩ := p1.ne hD1
    refine lc_range (lo := 0) (n := (m : Int).toNat) (fun i H' => ∃ L : List Nat, H' D1 = some (.lst (L.map fun j => V.int (j : Nat))) ∧ (∀ j ∈ L, j < i) ∧ L.Pairwise (· < ·) ∧ L.length ≤ i ∧ PoolAt H' h c ∧ Bt h c H1 H')
      ⟨[], upd_same, fun _ z => (nomatch z), List.Pairwise.nil, Nat.le_refl _, p1.upd d1 d2, (Bt.refl h c H1).upd hD1⟩ ?_ ?_
    · rintro i H2 hi ⟨L, hd, hL, hp, hl, p2, b2⟩
      refine ⟨rfl, _, rfl, h, c, 5, rfl, p2, by decide, by decide, fun y H3 _ _ p3 b3 => ⟨_, rfl, _, _, rfl, rfl, _, rfl, ite2 (fun _ => ?_) (fun _ => ?_)⟩⟩
      · refine ⟨_, rfl, _, b3 _ _ hd d1 d2, by rw [List.length_map]; exact line_lt (by omega), L ++ [i], ?_, ?_, ?_, ?_, p3.upd d1 d2, (b2.trans b3).upd hD1⟩
        · rw [upd_same, List.map_append, List.map_cons, List.map_nil, Int.zero_add]
        · intro j hj
          rcases List.mem_append.mp hj with hj | hj
          · have := hL j hj; omega
          · rw [List.mem_singleton] at hj; omega
        · rw [List.pairwise_append]
          refine ⟨hp, List.pairwise_singleton _ _, fun a ha b hb => ?_⟩
          rw [List.mem_singleton] at hb
          have := hL a ha
          omega
        · rw [List.length_append]; show L.length + 1 ≤ i + 1; omega
      · exact ⟨L, b3 _ _ hd d1 d2, fun j hj => by have := hL j hj; omega, hp, by omega, p3, b2.trans b3⟩
    · rintro H2 ⟨L, hd, hL, hp, hl, p2, b2⟩
      refine ⟨_, _, rfl, .inl ⟨SqL.of hd, fun q hq => ?_⟩⟩
      have s3 : Same H2 (upd H2 q (.tup (L.map fun j => V.int (j : Nat)))) := same_upd hq
      exact k (.ref q) L _ (p2.same s3) (b1.trans (b2.trans (Bt.of s3))) (nD_mk upd_same (by omega)) (fun j hj => by have := hL j hj; omega) hp
def spMade (C : Addr) : Sp := fun vs H Q _ => ∃ (v : V) (n : Int) (ps : List (Int × Int)) (rm tm : List Int), vs = [v] ∧ WebP H v n ps rm tm ∧ ∀ p H', Same H H' → WebO C H' 0 p n (rdsOf ps) → Q (.ref p) H'
theorem ok__law_made (T : Tx K mg) : FnOk P w K mg base CX0 9 T._law_made.f T._law_made.fd ["_law_web_here"] (spMade T.Web.C) := by
  refine T._law_made.F.ok sc_law_made (fun vs H Q E h => ?_) (fun cdv A outer s H vs Q E hr h => ?_)
  · obtain ⟨_, _, _, _, _, rfl, _⟩ := h
    rfl
  · obtain ⟨v, n, ps, rm, tm, rfl, W, k⟩ := h
    obtain ⟨pw, q, x3, x4, xs, rfl, ew, eq, ra, hz, r3, r4⟩ := W.inv
    refine ⟨_, (pss_one (ps_ret (pe_make T.Web.mk1 (ok_Web___init T) (hr.mono (by decide)) rfl T.Web.g T.Web.b .nil passL (pa_cons (pe_ix ix_tup (pv 0) pe_int (fun _ _ => rfl)) (pa_cons (pe_ix ix_tup (pv 0) pe_int (fun _ _ => rfl)) (pa_cons (pe_ix ix_tup (pv 0) pe_int (fun _ _ => rfl)) (pa_cons (pe_ix ix_tup (pv 0) pe_int (fun _ _ => rfl)) pa_nil))))))), ?_⟩
    refine ⟨_, rfl, pw, _, 0, _, rfl, rfl, SqT.of ew, atI_nat (j := 0) rfl, _, rfl, pw, _, 1, _, rfl, rfl, SqT.of ew, atI_nat (j := 1) rfl, _, rfl, pw, _, 2, _, rfl, rfl, SqT.of ew, atI_nat (j := 2) rfl, _, rfl, pw, _, 3, _, rfl, rfl, SqT.of ew, atI_nat (j := 3) rfl, fun x dx hx hdx ne => ?_⟩
    have sx : Same H (upd (upd H dx (.own x)) x (.ins T.Web.C dx [])) := fun b o q => by
      rw [upd_ne (ne_of_none q hx), upd_ne (ne_of_none q hdx)]; exact q
    have r2 : Rp H 0 (.ref q) (.tup (ps.map prD)) := .tup eq hz ra.rp
    have hall := good_be W.g
    have l0 : 1 ≤ (ps.map prD).length := by rw [List.length_map]; exact W.l0
    have l1 : (ps.map prD).length ≤ 24 := by rw [List.length_map]; exact W.l1
    have hdue : due (.int n) (.tup (ps.map prD)) (.tup (rm.map Hc.D.int)) (.tup (tm.map Hc.D.int)) = none := by
      have q1 : ¬ isBtw 2 12 (.int n) = false := by rw [btw_of W.n0 W.n1]; decide
      have q2 : ¬ areRoads (num (.int n)) (.tup (ps.map prD)) = false := by
        show ¬ areRoads n (.tup (ps.map prD)) = false
        rw [areRoads_tup, decide_eq_true l0, decide_eq_true l1, hall]; decide
      have el : dlen (.tup (ps.map prD)) = ps.length := by show (ps.map prD).length = _; rw [List.length_map]
      have q3 : ¬ areBtw (dlen (.tup (ps.map prD))) 1 3 (.tup (rm.map Hc.D.int)) = false := by rw [el, W.a]; decide
      have q4 : ¬ areBtw (dlen (.tup (ps.map prD))) 1 3 (.tup (tm.map Hc.D.int)) = false := by rw [el, W.b]; decide
      exact (if_neg q1).trans ((if_neg q2).trans ((if_neg q3).trans (if_neg q4)))
    refine ⟨0, x, dx, .int n, .ref q, x3, x4, .int n, .tup (ps.map prD), _, _, rfl, upd_same, .int n, r2.same sx, r3.same sx, r4.same sx, fun _ H7 b7 e7 => ⟨rfl, ?_⟩, fun part hd => by rw [hdue] at hd; cases hd⟩
    have s7 : Same H H7 := fun b o q => b7 _ _ (sx _ _ q) (ne_of_none q hx)
    exact k x H7 s7 ⟨⟨dx, _, _, _, _, e7, r2.same s7⟩, hall, l0, l1⟩
end
end Hc

set_option Elab.async false
set_option linter.all false
set_option maxRecDepth 100000
set_option maxHeartbeats 1000000
set_option autoImplicit false
namespace Hc
open PySem L2
theorem not_dec {c : Prop} [Decidable c] (h : (!decide c) = true) : ¬ c := fun z => by
  rw [decide_eq_true z] at h
  exact Bool.noConfusion h
theorem mem_fork {A : List (List Nat)} {L : List Nat} {t : Bool} {p : List Int} : p ∈ forksL A L t ↔ ∃ a b : Nat, a < A.length ∧ a ∉ L ∧ 1 < (A.getD a []).length ∧ b ∈ A.getD a [] ∧ bEnd A L t b = true ∧ ([0, (a : Int), (b : Int)] : List Int) = p := by
  unfold forksL
  rw [List.mem_flatMap]
  constructor
  · rintro ⟨a, ha, hp⟩
    unfold forkR at hp
    by_cases g : (!decide (a ∈ L) && decide (1 < (A.getD a []).length)) = true
    · rw [if_pos g] at hp
      obtain ⟨b, hb, e⟩ := List.mem_map.mp hp
      obtain ⟨hb1, hb2⟩ := List.mem_filter.mp hb
      rw [Bool.and_eq_true] at g
      exact ⟨a, b, List.mem_range.mp ha, not_dec g.1, of_decide_eq_true g.2, hb1, hb2, e⟩
    · rw [if_neg g] at hp; cases hp
  · rintro ⟨a, b, h1, h2, h3, h4, h5, e⟩
    refine ⟨a, List.mem_range.mpr h1, ?_⟩
    unfold forkR
    rw [if_pos (by rw [decide_eq_false h2, decide_eq_true h3]; rfl)]
    exact List.mem_map.mpr ⟨b, List.mem_filter.mpr ⟨h4, h5⟩, e⟩
theorem mem_row {A : List (List Nat)} {L : List Nat} {t : Bool} {p : List Int} : p ∈ rowsL A L t ↔ ∃ a m b : Nat, a < A.length ∧ m ∈ A.getD a [] ∧ a ∉ L ∧ m ∉ L ∧ b ∈ A.getD m [] ∧ bEnd A L t b = true ∧ ([1, (a : Int), (m : Int), (b : Int)] : List Int) = p := by
  unfold rowsL
  rw [List.mem_flatMap]
  constructor
  · rintro ⟨a, ha, hp⟩
    unfold rowR at hp
    obtain ⟨m, hm, hp⟩ := List.mem_flatMap.mp hp
    unfold rowM at hp
    by_cases g : (!decide (a ∈ L) && !decide (m ∈ L)) = true
    · rw [if_pos g] at hp
      obtain ⟨b, hb, e⟩ := List.mem_map.mp hp
      obtain ⟨hb1, hb2⟩ := List.mem_filter.mp hb
      rw [Bool.and_eq_true] at g
      exact ⟨a, m, b, List.mem_range.mp ha, hm, not_dec g.1, not_dec g.2, hb1, hb2, e⟩
    · rw [if_neg g] at hp; cases hp
  · rintro ⟨a, m, b, h1, h2, h3, h4, h5, h6, e⟩
    refine ⟨a, List.mem_range.mpr h1, ?_⟩
    unfold rowR
    refine List.mem_flatMap.mpr ⟨m, h2, ?_⟩
    unfold rowM
    rw [if_pos (by rw [decide_eq_false h3, decide_eq_false h4]; rfl)]
    exact List.mem_map.mpr ⟨b, List.mem_filter.mpr ⟨h5, h6⟩, e⟩
theorem Tab.places {A : List (List Nat)} (T : Tab A) (L : List Nat) (t : Bool) : (placesL A L t).length ≤ 14400 := by
  have h1 := T.forks L t
  have h2 := T.rows L t
  unfold placesL
  rw [List.length_append]
  omega
theorem PlA.get {H : Hp} : ∀ {xs : List V} {ps : List (List Int)} {i : Nat} {x : V}, PlA H xs ps → xs[i]? = some x → ∃ p, p ∈ ps ∧ PlV H x p
  | _, _, i, _, .nil, e => by simp at e
  | _, _, 0, _, .cons a r, e => by simp at e; subst e; exact ⟨_, List.mem_cons_self, a⟩
  | _, _, i + 1, v, .cons a r, e => by
    obtain ⟨d, h1, h2⟩ := PlA.get (i := i) (x := v) r (by simpa using e)
    exact ⟨d, List.mem_cons_of_mem _ h1, h2⟩
/-! kinds -/
def goN (A : List (List Nat)) (r : Nat) : List Nat := (A.getD r []).filter fun b => decide (0 < (A.getD b []).length)
inductive Kn where | told | last | queue | first | second
  deriving DecidableEq
def knL (A : List (List Nat)) (L : List Nat) (t : Bool) (r : Nat) : Kn :=
  if r ∈ L then .told else if (A.getD r []).length = 0 then .last
  else if (t && (goN A r).any fun b => decide (b ∈ L)) = true then .queue
  else if ((goN A r).any fun b => !decide (b ∈ L)) = true then .first else .second
def badK (A : List (List Nat)) (L : List Nat) (t : Bool) (r : Nat) : Bool :=
  (decide (knL A L t r = .queue ∨ knL A L t r = .first) && !decide ((A.getD r []).length = 1)) ||
  (decide (knL A L t r = .first) && !decide (knL A L t ((A.getD r []).getD 0 0) = .second))
theorem mem_go {A : List (List Nat)} {r b : Nat} : b ∈ goN A r ↔ b ∈ A.getD r [] ∧ 0 < (A.getD b []).length := by
  unfold goN
  rw [List.mem_filter, decide_eq_true_eq]
theorem bEnd_iff {A : List (List Nat)} {L : List Nat} {t : Bool} {r : Nat} : bEnd A L t r = true ↔ 0 < (A.getD r []).length ∧ (t = true ∨ r ∉ L) := by
  unfold bEnd
  simp [Bool.and_eq_true, Bool.or_eq_true]
theorem any_in {L : List Nat} {l : List Nat} : (l.any fun b => decide (b ∈ L)) = true ↔ ∃ b ∈ l, b ∈ L := by
  simp [List.any_eq_true]
theorem any_out {L : List Nat} {l : List Nat} : (l.any fun b => !decide (b ∈ L)) = true ↔ ∃ b ∈ l, b ∉ L := by
  simp [List.any_eq_true]
theorem kn_queue {A : List (List Nat)} {L : List Nat} {t : Bool} {r : Nat} : knL A L t r = .queue ↔ r ∉ L ∧ (t = true ∧ ∃ b ∈ goN A r, b ∈ L) := by
  unfold knL
  constructor
  · intro h
    by_cases h1 : r ∈ L
    · rw [if_pos h1] at h; cases h
    rw [if_neg h1] at h
    by_cases h2 : (A.getD r []).length = 0
    · rw [if_pos h2] at h; cases h
    rw [if_neg h2] at h
    by_cases h3 : (t && (goN A r).any fun b => decide (b ∈ L)) = true
    · rw [Bool.and_eq_true, any_in] at h3
      exact ⟨h1, h3⟩
    · rw [if_neg h3] at h
      by_cases h4 : ((goN A r).any fun b => !decide (b ∈ L)) = true
      · rw [if_pos h4] at h; cases h
      · rw [if_neg h4] at h; cases h
  · rintro ⟨h1, h2, h3⟩
    have h4 : ¬ (A.getD r []).length = 0 := fun z => by
      obtain ⟨b, hb, _⟩ := h3
      have := (mem_go.mp hb).1
      rw [List.eq_nil_of_length_eq_zero z] at this
      cases this
    rw [if_neg h1, if_neg h4, if_pos (by rw [Bool.and_eq_true, any_in]; exact ⟨h2, h3⟩)]
theorem kn_first {A : List (List Nat)} {L : List Nat} {t : Bool} {r : Nat} : knL A L t r = .first ↔ r ∉ L ∧ ¬ (t = true ∧ ∃ b ∈ goN A r, b ∈ L) ∧ ∃ b ∈ goN A r, b ∉ L := by
  unfold knL
  constructor
  · intro h
    by_cases h1 : r ∈ L
    · rw [if_pos h1] at h; cases h
    rw [if_neg h1] at h
    by_cases h2 : (A.getD r []).length = 0
    · rw [if_pos h2] at h; cases h
    rw [if_neg h2] at h
    by_cases h3 : (t && (goN A r).any fun b => decide (b ∈ L)) = true
    · rw [if_pos h3] at h; cases h
    · rw [if_neg h3] at h
      by_cases h4 : ((goN A r).any fun b => !decide (b ∈ L)) = true
      · rw [Bool.and_eq_true, any_in] at h3
        exact ⟨h1, h3, any_out.mp h4⟩
      · rw [if_neg h4] at h; cases h
  · rintro ⟨h1, h2, h3⟩
    have h4 : ¬ (A.getD r []).length = 0 := fun z => by
      obtain ⟨b, hb, _⟩ := h3
      have := (mem_go.mp hb).1
      rw [List.eq_nil_of_length_eq_zero z] at this
      cases this
    rw [if_neg h1, if_neg h4, if_neg (by rw [Bool.and_eq_true, any_in]; exact h2), if_pos (any_out.mpr h3)]
/-- a silent road with a next road that leads on, and may end a bad place -/
theorem kn_qf {A : List (List Nat)} {L : List Nat} {t : Bool} {r b : Nat} (h1 : r ∉ L) (h2 : b ∈ A.getD r []) (h3 : bEnd A L t b = true) : knL A L t r = .queue ∨ knL A L t r = .first := by
  obtain ⟨h4, h5⟩ := bEnd_iff.mp h3
  have hg := mem_go.mpr ⟨h2, h4⟩
  by_cases q : t = true ∧ ∃ b ∈ goN A r, b ∈ L
  · exact .inl (kn_queue.mpr ⟨h1, q⟩)
  · refine .inr (kn_first.mpr ⟨h1, q, ?_⟩)
    rcases h5 with h5 | h5
    · by_cases z : b ∈ L
      · exact absurd ⟨h5, b, hg, z⟩ q
      · exact ⟨b, hg, z⟩
    · exact ⟨b, hg, h5⟩
theorem qf_kn {A : List (List Nat)} {L : List Nat} {t : Bool} {r : Nat} (h : knL A L t r = .queue ∨ knL A L t r = .first) : r ∉ L ∧ ∃ b ∈ A.getD r [], bEnd A L t b = true := by
  rcases h with h | h
  · obtain ⟨h1, h2, b, h3, _⟩ := kn_queue.mp h
    exact ⟨h1, b, (mem_go.mp h3).1, bEnd_iff.mpr ⟨(mem_go.mp h3).2, .inl h2⟩⟩
  · obtain ⟨h1, _, b, h3, h4⟩ := kn_first.mp h
    exact ⟨h1, b, (mem_go.mp h3).1, bEnd_iff.mpr ⟨(mem_go.mp h3).2, .inr h4⟩⟩
theorem kn_second {A : List (List Nat)} {L : List Nat} {t : Bool} {r : Nat} : knL A L t r = .second ↔ r ∉ L ∧ 0 < (A.getD r []).length ∧ ¬ (knL A L t r = .queue ∨ knL A L t r = .first) := by
  constructor
  · intro h
    refine ⟨fun z => ?_, ?_, fun z => by rw [h] at z; rcases z with z | z <;> cases z⟩
    · unfold knL at h; rw [if_pos z] at h; cases h
    · apply Nat.pos_of_ne_zero
      intro z
      unfold knL at h
      by_cases h1 : r ∈ L
      · rw [if_pos h1] at h; cases h
      · rw [if_neg h1, if_pos z] at h; cases h
  · rintro ⟨h1, h2, h3⟩
    have h4 : ¬ (A.getD r []).length = 0 := by omega
    have q1 : ¬ (t && (goN A r).any fun b => decide (b ∈ L)) = true := fun z => by
      rw [Bool.and_eq_true, any_in] at z
      exact h3 (.inl (kn_queue.mpr ⟨h1, z⟩))
    have q2 : ¬ ((goN A r).any fun b => !decide (b ∈ L)) = true := fun z => by
      have q1' := q1
      rw [Bool.and_eq_true, any_in] at q1'
      exact h3 (.inr (kn_first.mpr ⟨h1, q1', any_out.mp z⟩))
    unfold knL
    rw [if_neg h1, if_neg h4, if_neg q1, if_neg q2]
/-- THE FIRST FACT -/
theorem first_fact {A : List (List Nat)} (T : Tab A) {L : List Nat} {t : Bool} : (∃ r, r < A.length ∧ badK A L t r = true) ↔ placesL A L t ≠ [] := by
  constructor
  · rintro ⟨r, hr, h⟩
    unfold badK at h
    rw [Bool.or_eq_true, Bool.and_eq_true, Bool.and_eq_true, decide_eq_true_eq, decide_eq_true_eq] at h
    have fork : (knL A L t r = .queue ∨ knL A L t r = .first) → ¬ (A.getD r []).length = 1 → placesL A L t ≠ [] := fun q1 q2 => by
      obtain ⟨h1, b, h2, h3⟩ := qf_kn q1
      have h4 : 0 < (A.getD r []).length := List.length_pos_of_mem h2
      have : ([0, (r : Int), (b : Int)] : List Int) ∈ forksL A L t := mem_fork.mpr ⟨r, b, hr, h1, by omega, h2, h3, rfl⟩
      intro z
      have q : ([0, (r : Int), (b : Int)] : List Int) ∈ placesL A L t := List.mem_append_left _ this
      rw [z] at q; cases q
    rcases h with ⟨h1, h2⟩ | ⟨h1, h2⟩
    · exact fork h1 (not_dec h2)
    · by_cases q : (A.getD r []).length = 1
      · have h2 := not_dec h2
        obtain ⟨g1, _, b, g2, g3⟩ := kn_first.mp h1
        obtain ⟨g4, g5⟩ := mem_go.mp g2
        match e : A.getD r [], q with
        | [m], _ =>
          rw [e] at g4 h2
          have hb : b = m := List.mem_singleton.mp g4
          subst hb
          have h2' : ¬ knL A L t b = .second := h2
          have q3 : knL A L t b = .queue ∨ knL A L t b = .first := Classical.byContradiction fun z => h2' (kn_second.mpr ⟨g3, g5, z⟩)
          obtain ⟨_, c, k1, k2⟩ := qf_kn q3
          have : ([1, (r : Int), (b : Int), (c : Int)] : List Int) ∈ rowsL A L t := mem_row.mpr ⟨r, b, c, hr, by rw [e]; exact List.mem_singleton_self _, g1, g3, k1, k2, rfl⟩
          intro z
          have q : ([1, (r : Int), (b : Int), (c : Int)] : List Int) ∈ placesL A L t := List.mem_append_right _ this
          rw [z] at q; cases q
      · exact fork (.inr h1) q
  · intro h
    obtain ⟨p, hp⟩ := List.exists_mem_of_ne_nil _ h
    have one : ∀ a, ((knL A L t a = .queue ∨ knL A L t a = .first) ∧ ¬ (A.getD a []).length = 1) → badK A L t a = true := fun a z => by
      unfold badK
      rw [Bool.or_eq_true, Bool.and_eq_true, decide_eq_true_eq]
      exact .inl ⟨z.1, by rw [decide_eq_false z.2]; rfl⟩
    rcases List.mem_append.mp hp with hp | hp
    · obtain ⟨a, b, h1, h2, h3, h4, h5, _⟩ := mem_fork.mp hp
      exact ⟨a, h1, one a ⟨kn_qf h2 h4 h5, by omega⟩⟩
    · obtain ⟨a, m, b, h1, h2, h3, h4, h5, h6, _⟩ := mem_row.mp hp
      refine ⟨a, h1, ?_⟩
      have hm : bEnd A L t m = true := bEnd_iff.mpr ⟨List.length_pos_of_mem h5, .inr h4⟩
      by_cases q : (A.getD a []).length = 1
      · match e : A.getD a [], q with
        | [x], _ =>
          rw [e] at h2
          have hx : m = x := List.mem_singleton.mp h2
          subst hx
          have k1 : knL A L t a = .first := by
            refine kn_first.mpr ⟨h3, ?_, m, mem_go.mpr ⟨by rw [e]; exact List.mem_singleton_self _, (bEnd_iff.mp hm).1⟩, h4⟩
            rintro ⟨_, c, hc, hL⟩
            have := (mem_go.mp hc).1
            rw [e] at this
            rw [List.mem_singleton.mp this] at hL
            exact h4 hL
          have k2 : ¬ knL A L t m = .second := fun z => (kn_second.mp z).2.2 (kn_qf h4 h5 h6)
          unfold badK
          rw [Bool.or_eq_true, Bool.and_eq_true, Bool.and_eq_true, decide_eq_true_eq, decide_eq_true_eq]
          refine .inr ⟨k1, ?_⟩
          rw [e]
          show (!decide (knL A L t m = .second)) = true
          rw [decide_eq_false k2]; rfl
      · exact one a ⟨kn_qf h3 h2 hm, q⟩
/-! a lot that is enough -/
theorem bEnd_congr {A : List (List Nat)} {L L' : List Nat} {t : Bool} {r : Nat} (h : r ∈ L ↔ r ∈ L') : bEnd A L t r = bEnd A L' t r := by
  unfold bEnd
  by_cases g : r ∈ L
  · rw [decide_eq_true g, decide_eq_true (h.mp g)]
  · rw [decide_eq_false g, decide_eq_false fun z => g (h.mpr z)]
theorem places_congr {A : List (List Nat)} (T : Tab A) {L L' : List Nat} {t : Bool} (h : ∀ x, x < A.length → (x ∈ L ↔ x ∈ L')) {p : List Int} (hp : p ∈ placesL A L t) : p ∈ placesL A L' t := by
  rcases List.mem_append.mp hp with hp | hp
  · obtain ⟨a, b, h1, h2, h3, h4, h5, e⟩ := mem_fork.mp hp
    exact List.mem_append_left _ (mem_fork.mpr ⟨a, b, h1, fun z => h2 ((h a h1).mpr z), h3, h4, by rw [← bEnd_congr (h b (T.inn a b h4))]; exact h5, e⟩)
  · obtain ⟨a, m, b, h1, h2, h3, h4, h5, h6, e⟩ := mem_row.mp hp
    exact List.mem_append_right _ (mem_row.mpr ⟨a, m, b, h1, h2, fun z => h3 ((h a h1).mpr z), fun z => h4 ((h m (T.inn a m h2)).mpr z), h5, by rw [← bEnd_congr (h b (T.inn m b h5))]; exact h6, e⟩)
theorem places_nil {A : List (List Nat)} (T : Tab A) {L L' : List Nat} {t : Bool} (h : ∀ x, x < A.length → (x ∈ L ↔ x ∈ L')) (e : placesL A L t = []) : placesL A L' t = [] := by
  refine List.eq_nil_iff_forall_not_mem.mpr fun p hp => ?_
  have := places_congr T (fun x hx => (h x hx).symm) hp
  rw [e] at this
  cases this
theorem place_inv {A : List (List Nat)} (T : Tab A) {L : List Nat} {t : Bool} {p : List Int} (hp : p ∈ placesL A L t) :
    ∃ (n0 : Int) (a : Nat) (bs : List Nat), p = n0 :: (a :: bs).map (fun (j : Nat) => (j : Int)) ∧ a ∉ L ∧ (∀ j ∈ a :: bs, j < A.length) ∧ bs ≠ [] ∧ bs.length ≤ 2 := by
  rcases List.mem_append.mp hp with hp | hp
  · obtain ⟨a, b, h1, h2, h3, h4, h5, e⟩ := mem_fork.mp hp
    refine ⟨0, a, [b], e.symm, h2, fun j hj => ?_, by simp, by simp⟩
    rcases List.mem_cons.mp hj with rfl | hj
    · exact h1
    · rw [List.mem_singleton] at hj; subst hj; exact T.inn a _ h4
  · obtain ⟨a, m, b, h1, h2, h3, h4, h5, h6, e⟩ := mem_row.mp hp
    refine ⟨1, a, [m, b], e.symm, h3, fun j hj => ?_, by simp, by simp⟩
    rcases List.mem_cons.mp hj with rfl | hj
    · exact h1
    rcases List.mem_cons.mp hj with rfl | hj
    · exact T.inn a _ h2
    · rw [List.mem_singleton] at hj; subst hj; exact T.inn m _ h5
theorem nodup_le : ∀ (n : Nat) (L : List Nat), L.Nodup → (∀ x ∈ L, x < n) → L.length ≤ n
  | 0, [], _, _ => Nat.le_refl _
  | 0, x :: L, _, h => absurd (h x List.mem_cons_self) (Nat.not_lt_zero _)
  | n + 1, L, d, h => by
    by_cases g : n ∈ L
    · have := nodup_le n (L.erase n) (d.erase n) fun x hx => by
        have h1 := (List.Nodup.mem_erase_iff d).mp hx
        have := h x h1.2
        have := h1.1
        omega
      rw [List.length_erase_of_mem g] at this
      omega
    · have := nodup_le n L d fun x hx => by
        have h1 := h x hx
        have : x ≠ n := fun z => g (z ▸ hx)
        omega
      omega
/-! words -/
def knS : Kn → Str
  | .told => "told" | .last => "end" | .queue => "queue" | .first => "first" | .second => "second"
theorem knS_first (a : Kn) : decide (V.str (knS a) = V.str "first") = decide (a = .first) := by cases a <;> decide +kernel
theorem knS_second (a : Kn) : decide (V.str (knS a) = V.str "second") = decide (a = .second) := by cases a <;> decide +kernel
theorem knS_qf (a : Kn) : inV (V.str (knS a)) [.str "queue", .str "first"] = decide (a = .queue ∨ a = .first) := by cases a <;> decide +kernel
abbrev rGtS : R2 := rI0 fun i j => .bl (decide (j < i))
abbrev rLenS (K : PySem.W.Frag) : List V → Hp → VK → Prop := fun xs H Q => ∃ p ys, xs = [V.ref p] ∧ (SqL K H p ys ∨ SqT K H p ys) ∧ Q (.int ys.length) H
/-- [x for x in t if p(x)], t a tuple of numbers -/
theorem lc_ft {K : PySem.W.Frag} {H0 : Hp} {b D : Addr} {ns : List Nat} {j : Nat} {te : TE} {tt : TT} {σ : St} {vs : List Nat} {Qd : Hp → Prop} (p : Nat → Bool)
    (eb : H0 b = some (.tup (ns.map fun j => V.int (j : Nat)))) (hz : ns.length ≤ 1000) (hD : H0 D = none)
    (hw : ∀ x, wipe ((wipe σ vs).set j (some x)) vs = wipe σ vs)
    (ht : ∀ r ∈ ns, ∀ H' (Q : Bool → Hp → Prop), Same H0 H' → Q (p r) H' → tt ((wipe σ vs).set j (some (.int (r : Nat)))) H' Q)
    (he : ∀ r ∈ ns, ∀ H' (Q : VK), Q (.int (r : Nat)) H' → te ((wipe σ vs).set j (some (.int (r : Nat)))) H' Q)
    (hd : ∀ H', Same H0 H' → H' D = some (.lst ((ns.filter p).map fun j => V.int (j : Nat))) → Qd H') :
    ∃ W : Nat → Nat → Hp → Prop, (∃ m, W 0 m (upd H0 D (.lst []))) ∧ ∀ i m H, W i m H →
      ((Itt K b).stop i H ∧ Qd H) ∨ ((Itt K b).go i H ∧ ∃ Nx : Hp → Prop, (∀ H', Nx H' → ∃ m', m' < m ∧ W (i + 1) m' H') ∧ ∀ x H', (Itt K b).yld i H x H' → (gName j) x (wipe σ vs) H' fun σ2 H2 => wipe σ2 vs = wipe σ vs ∧ tt σ2 H2 fun b H3 =>
        if b = true then te σ2 H3 fun y H4 => ∃ acc, H4 D = some (.lst acc) ∧ acc.length < sizeLine ∧ Nx (upd H4 D (.lst (acc ++ [y]))) else Nx H3) := by
  refine lc_tup (K := K) (xs := ns.map fun j => V.int (j : Nat)) (fun i H' => Same H0 H' ∧ H' D = some (.lst (((ns.take i).filter p).map fun j => V.int (j : Nat))))
    ⟨same_upd hD, upd_same⟩ (fun i H' hi ⟨s, _⟩ => SqT.of (s _ _ eb)) ?_ ?_
  · intro i x H' hx ⟨s, hH⟩
    have hi : i < ns.length := by
      have := (List.getElem?_eq_some_iff.mp hx).1
      rwa [List.length_map] at this
    have ex : x = .int (ns[i] : Nat) := by
      rw [List.getElem?_map, List.getElem?_eq_getElem hi] at hx
      exact (Option.some.inj hx).symm
    subst ex
    have hm : ns[i] ∈ ns := List.getElem_mem hi
    have tk : ns.take (i + 1) = ns.take i ++ [ns[i]] := take_more (List.getElem?_eq_getElem hi)
    have hl2 : ((ns.take i).filter p).length ≤ 1000 := by
      refine Nat.le_trans (List.length_filter_le _ _) ?_
      rw [List.length_take]; omega
    refine ⟨hw _, ht _ hm H' _ s ?_⟩
    cases hp : p ns[i] with
    | true =>
      refine iteT (he _ hm H' _ ⟨_, hH, by rw [List.length_map]; exact line_lt (by omega), fun b o q => ?_, ?_⟩)
      · rw [upd_ne (ne_of_none q hD)]
        exact s _ _ q
      · have e1 : [ns[i]].filter p = [ns[i]] := by rw [List.filter_cons, if_pos hp]; rfl
        rw [upd_same, tk, List.filter_append, List.map_append, e1]; rfl
    | false =>
      have e1 : [ns[i]].filter p = [] := by rw [List.filter_cons, if_neg (by rw [hp]; decide)]; rfl
      refine iteF ⟨s, ?_⟩
      rw [tk, List.filter_append, e1, List.append_nil]
      exact hH
  · intro H' ⟨s, hH⟩
    rw [List.length_map, List.take_length] at hH
    exact hd H' s hH
/-- [p(x) for x in l], l a list of numbers -/
theorem lc_bl {K : PySem.W.Frag} {H0 : Hp} {b D : Addr} {ns : List Nat} {j : Nat} {te : TE} {σ : St} {vs : List Nat} {Qd : Hp → Prop} (p : Nat → Bool)
    (eb : H0 b = some (.lst (ns.map fun j => V.int (j : Nat)))) (hz : ns.length ≤ 1000) (hD : H0 D = none)
    (hw : ∀ x, wipe ((wipe σ vs).set j (some x)) vs = wipe σ vs)
    (he : ∀ r ∈ ns, ∀ H' (Q : VK), Same H0 H' → Q (.bl (p r)) H' → te ((wipe σ vs).set j (some (.int (r : Nat)))) H' Q)
    (hd : ∀ H', Same H0 H' → H' D = some (.lst ((ns.map p).map V.bl)) → Qd H') :
    ∃ W : Nat → Nat → Hp → Prop, (∃ m, W 0 m (upd H0 D (.lst []))) ∧ ∀ i m H, W i m H →
      ((Itl K b).stop i H ∧ Qd H) ∨ ((Itl K b).go i H ∧ ∃ Nx : Hp → Prop, (∀ H', Nx H' → ∃ m', m' < m ∧ W (i + 1) m' H') ∧ ∀ x H', (Itl K b).yld i H x H' → (gName j) x (wipe σ vs) H' fun σ2 H2 => wipe σ2 vs = wipe σ vs ∧ tYes σ2 H2 fun b H3 =>
        if b = true then te σ2 H3 fun y H4 => ∃ acc, H4 D = some (.lst acc) ∧ acc.length < sizeLine ∧ Nx (upd H4 D (.lst (acc ++ [y]))) else Nx H3) := by
  refine lc_list (K := K) (xs := ns.map fun j => V.int (j : Nat)) (fun i H' => Same H0 H' ∧ H' D = some (.lst (((ns.take i).map p).map V.bl)))
    ⟨same_upd hD, upd_same⟩ (fun i H' hi ⟨s, _⟩ => SqL.of (s _ _ eb)) ?_ ?_
  · intro i x H' hx ⟨s, hH⟩
    have hi : i < ns.length := by
      have := (List.getElem?_eq_some_iff.mp hx).1
      rwa [List.length_map] at this
    have ex : x = .int (ns[i] : Nat) := by
      rw [List.getElem?_map, List.getElem?_eq_getElem hi] at hx
      exact (Option.some.inj hx).symm
    subst ex
    have hm : ns[i] ∈ ns := List.getElem_mem hi
    have tk : ns.take (i + 1) = ns.take i ++ [ns[i]] := take_more (List.getElem?_eq_getElem hi)
    refine ⟨hw _, tyes (he _ hm H' _ s ⟨_, hH, ?_, fun b o q => ?_, ?_⟩)⟩
    · rw [List.length_map, List.length_map, List.length_take]; exact line_lt (by omega)
    · rw [upd_ne (ne_of_none q hD)]
      exact s _ _ q
    · rw [upd_same, tk, List.map_append, List.map_append]; rfl
  · intro H' ⟨s, hH⟩
    rw [List.length_map, List.take_length] at hH
    exact hd H' s hH
end Hc

set_option Elab.async false
set_option linter.all false
set_option maxRecDepth 100000
set_option maxHeartbeats 1000000
set_option autoImplicit false
namespace Hc
open PySem L2
theorem go_len {A : List (List Nat)} (T : Tab A) (r : Nat) : (goN A r).length ≤ 24 := Nat.le_trans (List.length_filter_le _ _) (T.row r)
theorem any_map (l : List Nat) (p : Nat → Bool) : (l.map p).any id = l.any p := by rw [List.any_map]; rfl
section
variable {P : Program} {w : World} {K : PySem.W.Frag} {mg : Str → Option Value} {base : Heap}
def spKindOf : Sp := fun vs H Q _ => ∃ (a l : Addr) (A : List (List Nat)) (L : List Nat) (t : Bool) (r : Nat), vs = [.ref a, .ref l, .str (srt t), .int (r : Nat)] ∧ AfT H a A ∧ H l = some (.tup (L.map fun j => V.int (j : Nat))) ∧ Tab A ∧ r < A.length ∧
  ∀ H', Same H H' → Q (.str (knS (knL A L t r))) H'
theorem ok_kind_of (T : Tx K mg) : FnOk P w K mg base CX0 2 T.kind_of.f T.kind_of.fd ["after", "lot", "sort", "road"] spKindOf := by
  refine T.kind_of.F.ok sc_kind_of (fun vs H Q E h => ?_) (fun cdv A outer s H vs Q E hr h => ?_)
  · obtain ⟨_, _, _, _, _, _, rfl, _⟩ := h
    rfl
  · obtain ⟨a, l, A, L, t, r, rfl, hA, hl, Tb, hr', k⟩ := h
    obtain ⟨xs, ea, lx, at_⟩ := id hA
    obtain ⟨b, e1, eb⟩ := at_ r hr'
    refine ⟨_, (pss_cons (ps_if (pt_cmpR op_in_seq (pv 3) (pv 1) (by rfl))
      (pss_one (ps_ret pe_str))
      pss_nil)
      (pss_cons (ps_if (pt_cmpR op_eq (pe_callB call_len_seq (by rfl) T.n_len (by decide +kernel) (pa_cons (pe_ix ix_list (pv 0) (pv 3) (fun _ _ => rfl)) pa_nil)) pe_int (nomark _))
      (pss_one (ps_ret pe_str))
      pss_nil)
      (pss_cons (ps_setLc (i := 4) (own := [("number", 5)]) (g := (gName 5))  (tt := (tTest (tOp rGtS (tCB (rLenS K) (tCons (tOp (rIxL K) (tVar 0) (tVar 5)) tNil)) (tC (.int 0))))) rfl sc_kind_of.nd rfl rfl (sw_true rfl rfl rfl (by decide +kernel)) (pi_tup (pe_ix ix_list (pv 0) (pv 3) (fun _ _ => rfl))) (blkOk_by (own := [("number", 5)]) (N := ["after", "lot", "sort", "road", "going_on", "number"]) (sc := defScope s_kind_of) (by decide +kernel)) (fun _ _ _ _ _ => (pg_name (i := 5) sc_kind_of.nd rfl (Or.inl rfl))) (fun _ _ _ _ _ => (pts_one (by exact (pt_cmpR op_gt (pe_callB call_len_seq (by rfl) T.n_len (by decide +kernel) (pa_cons (pe_ix ix_list (pv 0) (pv 5) (fun _ _ => rfl)) pa_nil)) pe_int (nomark _))))) (fun _ _ _ _ _ => (by exact (pv 5))))
      (C8.pss_cut (ps_if (PW.pt (pw_and (pt_cmpR op_eq (pv 2) pe_str (nomark _)) (pw_and1 (pt_val (pe_callB (cr_any rfl) (by rfl) T.n_any (by decide +kernel) (pa_cons (pe_lc (own := [("number", 5)]) (g := (gName 5)) (tt := tYes) (te := (tOp (rIn K false) (tVar 5) (tVar 1))) rfl sc_kind_of.nd (pi_list (pv 4)) (blkOk_by (own := [("number", 5)]) (N := ["after", "lot", "sort", "road", "going_on", "number"]) (sc := defScope s_kind_of) (by decide +kernel)) (fun _ _ _ _ _ => (pg_name (i := 5) sc_kind_of.nd rfl (Or.inl rfl))) (fun _ _ _ _ _ => pts_nil) (fun _ _ _ _ _ => (by exact (pe_cmpR op_in_seq (pv 5) (pv 1) (by rfl))))) pa_nil))))))
      (pss_one (ps_ret pe_str))
      pss_nil)
      (pss_cons (ps_if (pt_val (pe_callB (cr_any rfl) (by rfl) T.n_any (by decide +kernel) (pa_cons (pe_lc (own := [("number", 5)]) (g := (gName 5)) (tt := tYes) (te := (tOp (rIn K true) (tVar 5) (tVar 1))) rfl sc_kind_of.nd (pi_list (pv 4)) (blkOk_by (own := [("number", 5)]) (N := ["after", "lot", "sort", "road", "going_on", "number"]) (sc := defScope s_kind_of) (by decide +kernel)) (fun _ _ _ _ _ => (pg_name (i := 5) sc_kind_of.nd rfl (Or.inl rfl))) (fun _ _ _ _ _ => pts_nil) (fun _ _ _ _ _ => (by exact (pe_cmpR op_notIn_seq (pv 5) (pv 1) (by rfl))))) pa_nil)))
      (pss_one (ps_ret pe_str))
      pss_nil)
      (pss_one (ps_ret pe_str))))))), ?_⟩
    refine ⟨_, rfl, _, rfl, l, _, rfl, .inr (SqT.of hl), rfl, flat_nat L, _, rfl, ?_⟩
    rw [if_neg (by decide), in_nat]
    by_cases g1 : r ∈ L
    · rw [decide_eq_true g1]
      have e : knL A L t r = .told := by unfold knL; rw [if_pos g1]
      rw [e] at k
      exact iteT (k H (Same.refl _))
    rw [decide_eq_false g1]
    refine iteF ⟨_, rfl, _, rfl, a, xs, _, _, rfl, rfl, SqL.of ea, atI_nat e1, b, _, rfl, .inr (SqT.of eb), rfl, _, rfl, ?_⟩
    rw [int_eqd, List.length_map]
    by_cases g2 : (A.getD r []).length = 0
    · rw [decide_eq_true (show (((A.getD r []).length : Nat) : Int) = 0 by omega)]
      have e : knL A L t r = .last := by unfold knL; rw [if_neg g1, if_pos g2]
      rw [e] at k
      exact iteT (k H (Same.refl _))
    rw [decide_eq_false (show ¬ (((A.getD r []).length : Nat) : Int) = 0 by omega)]
    refine iteF ⟨_, rfl, _, rfl, a, xs, _, _, rfl, rfl, SqL.of ea, atI_nat e1, b, rfl, ⟨_, SqT.of eb⟩, fun D hD => ?_⟩
    refine lc_ft (j := 5) (fun m => decide (0 < (A.getD m []).length)) eb (by have := Tb.row r; omega) hD ?_ ?_ ?_ ?_
    · exact fun x => rfl
    · intro m hm H' Q' s' kq
      obtain ⟨b2, e2, eb2⟩ := at_ m (Tb.inn r m hm)
      refine ⟨_, rfl, _, rfl, a, xs, _, _, rfl, rfl, SqL.of (s' _ _ ea), atI_nat e2, b2, _, rfl, .inr (SqT.of (s' _ _ eb2)), _, _, rfl, rfl, _, rfl, ?_⟩
      rw [List.length_map]
      by_cases g : 0 < (A.getD m []).length
      · rw [decide_eq_true g] at kq
        rw [decide_eq_true (show (0 : Int) < ((A.getD m []).length : Int) by omega)]
        exact kq
      · rw [decide_eq_false g] at kq
        rw [decide_eq_false (show ¬ (0 : Int) < ((A.getD m []).length : Int) by omega)]
        exact kq
    · exact fun m hm H' Q' kq => ⟨_, rfl, kq⟩
    intro H1 s1 hD1
    have hD1 : H1 D = some (.lst ((goN A r).map fun j => V.int (j : Nat))) := hD1
    have hl1 := s1 _ _ hl
    have g24 := go_len Tb r
    refine ⟨fun σ' H' => σ' = [some (.ref a), some (.ref l), some (.str (srt t)), some (.int (r : Nat)), some (.ref D), none] ∧ Same H1 H' ∧ ¬ (t && (goN A r).any fun b => decide (b ∈ L)) = true, ?_, ?_⟩
    · refine ⟨_, rfl, rfl, _, rfl, ?_⟩
      rw [srt_eq]
      cases t with
      | false => exact iteF (iteF ⟨rfl, Same.refl _, by simp⟩)
      | true =>
        refine iteT ⟨_, rfl, D, rfl, ⟨_, SqL.of hD1⟩, fun D2 hD2 => ?_⟩
        refine lc_bl (j := 5) (fun m => decide (m ∈ L)) hD1 (by omega) hD2 ?_ ?_ ?_
        · exact fun x => rfl
        · intro m hm H' Q' s' kq
          refine ⟨_, rfl, _, rfl, l, _, rfl, .inr (SqT.of (s' _ _ hl1)), rfl, flat_nat L, ?_⟩
          rw [if_neg (by decide), in_nat]
          exact kq
        intro H2 s2 hD3
        refine ⟨_, _, rfl, SqL.of hD3, _, rfl, ?_⟩
        rw [any_map]
        cases g : (goN A r).any fun b => decide (b ∈ L) with
        | true =>
          have e : knL A L true r = .queue := by unfold knL; rw [if_neg g1, if_neg g2, if_pos (by rw [g]; rfl)]
          rw [e] at k
          exact iteT (k H2 (s1.trans s2))
        | false => exact iteF ⟨rfl, s2, by decide⟩
    rintro σ' H2 ⟨rfl, s2, g3⟩
    refine ⟨_, rfl, D, rfl, ⟨_, SqL.of (s2 _ _ hD1)⟩, fun D2 hD2 => ?_⟩
    refine lc_bl (j := 5) (fun m => !decide (m ∈ L)) (s2 _ _ hD1) (by omega) hD2 ?_ ?_ ?_
    · exact fun x => rfl
    · intro m hm H' Q' s' kq
      refine ⟨_, rfl, _, rfl, l, _, rfl, .inr (SqT.of (s' _ _ (s2 _ _ hl1))), rfl, flat_nat L, ?_⟩
      rw [if_pos rfl, in_nat]
      exact kq
    intro H3 s3 hD3
    refine ⟨_, _, rfl, SqL.of hD3, _, rfl, ?_⟩
    rw [any_map]
    cases g : (goN A r).any fun b => !decide (b ∈ L) with
    | true =>
      have e : knL A L t r = .first := by unfold knL; rw [if_neg g1, if_neg g2, if_neg g3, if_pos g]
      rw [e] at k
      exact iteT (k H3 ((s1.trans s2).trans s3))
    | false =>
      have e : knL A L t r = .second := by unfold knL; rw [if_neg g1, if_neg g2, if_neg g3, if_neg (by rw [g]; decide)]
      rw [e] at k
      exact iteF (k H3 ((s1.trans s2).trans s3))
end
end Hc

set_option Elab.async false
set_option linter.all false
set_option maxRecDepth 100000
set_option maxHeartbeats 1000000
set_option autoImplicit false
namespace Hc
open PySem L2
def knV (A : List (List Nat)) (L : List Nat) (t : Bool) : List V := (List.range A.length).map fun j => V.str (knS (knL A L t j))
/-- the kinds, or None -/
def KnAt (H : Hp) (v : V) (A : List (List Nat)) (L : List Nat) (t : Bool) : Prop :=
  (v = .non ∧ placesL A L t ≠ []) ∨ ∃ p, v = .ref p ∧ H p = some (.tup (knV A L t)) ∧ placesL A L t = []
theorem KnAt.nl {H H' : Hp} {v : V} {A : List (List Nat)} {L : List Nat} {t : Bool} (x : KnAt H v A L t) (k : NL H H') : KnAt H' v A L t := by
  rcases x with x | ⟨p, e, h, q⟩
  · exact .inl x
  · exact .inr ⟨p, e, k.tup h, q⟩
theorem knV_at {A : List (List Nat)} {L : List Nat} {t : Bool} {i : Nat} (h : i < A.length) : (knV A L t)[i]? = some (.str (knS (knL A L t i))) := by
  unfold knV
  rw [List.getElem?_map, List.getElem?_range h]; rfl
theorem knV_len {A : List (List Nat)} {L : List Nat} {t : Bool} : (knV A L t).length = A.length := by
  unfold knV
  rw [List.length_map, List.length_range]
theorem kn_end {A : List (List Nat)} (T : Tab A) {L : List Nat} {t : Bool} (h : ∀ j, j < A.length → badK A L t j = false) : placesL A L t = [] := by
  refine Classical.byContradiction fun z => ?_
  obtain ⟨r, h1, h2⟩ := (first_fact T).mpr z
  rw [h r h1] at h2
  cases h2
/-- the one test, the other one -/
theorem bad1 {A : List (List Nat)} {L : List Nat} {t : Bool} {r : Nat} (h1 : decide (knL A L t r = .queue ∨ knL A L t r = .first) = true) (h2 : ¬ (A.getD r []).length = 1) : badK A L t r = true := by
  unfold badK
  rw [h1, decide_eq_false h2]; rfl
theorem bad2 {A : List (List Nat)} {L : List Nat} {t : Bool} {r : Nat} (h1 : knL A L t r = .first) (h2 : ¬ knL A L t ((A.getD r []).getD 0 0) = .second) : badK A L t r = true := by
  unfold badK
  rw [decide_eq_true h1, decide_eq_false h2, Bool.or_eq_true]; exact .inr rfl
theorem bad0 {A : List (List Nat)} {L : List Nat} {t : Bool} {r : Nat} (h1 : ¬ ((knL A L t r = .queue ∨ knL A L t r = .first) ∧ ¬ (A.getD r []).length = 1)) (h2 : ¬ (knL A L t r = .first ∧ ¬ knL A L t ((A.getD r []).getD 0 0) = .second)) : badK A L t r = false := by
  unfold badK
  rw [Bool.or_eq_false_iff]
  constructor
  · by_cases q : knL A L t r = .queue ∨ knL A L t r = .first
    · by_cases z : (A.getD r []).length = 1
      · rw [decide_eq_true z, Bool.not_true, Bool.and_false]
      · exact absurd ⟨q, z⟩ h1
    · rw [decide_eq_false q]; rfl
  · by_cases q : knL A L t r = .first
    · by_cases z : knL A L t ((A.getD r []).getD 0 0) = .second
      · rw [decide_eq_true z, Bool.not_true, Bool.and_false]
      · exact absurd ⟨q, z⟩ h2
    · rw [decide_eq_false q]; rfl
theorem first_has {A : List (List Nat)} (T : Tab A) {L : List Nat} {t : Bool} {r : Nat} (h : knL A L t r = .first) : (A.getD r [])[0]? = some ((A.getD r []).getD 0 0) ∧ (A.getD r []).getD 0 0 < A.length := by
  obtain ⟨_, b, hb, _⟩ := qf_kn (.inr h)
  have hp := List.length_pos_of_mem hb
  have e : ∀ l : List Nat, 0 < l.length → l[0]? = some (l.getD 0 0) := fun l hl => by
    cases l with
    | nil => cases hl
    | cons x l => rfl
  have e := e _ hp
  exact ⟨e, T.inn r _ (List.mem_of_getElem? e)⟩
section
variable {P : Program} {w : World} {K : PySem.W.Frag} {mg : Str → Option Value} {base : Heap}
def spKinds (C : Addr) : Sp := fun vs H Q _ => ∃ (h p l : Addr) (n : Int) (rds : List D) (L : List Nat) (t : Bool), vs = [.ref p, .ref l, .str (srt t)] ∧ WebO C H h p n rds ∧ Rp H h (.ref l) (nD L) ∧ isLot rds (nD L) = true ∧
  ∀ v H', Same H H' → KnAt H' v (nx rds) L t → Q v H'
theorem ok_kinds (T : Tx K mg) : FnOk P w K mg base (L2.CX P w) 6 T.kinds.f T.kinds.fd ["web", "lot", "sort"] (spKinds T.Web.C) := by
  refine T.kinds.F.okX sc_kinds (fun vs H Q E h => ?_) (fun cdv A outer s H vs Q E hr h => ?_)
  · obtain ⟨_, _, _, _, _, _, _, rfl, _⟩ := h
    rfl
  · obtain ⟨h, p, l, n, rds, L, t, rfl, W, r, e, k⟩ := h
    have Tb := nx_tab W.l2
    have l24 := W.l2
    have el := nD_at r
    obtain ⟨dx, v1, v2, v3, v4, hp, r2⟩ := W.ex
    obtain ⟨pa, xs, rfl, ea, za, ra⟩ := tup_inv r2
    have hl := ra.len
    refine ⟨_, (pss_cons (ps_expr (pe_call (ok_check_lot_and_sort T) (hr.mono (by decide)) rfl T.check_lot_and_sort.g T.check_lot_and_sort.F.kp T.check_lot_and_sort.b .nil passL (pa_cons (pv 0) (pa_cons (pv 1) (pa_cons (pv 2) pa_nil)))))
      (pss_cons (ps_set (i := 3) sc_kinds.nd rfl (Or.inr rfl) (pe_call (ok_all_next T) (hr.mono (by decide)) rfl T.all_next.g T.all_next.F.kp T.all_next.b .nil passL (pa_cons (pv 0) pa_nil)))
      (pss_cons (ps_setLc (i := 4) (own := [("road", 5)]) (g := (gName 5)) (tt := tYes) rfl sc_kinds.nd rfl rfl (sw_true rfl rfl rfl (by decide +kernel)) (pi_range1 (by rfl) T.n_range (pa_cons (pe_callB call_len_seq (by rfl) T.n_len (by decide +kernel) (pa_cons (pe_fld (pv 0) rfl) pa_nil)) pa_nil)) (blkOk_by (own := [("road", 5)]) (N := ["web", "lot", "sort", "after", "found", "road", "kind"]) (sc := defScope s_kinds) (by decide +kernel)) (fun _ _ _ _ _ => (pg_name (i := 5) sc_kinds.nd rfl (Or.inl rfl))) (fun _ _ _ _ _ => pts_nil) (fun _ _ _ _ _ => (by exact (pe_call (ok_kind_of T) (hr.mono (by decide)) rfl T.kind_of.g T.kind_of.F.kp T.kind_of.b .nil pass0 (pa_cons (pv 3) (pa_cons (pv 1) (pa_cons (pv 2) (pa_cons (pv 5) pa_nil))))))))
      (pss_cons (ps_for (passes_of rfl) rfl (pi_enum (by rfl) T.n_enumerate (pa_cons (pv 4) pa_nil)) (pg_tup (by rfl) (pgs_cons (pg_name (i := 5) sc_kinds.nd rfl (Or.inl rfl)) (pgs_cons (pg_name (i := 6) sc_kinds.nd rfl (Or.inl rfl)) pgs_nil)))
      (C8.pss_cut (ps_if (PW.pt (pw_and (pt_cmpR op_in_seq (pv 6) (pe_tup (pa_cons pe_str (pa_cons pe_str pa_nil))) (by rfl)) (pw_and1 (pt_cmpR op_ne (pe_callB call_len_seq (by rfl) T.n_len (by decide +kernel) (pa_cons (pe_ix ix_list (pv 3) (pv 5) (fun _ _ => rfl)) pa_nil)) pe_int (nomark _)))))
      (pss_one (ps_ret pe_non))
      pss_nil)
      (pss_one (ps_if (PW.pt (pw_and (pt_cmpR op_eq (pv 6) pe_str (nomark _)) (pw_and1 (pt_cmpR op_ne (pe_ix ix_list (pv 4) (pe_ix ix_tup (pe_ix ix_list (pv 3) (pv 5) (fun _ _ => rfl)) pe_int (fun _ _ => rfl)) (fun _ _ => rfl)) pe_str (nomark _)))))
      (pss_one (ps_ret pe_non))
      pss_nil))))
      (pss_one (ps_ret (pe_callTy call_tuple_of (by rfl) T.n_tuple (by decide +kernel) (pa_cons (pv 4) pa_nil)))))))), ?_⟩
    refine ⟨_, rfl, _, rfl, _, rfl, h, p, n, rds, _, _, t, rfl, W, r, e, fun H1 s1 => ?_⟩
    refine ⟨_, rfl, h, p, n, rds, rfl, W.same s1, fun a H2 s2 _ hA => ?_⟩
    have s02 := s1.trans s2
    have el2 := s02 _ _ el
    refine ⟨_, rfl, p, T.Web.C, dx, _, _, rfl, s02 _ _ hp, T.Web.cl, T.Web.no _ (by simp), wF_r _ _ _ _, pa, xs, rfl, .inr (SqT.of (s02 _ _ ea)), (xs.length : Int), rfl, by omega, by omega, fun D hD => ?_⟩
    have hn : (xs.length : Int).toNat = (nx rds).length := by rw [nx_len]; omega
    refine lc_range (lo := 0) (n := (xs.length : Int).toNat) (fun i H' => Same H2 H' ∧ H' D = some (.lst ((List.range i).map fun j => V.str (knS (knL (nx rds) L t j)))))
      ⟨same_upd hD, upd_same⟩ ?_ ?_
    · rintro i H' hi ⟨s, hd⟩
      refine ⟨rfl, tyes ⟨_, rfl, _, rfl, _, rfl, _, rfl, a, l, nx rds, L, t, i, by rw [Int.zero_add]; rfl, hA.same s, s _ _ el2, Tb, by omega, fun H3 s3 => ⟨_, s3 _ _ hd, ?_, fun b o q => ?_, ?_⟩⟩⟩
      · rw [List.length_map, List.length_range]; exact line_lt (by omega)
      · rw [upd_ne (ne_of_none q hD)]; exact s3 _ _ (s _ _ q)
      · rw [upd_same, List.range_succ, List.map_append]; rfl
    rintro H3 ⟨s3, hD3⟩
    rw [hn] at hD3
    have hD3 : H3 D = some (.lst (knV (nx rds) L t)) := hD3
    have sm := s02.trans s3
    have hA3 := hA.same s3
    obtain ⟨ys, ey, ly, at_⟩ := id hA3
    refine ⟨_, rfl, D, _, rfl, SqL.of hD3, for_enumL (xs := knV (nx rds) L t) (fun i σ' H' => ∃ o5 o6 : Option V, σ' = [some (.ref p), some (.ref l), some (.str (srt t)), some (.ref a), some (.ref D), o5, o6] ∧ Same H3 H' ∧ ∀ j, j < i → badK (nx rds) L t j = false)
      ⟨_, _, rfl, Same.refl _, fun j hj => absurd hj (Nat.not_lt_zero _)⟩ (fun i σ' H' _ ⟨_, _, _, s, _⟩ => SqL.of (s _ _ hD3)) ?_ ?_⟩
    · rintro i x σ' TT H4 hx hT ⟨o5, o6, rfl, s4, hb⟩
      have hi : i < (nx rds).length := by
        have := (List.getElem?_eq_some_iff.mp hx).1
        rwa [knV_len] at this
      rw [knV_at hi] at hx
      cases hx
      have s5 : Same H4 (upd H4 TT (.tup [.int (i : Nat), .str (knS (knL (nx rds) L t i))])) := same_upd hT
      obtain ⟨b, e1, eb⟩ := at_ i hi
      refine ⟨TT, _, rfl, SqT.of upd_same, rfl, _, _, rfl, _, _, rfl, rfl, ?_⟩
      generalize upd H4 TT (.tup [.int (i : Nat), .str (knS (knL (nx rds) L t i))]) = H5 at s5 ⊢
      have s35 := s4.trans s5
      have bad : ∀ H', Same H3 H' → badK (nx rds) L t i = true → Q .non H' := fun H' s' z => k .non H' (sm.trans s') (.inl ⟨rfl, (first_fact Tb).mp ⟨i, hi, z⟩⟩)
      refine ⟨fun σ' H' => σ' = [some (.ref p), some (.ref l), some (.str (srt t)), some (.ref a), some (.ref D), some (.int (i : Nat)), some (.str (knS (knL (nx rds) L t i)))] ∧ Same H3 H' ∧ ¬ ((knL (nx rds) L t i = .queue ∨ knL (nx rds) L t i = .first) ∧ ¬ ((nx rds).getD i []).length = 1), ?_, ?_⟩
      · refine ⟨_, rfl, by show 2 ≤ sizeLine; decide, fun q hq => ?_⟩
        have s6 : Same H5 (upd H5 q (.tup [.str "queue", .str "first"])) := same_upd hq
        have e6 : (upd H5 q (.tup [.str "queue", .str "first"])) q = some (.tup [.str "queue", .str "first"]) := upd_same
        generalize upd H5 q (.tup [.str "queue", .str "first"]) = H6 at s6 e6 ⊢
        refine ⟨q, _, rfl, .inr (SqT.of e6), rfl, rfl, _, rfl, ?_⟩
        rw [if_neg (by decide), knS_qf]
        have s36 := s35.trans s6
        cases g : decide (knL (nx rds) L t i = .queue ∨ knL (nx rds) L t i = .first) with
        | false => exact iteF (iteF ⟨rfl, s36, fun z => of_decide_eq_false g z.1⟩)
        | true =>
          refine iteT ⟨_, rfl, _, rfl, a, ys, _, _, rfl, rfl, SqL.of (s36 _ _ ey), atI_nat e1, b, _, rfl, .inr (SqT.of (s36 _ _ eb)), rfl, _, rfl, ?_⟩
          rw [int_eqd, List.length_map]
          by_cases g2 : ((nx rds).getD i []).length = 1
          · rw [decide_eq_true (show ((((nx rds).getD i []).length : Nat) : Int) = 1 by omega)]
            exact iteF ⟨rfl, s36, fun z => z.2 g2⟩
          · rw [decide_eq_false (show ¬ ((((nx rds).getD i []).length : Nat) : Int) = 1 by omega)]
            exact iteT (bad H6 s36 (bad1 g g2))
      rintro σ' H6 ⟨rfl, s36, n1⟩
      refine ⟨_, rfl, rfl, _, rfl, ?_⟩
      rw [knS_first]
      have stay : ∀ H', Same H3 H' → ¬ (knL (nx rds) L t i = .first ∧ ¬ knL (nx rds) L t (((nx rds).getD i []).getD 0 0) = .second) → ∃ o5 o6 : Option V, ([some (.ref p), some (.ref l), some (.str (srt t)), some (.ref a), some (.ref D), some (.int (i : Nat)), some (.str (knS (knL (nx rds) L t i)))] : St) = [some (.ref p), some (.ref l), some (.str (srt t)), some (.ref a), some (.ref D), o5, o6] ∧ Same H3 H' ∧ ∀ j, j < i + 1 → badK (nx rds) L t j = false := fun H' s' n2 => ⟨_, _, rfl, s', fun j hj => by
        by_cases q : j < i
        · exact hb j q
        · obtain rfl : j = i := by omega
          exact bad0 n1 n2⟩
      cases g : decide (knL (nx rds) L t i = .first) with
      | false => exact iteF (iteF (stay H6 s36 fun z => of_decide_eq_false g z.1))
      | true =>
        have g := of_decide_eq_true g
        obtain ⟨f1, f2⟩ := first_has Tb g
        refine iteT ⟨_, rfl, _, rfl, _, rfl, a, ys, _, _, rfl, rfl, SqL.of (s36 _ _ ey), atI_nat e1, b, _, _, _, rfl, rfl, SqT.of (s36 _ _ eb), atI_nat (j := 0) (by rw [List.getElem?_map, f1]; rfl), D, _, _, _, rfl, rfl, SqL.of (s36 _ _ hD3), atI_nat (knV_at f2), rfl, _, rfl, ?_⟩
        rw [knS_second]
        cases g2 : decide (knL (nx rds) L t (((nx rds).getD i []).getD 0 0) = .second) with
        | true => exact iteF (stay H6 s36 fun z => z.2 (of_decide_eq_true g2))
        | false => exact iteT (bad H6 s36 (bad2 g (of_decide_eq_false g2)))
    · rintro σ' H4 ⟨o5, o6, rfl, s4, hb⟩
      refine ⟨_, rfl, D, _, rfl, .inl ⟨SqL.of (s4 _ _ hD3), fun q hq => ?_⟩⟩
      have s5 := same_upd (o := .tup (knV (nx rds) L t)) hq
      refine k (.ref q) _ ((sm.trans s4).trans s5) (.inr ⟨q, rfl, upd_same, kn_end Tb fun j hj => hb j ?_⟩)
      rw [knV_len]; exact hj
end
end Hc

set_option Elab.async false
set_option linter.all false
set_option maxRecDepth 100000
set_option maxHeartbeats 1000000
set_option autoImplicit false
namespace Hc
open PySem L2
def knD (A : List (List Nat)) (L : List Nat) (t : Bool) : PyData := .tuple ((List.range A.length).map fun j => .str (knS (knL A L t j)))
theorem lay_kns (f : Nat → Kn) : ∀ l : List Nat, PyData.canLayAll0 (l.map fun j => .str (knS (f j))) = true ∧ PyData.depthAll (l.map fun j => .str (knS (f j))) = 0
  | [] => ⟨rfl, rfl⟩
  | a :: l => by
    have ih := lay_kns f l
    have k : PyData.strOk (knS (f a)) = true := by cases f a <;> decide +kernel
    constructor
    · show (PyData.strOk (knS (f a)) && PyData.canLayAll0 (l.map fun j => .str (knS (f j)))) = true
      rw [ih.1, k]; rfl
    · show max 0 (PyData.depthAll (l.map fun j => .str (knS (f j)))) = 0
      rw [ih.2]; rfl
theorem lay_knD (A : List (List Nat)) (L : List Nat) (t : Bool) : (knD A L t).canLay0 = true := (lay_kns (knL A L t) _).1
theorem shaped_knD (A : List (List Nat)) (L : List Nat) (t : Bool) : SeqAt.shaped (knD A L t) = true := by
  have h := lay_kns (knL A L t) (List.range A.length)
  show (PyData.canLayAll0 ((List.range A.length).map fun j => .str (knS (knL A L t j))) && decide (PyData.depthAll ((List.range A.length).map fun j => .str (knS (knL A L t j))) + 1 ≤ 64)) = true
  rw [h.1, h.2]; rfl
theorem dpl_kns {K : PySem.W.Frag} {H : Hp} (f : Nat → Kn) : ∀ l : List Nat, DpAll K H (l.map fun j => V.str (knS (f j))) (l.map fun j => .str (knS (f j)))
  | [] => .nil
  | a :: l => .cons (.str _) (dpl_kns f l)
theorem dp_kn {K : PySem.W.Frag} {H : Hp} {p : Addr} {A : List (List Nat)} {L : List Nat} {t : Bool} (h : H p = some (.tup (knV A L t))) : Dp K H (.ref p) (knD A L t) := .tup (SqT.of h) (dpl_kns _ _)
def isStr : D → Bool | .str _ => true | _ => false
theorem rp_strs {H : Hp} {h : Addr} (f : Nat → Kn) : ∀ l : List Nat, RpA H h (l.map fun j => V.str (knS (f j))) (l.map fun j => D.str (knS (f j)))
  | [] => .nil
  | a :: l => .cons (.str _) (rp_strs f l)
theorem all_strs (f : Nat → Kn) (l : List Nat) : (l.map fun j => D.str (knS (f j))).all isStr = true := by
  rw [List.all_map, List.all_eq_true]
  intro x hx
  rfl
section
variable {P : Program} {w : World} {K : PySem.W.Frag} {mg : Str → Option Value} {base : Heap}
def spIsKinds (C : Addr) : Sp := fun vs H Q _ => ∃ (h p l : Addr) (n : Int) (rds : List D) (L : List Nat) (t : Bool) (v : V), vs = [.ref p, .ref l, .str (srt t), v] ∧ WebO C H h p n rds ∧ Rp H h (.ref l) (nD L) ∧ isLot rds (nD L) = true ∧ KnAt H v (nx rds) L t ∧
  ∀ H', Same H H' → Q (.bl (decide (placesL (nx rds) L t = []))) H'
theorem ok_is_kinds (T : Tx K mg) : FnOk P w K mg base (L2.CX P w) 7 T.is_kinds.f T.is_kinds.fd ["web", "lot", "sort", "thing"] (spIsKinds T.Web.C) := by
  refine T.is_kinds.F.okX sc_is_kinds (fun vs H Q E h => ?_) (fun cdv A outer s H vs Q E hr h => ?_)
  · obtain ⟨_, _, _, _, _, _, _, _, rfl, _⟩ := h
    rfl
  · obtain ⟨h, p, l, n, rds, L, t, v, rfl, W, r, e, kv, k⟩ := h
    have l24 := W.l2
    refine ⟨_, (pss_cons (ps_set (i := 4) sc_is_kinds.nd rfl (Or.inl rfl) (pe_call (ok_kinds T) (hr.mono (by decide)) rfl T.kinds.g T.kinds.F.kp T.kinds.b .nil passL (pa_cons (pv 0) (pa_cons (pv 1) (pa_cons (pv 2) pa_nil)))))
      (pss_one (ps_ret (pe_and (pe_cmpR op_notN (pv 4) pe_non (nomark _)) (pe_and (pe_callB call_isi (by rfl) T.n_isinstance (by decide +kernel) (pa_cons (pv 3) (pa_cons (pe_bltn (v := .ty "tuple") (by rfl) T.n_tuple (by decide +kernel) rfl) pa_nil))) (pe_and (pe_callB (cr_all rfl) (by rfl) T.n_all (by decide +kernel) (pa_cons (pe_lc (own := [("kind", 5)]) (g := (gName 5)) (tt := tYes) (te := (tCB (rIsi K) (tCons (tVar 5) (tCons (tC (.ty "str")) tNil)))) rfl sc_is_kinds.nd (pi_tup (pv 3)) (blkOk_by (own := [("kind", 5)]) (N := ["web", "lot", "sort", "thing", "found", "kind"]) (sc := defScope s_is_kinds) (by decide +kernel)) (fun _ _ _ _ _ => (pg_name (i := 5) sc_is_kinds.nd rfl (Or.inl rfl))) (fun _ _ _ _ _ => pts_nil) (fun _ _ _ _ _ => (by exact (pe_callB call_isi (by rfl) T.n_isinstance (by decide +kernel) (pa_cons (pv 5) (pa_cons (pe_bltn (v := .ty "str") (by rfl) T.n_str (by decide +kernel) rfl) pa_nil)))))) pa_nil)) (pe_one (pe_cmpR (op_eqD hr.units) (pv 3) (pv 4) (nomark _))))))))), ?_⟩
    refine ⟨_, rfl, _, rfl, _, rfl, h, p, l, n, rds, L, t, rfl, W, r, e, fun v1 H1 s1 k1 => ?_⟩
    rcases k1 with ⟨rfl, ne⟩ | ⟨q, rfl, eq, ep⟩
    · refine ⟨_, rfl, rfl, _, rfl, iteF ?_⟩
      have := k H1 s1
      rw [decide_eq_false ne] at this
      exact this
    rcases kv.nl (NL.of s1) with ⟨_, ne⟩ | ⟨q2, rfl, eq2, _⟩
    · exact absurd ep ne
    refine ⟨_, rfl, rfl, _, rfl, iteT ?_⟩
    refine ⟨_, rfl, _, _, _, _, _, rfl, .ty "tuple", .base (.tup eq2), kit_ty (show kitB "tuple" "tuple" = some true by decide +kernel), _, rfl, iteT ?_⟩
    refine ⟨_, rfl, _, rfl, ⟨_, SqT.of eq2⟩, fun A hA => all_tup (h := 0) eq2 (by rw [knV_len, nx_len]; omega) (rp_strs (knL (nx rds) L t) (List.range (nx rds).length)) isStr hA (fun x => rfl) (fun x d H' Q' hd _ rp kq => ?_) (fun H' sm sl => ?_)⟩
    · obtain ⟨j, _, rfl⟩ := List.mem_map.mp hd
      cases rp
      exact ⟨_, rfl, _, _, _, _, _, rfl, .ty "str", .base (.str _), kit_ty (show kitB "str" "str" = some true by decide +kernel), kq _ (Same.refl _)⟩
    · refine ⟨_, _, rfl, sl, _, rfl, ?_⟩
      rw [map_all, all_strs]
      refine iteT ⟨_, rfl, _, rfl, knD (nx rds) L t, knD (nx rds) L t, dp_kn (sm _ _ eq2), dp_kn (sm _ _ eq), shaped_knD _ _ _, shaped_knD _ _ _, ?_⟩
      rw [eqv_refl' (lay_knD _ _ _)]
      have := k H' (s1.trans sm)
      rw [decide_eq_true ep] at this
      exact this
theorem filt_lt {L l : List Nat} : decide (((l.filter fun b => !decide (b ∈ L)).length : Int) < (l.length : Int)) = l.any fun b => decide (b ∈ L) := by
  induction l with
  | nil => rfl
  | cons x l ih =>
    have hle := List.length_filter_le (fun b => !decide (b ∈ L)) l
    rw [List.filter_cons, List.any_cons, ← ih]
    by_cases g : x ∈ L
    · rw [decide_eq_true g, if_neg (by decide), Bool.true_or, List.length_cons]
      exact decide_eq_true (by omega)
    · rw [decide_eq_false g, if_pos (show (!false) = true from rfl), Bool.false_or, List.length_cons, List.length_cons]
      by_cases q : ((l.filter fun b => !decide (b ∈ L)).length : Int) < (l.length : Int)
      · rw [decide_eq_true q, decide_eq_true]
        omega
      · rw [decide_eq_false q, decide_eq_false]
        omega
theorem filt_pos {L l : List Nat} : decide ((0 : Int) < ((l.filter fun b => !decide (b ∈ L)).length : Int)) = l.any fun b => !decide (b ∈ L) := by
  induction l with
  | nil => rfl
  | cons x l ih =>
    rw [List.filter_cons, List.any_cons, ← ih]
    by_cases g : x ∈ L
    · rw [decide_eq_true g, if_neg (by decide)]; rfl
    · rw [decide_eq_false g, if_pos (show (!false) = true from rfl), Bool.not_false, Bool.true_or, List.length_cons]
      exact decide_eq_true (by omega)
def spLawKind : Sp := fun vs H Q _ => ∃ (h c a l : Addr) (A : List (List Nat)) (L : List Nat) (t : Bool) (r : Nat), vs = [.ref a, .ref l, .str (srt t), .int (r : Nat)] ∧ NxL H h c a A ∧ LotAt H l L ∧ Tab A ∧ r < A.length ∧
  ∀ H', Same H H' → Q (.str (knS (knL A L t r))) H'
theorem ok__law_kind (T : Tx K mg) : FnOk P w K mg base CX0 1 T._law_kind.f T._law_kind.fd ["_law_nexts_here", "_law_lot_here", "_law_sort", "_law_road"] spLawKind := by
  refine T._law_kind.F.ok sc_law_kind (fun vs H Q E h => ?_) (fun cdv A outer s H vs Q E hr h => ?_)
  · obtain ⟨_, _, _, _, _, _, _, _, rfl, _⟩ := h
    rfl
  · obtain ⟨h, c, a, l, A, L, t, r, rfl, hA, hl, Tb, hr', k⟩ := h
    obtain ⟨_, _, xs, ea, lx, at_⟩ := id hA
    obtain ⟨b, e1, eb, _, _⟩ := at_ r hr'
    refine ⟨_, (pss_cons (ps_if (pt_cmpR op_in_seq (pv 3) (pv 1) (by rfl))
      (pss_one (ps_ret pe_str))
      pss_nil)
      (pss_cons (ps_if (pt_cmpR op_eq (pe_callB call_len_seq (by rfl) T.n_len (by decide +kernel) (pa_cons (pe_ix ix_list (pv 0) (pv 3) (fun _ _ => rfl)) pa_nil)) pe_int (nomark _))
      (pss_one (ps_ret pe_str))
      pss_nil)
      (pss_cons (ps_setLc (i := 4) (own := [("_law_later", 6)]) (g := (gName 6))  (tt := (tTest (tOp rGtS (tCB (rLenS K) (tCons (tOp (rIxL K) (tVar 0) (tVar 6)) tNil)) (tC (.int 0))))) rfl sc_law_kind.nd rfl rfl (sw_true rfl rfl rfl (by decide +kernel)) (pi_list (pe_ix ix_list (pv 0) (pv 3) (fun _ _ => rfl))) (blkOk_by (own := [("_law_later", 6)]) (N := ["_law_nexts_here", "_law_lot_here", "_law_sort", "_law_road", "_law_leading", "_law_silent", "_law_later"]) (sc := defScope s_law_kind) (by decide +kernel)) (fun _ _ _ _ _ => (pg_name (i := 6) sc_law_kind.nd rfl (Or.inl rfl))) (fun _ _ _ _ _ => (pts_one (by exact (pt_cmpR op_gt (pe_callB call_len_seq (by rfl) T.n_len (by decide +kernel) (pa_cons (pe_ix ix_list (pv 0) (pv 6) (fun _ _ => rfl)) pa_nil)) pe_int (nomark _))))) (fun _ _ _ _ _ => (by exact (pv 6))))
      (pss_cons (ps_setLc (i := 5) (own := [("_law_later", 6)]) (g := (gName 6))  (tt := (tTest (tOp (rIn K true) (tVar 6) (tVar 1)))) rfl sc_law_kind.nd rfl rfl (sw_true rfl rfl rfl (by decide +kernel)) (pi_list (pv 4)) (blkOk_by (own := [("_law_later", 6)]) (N := ["_law_nexts_here", "_law_lot_here", "_law_sort", "_law_road", "_law_leading", "_law_silent", "_law_later"]) (sc := defScope s_law_kind) (by decide +kernel)) (fun _ _ _ _ _ => (pg_name (i := 6) sc_law_kind.nd rfl (Or.inl rfl))) (fun _ _ _ _ _ => (pts_one (by exact (pt_cmpR op_notIn_seq (pv 6) (pv 1) (by rfl))))) (fun _ _ _ _ _ => (by exact (pv 6))))
      (C8.pss_cut (ps_if (PW.pt (pw_and (pt_cmpR op_eq (pv 2) pe_str (nomark _)) (pw_and1 (pt_cmpR op_lt (pe_callB call_len_seq (by rfl) T.n_len (by decide +kernel) (pa_cons (pv 5) pa_nil)) (pe_callB call_len_seq (by rfl) T.n_len (by decide +kernel) (pa_cons (pv 4) pa_nil)) (nomark _)))))
      (pss_one (ps_ret pe_str))
      pss_nil)
      (pss_one (ps_ret (pe_ix ix_list (pe_lst (pa_cons pe_str (pa_cons pe_str pa_nil))) (pe_callTy call_int1 (by rfl) T.n_int (by decide +kernel) (pa_cons (pe_cmpR op_gt (pe_callB call_len_seq (by rfl) T.n_len (by decide +kernel) (pa_cons (pv 5) pa_nil)) pe_int (nomark _)) pa_nil)) (fun _ _ => rfl))))))))), ?_⟩
    refine ⟨_, rfl, _, rfl, l, _, rfl, hl.sq, rfl, flat_nat L, _, rfl, ?_⟩
    rw [if_neg (by decide), in_nat]
    by_cases g1 : r ∈ L
    · rw [decide_eq_true g1]
      have e : knL A L t r = .told := by unfold knL; rw [if_pos g1]
      rw [e] at k
      exact iteT (k H (Same.refl _))
    rw [decide_eq_false g1]
    refine iteF ⟨_, rfl, _, rfl, a, xs, _, _, rfl, rfl, SqL.of ea, atI_nat e1, b, _, rfl, .inl (SqL.of eb), rfl, _, rfl, ?_⟩
    rw [int_eqd, List.length_map]
    by_cases g2 : (A.getD r []).length = 0
    · rw [decide_eq_true (show (((A.getD r []).length : Nat) : Int) = 0 by omega)]
      have e : knL A L t r = .last := by unfold knL; rw [if_neg g1, if_pos g2]
      rw [e] at k
      exact iteT (k H (Same.refl _))
    rw [decide_eq_false (show ¬ (((A.getD r []).length : Nat) : Int) = 0 by omega)]
    refine iteF ⟨_, rfl, _, rfl, a, xs, _, _, rfl, rfl, SqL.of ea, atI_nat e1, b, rfl, ⟨_, SqL.of eb⟩, fun D hD => ?_⟩
    refine lc_fl (j := 6) (fun m => decide (0 < (A.getD m []).length)) eb (by have := Tb.row r; omega) hD ?_ ?_ ?_ ?_
    · exact fun x => rfl
    · intro m hm H' Q' s' kq
      obtain ⟨b2, e2, eb2, _, _⟩ := at_ m (Tb.inn r m hm)
      refine ⟨_, rfl, _, rfl, a, xs, _, _, rfl, rfl, SqL.of (s' _ _ ea), atI_nat e2, b2, _, rfl, .inl (SqL.of (s' _ _ eb2)), _, _, rfl, rfl, _, rfl, ?_⟩
      rw [List.length_map]
      by_cases g : 0 < (A.getD m []).length
      · rw [decide_eq_true g] at kq
        rw [decide_eq_true (show (0 : Int) < ((A.getD m []).length : Int) by omega)]
        exact kq
      · rw [decide_eq_false g] at kq
        rw [decide_eq_false (show ¬ (0 : Int) < ((A.getD m []).length : Int) by omega)]
        exact kq
    · exact fun m hm H' Q' kq => ⟨_, rfl, kq⟩
    intro H1 s1 hD1
    have hD1 : H1 D = some (.lst ((goN A r).map fun j => V.int (j : Nat))) := hD1
    have g24 := go_len Tb r
    refine ⟨_, rfl, D, rfl, ⟨_, SqL.of hD1⟩, fun D2 hD2 => ?_⟩
    refine lc_fl (j := 6) (fun m => !decide (m ∈ L)) hD1 (by omega) hD2 ?_ ?_ ?_ ?_
    · exact fun x => rfl
    · intro m hm H' Q' s' kq
      refine ⟨_, rfl, _, rfl, l, _, rfl, (hl.same (s1.trans s')).sq, rfl, flat_nat L, _, rfl, ?_⟩
      rw [if_pos rfl, in_nat]
      exact kq
    · exact fun m hm H' Q' kq => ⟨_, rfl, kq⟩
    intro H2 s2 hD3
    have hD12 := s2 _ _ hD1
    refine ⟨fun σ' H' => σ' = [some (.ref a), some (.ref l), some (.str (srt t)), some (.int (r : Nat)), some (.ref D), some (.ref D2), none] ∧ Same H2 H' ∧ ¬ (t && (goN A r).any fun b => decide (b ∈ L)) = true, ?_, ?_⟩
    · refine ⟨_, rfl, rfl, _, rfl, ?_⟩
      rw [srt_eq]
      cases t with
      | false => exact iteF (iteF ⟨rfl, Same.refl _, by simp⟩)
      | true =>
        refine iteT ⟨_, rfl, D2, _, rfl, .inl (SqL.of hD3), _, rfl, D, _, rfl, .inl (SqL.of hD12), _, _, rfl, rfl, _, rfl, ?_⟩
        rw [List.length_map, List.length_map, filt_lt]
        cases g : (goN A r).any fun b => decide (b ∈ L) with
        | true =>
          have e : knL A L true r = .queue := by unfold knL; rw [if_neg g1, if_neg g2, if_pos (by rw [g]; rfl)]
          rw [e] at k
          exact iteT (k H2 (s1.trans s2))
        | false => exact iteF ⟨rfl, Same.refl _, by decide⟩
    rintro σ' H3 ⟨rfl, s3, g3⟩
    refine ⟨by show 2 ≤ sizeLine; decide, fun q hq => ?_⟩
    have s4 : Same H3 (upd H3 q (.lst [.str "second", .str "first"])) := same_upd hq
    have e4 : (upd H3 q (.lst [.str "second", .str "first"])) q = some (.lst [.str "second", .str "first"]) := upd_same
    generalize upd H3 q (.lst [.str "second", .str "first"]) = H4 at s4 e4 ⊢
    refine ⟨_, rfl, D2, _, rfl, .inl (SqL.of (s4 _ _ (s3 _ _ hD3))), _, _, rfl, rfl, .inr ⟨_, rfl, ?_⟩⟩
    rw [List.length_map, filt_pos]
    have sm := ((s1.trans s2).trans s3).trans s4
    cases g : (goN A r).any fun b => !decide (b ∈ L) with
    | true =>
      have e : knL A L t r = .first := by unfold knL; rw [if_neg g1, if_neg g2, if_neg g3, if_pos g]
      rw [e] at k
      exact ⟨q, _, 1, _, rfl, rfl, SqL.of e4, atI_nat (j := 1) rfl, k H4 sm⟩
    | false =>
      have e : knL A L t r = .second := by unfold knL; rw [if_neg g1, if_neg g2, if_neg g3, if_neg (by rw [g]; decide)]
      rw [e] at k
      exact ⟨q, _, 0, _, rfl, rfl, SqL.of e4, atI_nat (j := 0) rfl, k H4 sm⟩
def spLawKinds : Sp := fun vs H Q _ => ∃ (h c a l : Addr) (A : List (List Nat)) (L : List Nat) (t : Bool), vs = [.ref a, .ref l, .str (srt t)] ∧ NxL H h c a A ∧ LotAt H l L ∧ Tab A ∧
  ∀ v H', Same H H' → KnAt H' v A L t → Q v H'
theorem ok__law_kinds (T : Tx K mg) : FnOk P w K mg base CX0 2 T._law_kinds.f T._law_kinds.fd ["_law_nexts_here", "_law_lot_here", "_law_sort"] spLawKinds := by
  refine T._law_kinds.F.ok sc_law_kinds (fun vs H Q E h => ?_) (fun cdv A outer s H vs Q E hr h => ?_)
  · obtain ⟨_, _, _, _, _, _, _, rfl, _⟩ := h
    rfl
  · obtain ⟨h, c, a, l, A, L, t, rfl, hA, hl, Tb, k⟩ := h
    obtain ⟨_, _, ys, ea, lx, at_⟩ := id hA
    have sz := Tb.sz
    refine ⟨_, (pss_cons (ps_setLc (i := 3) (own := [("_law_road", 4)]) (g := (gName 4)) (tt := tYes) rfl sc_law_kinds.nd rfl rfl (sw_true rfl rfl rfl (by decide +kernel)) (pi_range1 (by rfl) T.n_range (pa_cons (pe_callB call_len_seq (by rfl) T.n_len (by decide +kernel) (pa_cons (pv 0) pa_nil)) pa_nil)) (blkOk_by (own := [("_law_road", 4)]) (N := ["_law_nexts_here", "_law_lot_here", "_law_sort", "_law_found", "_law_road"]) (sc := defScope s_law_kinds) (by decide +kernel)) (fun _ _ _ _ _ => (pg_name (i := 4) sc_law_kinds.nd rfl (Or.inl rfl))) (fun _ _ _ _ _ => pts_nil) (fun _ _ _ _ _ => (by exact (pe_call (ok__law_kind T) (hr.mono (by decide)) rfl T._law_kind.g T._law_kind.F.kp T._law_kind.b .nil pass0 (pa_cons (pv 0) (pa_cons (pv 1) (pa_cons (pv 2) (pa_cons (pv 4) pa_nil))))))))
      (pss_cons (ps_for PassesOwn.never rfl (pi_range1 (by rfl) T.n_range (pa_cons (pe_callB call_len_seq (by rfl) T.n_len (by decide +kernel) (pa_cons (pv 0) pa_nil)) pa_nil)) (pg_name (i := 4) sc_law_kinds.nd rfl (Or.inl rfl))
      (C8.pss_cut (ps_if (PW.pt (pw_and (pt_cmpR op_in_seq (pe_ix ix_list (pv 3) (pv 4) (fun _ _ => rfl)) (pe_lst (pa_cons pe_str (pa_cons pe_str pa_nil))) (by rfl)) (pw_and1 (pt_cmpR op_ne (pe_callB call_len_seq (by rfl) T.n_len (by decide +kernel) (pa_cons (pe_ix ix_list (pv 0) (pv 4) (fun _ _ => rfl)) pa_nil)) pe_int (nomark _)))))
      (pss_one (ps_ret pe_non))
      pss_nil)
      (pss_one (ps_if (PW.pt (pw_and (pt_cmpR op_eq (pe_ix ix_list (pv 3) (pv 4) (fun _ _ => rfl)) pe_str (nomark _)) (pw_and1 (pt_cmpR op_ne (pe_ix ix_list (pv 3) (pe_ix ix_list (pe_ix ix_list (pv 0) (pv 4) (fun _ _ => rfl)) pe_int (fun _ _ => rfl)) (fun _ _ => rfl)) pe_str (nomark _)))))
      (pss_one (ps_ret pe_non))
      pss_nil))))
      (pss_one (ps_ret (pe_callTy call_tuple_of (by rfl) T.n_tuple (by decide +kernel) (pa_cons (pv 3) pa_nil)))))), ?_⟩
    refine ⟨_, rfl, a, _, rfl, .inl (SqL.of ea), (ys.length : Int), rfl, by omega, by omega, fun D hD => ?_⟩
    have hn : (ys.length : Int).toNat = A.length := by omega
    refine lc_range (lo := 0) (n := (ys.length : Int).toNat) (fun i H' => Same H H' ∧ H' D = some (.lst ((List.range i).map fun j => V.str (knS (knL A L t j)))))
      ⟨same_upd hD, upd_same⟩ ?_ ?_
    · rintro i H' hi ⟨s, hd⟩
      refine ⟨rfl, tyes ⟨_, rfl, _, rfl, _, rfl, _, rfl, h, c, a, l, A, L, t, i, by rw [Int.zero_add]; rfl, hA.same s, hl.same s, Tb, by omega, fun H3 s3 => ⟨_, s3 _ _ hd, ?_, fun b o q => ?_, ?_⟩⟩⟩
      · rw [List.length_map, List.length_range]; exact line_lt (by omega)
      · rw [upd_ne (ne_of_none q hD)]; exact s3 _ _ (s _ _ q)
      · rw [upd_same, List.range_succ, List.map_append]; rfl
    rintro H3 ⟨s3, hD3⟩
    rw [hn] at hD3
    have hD3 : H3 D = some (.lst (knV A L t)) := hD3
    refine ⟨_, rfl, a, _, rfl, .inl (SqL.of (s3 _ _ ea)), (ys.length : Int), rfl, by omega, by omega, for_range (lo := 0) (n := (ys.length : Int).toNat) (fun i σ' H' => ∃ o4 : Option V, σ' = [some (.ref a), some (.ref l), some (.str (srt t)), some (.ref D), o4] ∧ Same H3 H' ∧ ∀ j, j < i → badK A L t j = false)
      ⟨_, rfl, Same.refl _, fun j hj => absurd hj (Nat.not_lt_zero _)⟩ ?_ ?_⟩
    · rintro i σ' H4 hi ⟨o4, rfl, s4, hb⟩
      have hi : i < A.length := by omega
      obtain ⟨b, e1, eb, _, _⟩ := at_ i hi
      have bad : ∀ H', Same H3 H' → badK A L t i = true → Q .non H' := fun H' s' z => k .non H' (s3.trans s') (.inl ⟨rfl, (first_fact Tb).mp ⟨i, hi, z⟩⟩)
      refine ⟨fun σ' H' => σ' = [some (.ref a), some (.ref l), some (.str (srt t)), some (.ref D), some (.int (0 + (i : Int)))] ∧ Same H3 H' ∧ ¬ ((knL A L t i = .queue ∨ knL A L t i = .first) ∧ ¬ (A.getD i []).length = 1), ?_, ?_⟩
      · refine ⟨_, rfl, _, rfl, D, _, _, _, rfl, rfl, SqL.of (s4 _ _ hD3), at_of (by omega) (knV_at hi), by show 2 ≤ sizeLine; decide, fun q hq => ?_⟩
        have s6 : Same H4 (upd H4 q (.lst [.str "queue", .str "first"])) := same_upd hq
        have e6 : (upd H4 q (.lst [.str "queue", .str "first"])) q = some (.lst [.str "queue", .str "first"]) := upd_same
        generalize upd H4 q (.lst [.str "queue", .str "first"]) = H6 at s6 e6 ⊢
        refine ⟨q, _, rfl, .inl (SqL.of e6), rfl, rfl, _, rfl, ?_⟩
        rw [if_neg (by decide), knS_qf]
        have s36 := s4.trans s6
        cases g : decide (knL A L t i = .queue ∨ knL A L t i = .first) with
        | false => exact iteF (iteF ⟨rfl, s36, fun z => of_decide_eq_false g z.1⟩)
        | true =>
          refine iteT ⟨_, rfl, _, rfl, a, ys, _, _, rfl, rfl, SqL.of (s36 _ _ (s3 _ _ ea)), at_of (by omega) e1, b, _, rfl, .inl (SqL.of (s36 _ _ (s3 _ _ eb))), rfl, _, rfl, ?_⟩
          rw [int_eqd, List.length_map]
          by_cases g2 : (A.getD i []).length = 1
          · rw [decide_eq_true (show (((A.getD i []).length : Nat) : Int) = 1 by omega)]
            exact iteF ⟨rfl, s36, fun z => z.2 g2⟩
          · rw [decide_eq_false (show ¬ (((A.getD i []).length : Nat) : Int) = 1 by omega)]
            exact iteT (bad H6 s36 (bad1 g g2))
      rintro σ' H6 ⟨rfl, s36, n1⟩
      refine ⟨_, rfl, _, rfl, D, _, _, _, rfl, rfl, SqL.of (s36 _ _ hD3), at_of (by omega) (knV_at hi), rfl, _, rfl, ?_⟩
      rw [knS_first]
      have stay : ∀ H', Same H3 H' → ¬ (knL A L t i = .first ∧ ¬ knL A L t ((A.getD i []).getD 0 0) = .second) → ∃ o4 : Option V, ([some (.ref a), some (.ref l), some (.str (srt t)), some (.ref D), some (.int (0 + (i : Int)))] : St) = [some (.ref a), some (.ref l), some (.str (srt t)), some (.ref D), o4] ∧ Same H3 H' ∧ ∀ j, j < i + 1 → badK A L t j = false := fun H' s' n2 => ⟨_, rfl, s', fun j hj => by
        by_cases q : j < i
        · exact hb j q
        · obtain rfl : j = i := by omega
          exact bad0 n1 n2⟩
      cases g : decide (knL A L t i = .first) with
      | false => exact iteF (iteF (stay H6 s36 fun z => of_decide_eq_false g z.1))
      | true =>
        have g := of_decide_eq_true g
        obtain ⟨f1, f2⟩ := first_has Tb g
        refine iteT ⟨_, rfl, _, rfl, _, rfl, a, ys, _, _, rfl, rfl, SqL.of (s36 _ _ (s3 _ _ ea)), at_of (by omega) e1, b, _, _, _, rfl, rfl, SqL.of (s36 _ _ (s3 _ _ eb)), atI_nat (j := 0) (by rw [List.getElem?_map, f1]; rfl), D, _, _, _, rfl, rfl, SqL.of (s36 _ _ hD3), atI_nat (knV_at f2), rfl, _, rfl, ?_⟩
        rw [knS_second]
        cases g2 : decide (knL A L t ((A.getD i []).getD 0 0) = .second) with
        | true => exact iteF (stay H6 s36 fun z => z.2 (of_decide_eq_true g2))
        | false => exact iteT (bad H6 s36 (bad2 g (of_decide_eq_false g2)))
    · rintro σ' H4 ⟨o4, rfl, s4, hb⟩
      refine ⟨_, rfl, D, _, rfl, .inl ⟨SqL.of (s4 _ _ hD3), fun q hq => ?_⟩⟩
      have s5 := same_upd (o := .tup (knV A L t)) hq
      exact k (.ref q) _ ((s3.trans s4).trans s5) (.inr ⟨q, rfl, upd_same, kn_end Tb fun j hj => hb j (by omega)⟩)
end
end Hc

set_option Elab.async false
set_option linter.all false
set_option maxRecDepth 100000
set_option maxHeartbeats 1000000
set_option autoImplicit false
namespace Hc
open PySem L2
theorem cut_last {xs : List V} : cutV xs none (some (-1)) = xs.take (xs.length - 1) := by
  have s1 : HT.sIx xs.length 0 none = 0 := rfl
  have s2 : HT.sIx xs.length xs.length (some (-1)) = xs.length - 1 := by
    show (if (-1 : Int) < 0 then ((-1 : Int) + (xs.length : Int)).toNat else min (-1 : Int).toNat xs.length) = _
    rw [if_pos (by decide)]; omega
  unfold cutV
  rw [s1, s2, List.drop_zero, Nat.sub_zero]
theorem slLast {K : PySem.W.Frag} {H : Hp} {a : Addr} {xs : List V} {Q : VK} (e : H a = some (.tup xs)) (k : ∀ b H', Same H H' → H' b = some (.tup (xs.take (xs.length - 1))) → Q (.ref b) H') : rSlA K (.ref a) none (some (-1)) H Q := by
  have s1 : HT.sIx xs.length 0 none = 0 := rfl
  have s2 : HT.sIx xs.length xs.length (some (-1)) = xs.length - 1 := by
    show (if (-1 : Int) < 0 then ((-1 : Int) + (xs.length : Int)).toNat else min (-1 : Int).toNat xs.length) = _
    rw [if_pos (by decide)]; omega
  refine ⟨a, xs, rfl, SqT.of e, fun hw => ?_, fun _ p hp => ?_⟩
  · have h0 : xs.length = 0 := by
      rw [s2] at hw; omega
    have : xs = [] := List.eq_nil_of_length_eq_zero h0
    subst this
    exact k a H (Same.refl H) e
  · exact k p _ (same_upd hp) (by rw [upd_same, cut_last])
section
variable {P : Program} {w : World} {K : PySem.W.Frag} {mg : Str → Option Value} {base : Heap}
def spSome : Sp := fun vs H Q _ => ∃ (h c b : Addr) (xs : List V), vs = [.ref h, .ref b] ∧ PoolAt H h c ∧ H b = some (.lst xs) ∧ b ≠ h ∧ b ≠ c ∧ 0 < xs.length ∧ xs.length < 1000000 ∧
  ∀ (i : Nat) (x : V) H', xs[i]? = some x → PoolAt H' h c → Bt h c H H' → Q x H'
theorem ok__law_some (T : Tx K mg) : FnOk P w K mg base CX0 2 T._law_some.f T._law_some.fd ["_law_pool_here", "_law_things"] spSome := by
  refine T._law_some.F.ok sc_law_some (fun vs H Q E h => ?_) (fun cdv A outer s H vs Q E hr h => ?_)
  · obtain ⟨_, _, _, _, rfl, _⟩ := h
    rfl
  · obtain ⟨h, c, b, xs, rfl, hP, e, n1, n2, l0, l1, k⟩ := h
    refine ⟨_, (pss_one (ps_ret (pe_ix ix_list (pv 1) (pe_call (ok__law_draw T) (hr.mono (by decide)) rfl T._law_draw.g T._law_draw.F.kp T._law_draw.b .nil pass0 (pa_cons (pv 0) (pa_cons (pe_callB call_len_seq (by rfl) T.n_len (by decide +kernel) (pa_cons (pv 1) pa_nil)) pa_nil))) (fun _ _ => rfl)))), ?_⟩
    refine ⟨_, rfl, _, rfl, _, rfl, b, _, rfl, .inl (SqL.of e), h, c, (xs.length : Int), rfl, hP, by omega, by omega, fun x H2 x0 x1 p2 b2 => ?_⟩
    have hx : x.toNat < xs.length := by omega
    have ex := List.getElem?_eq_getElem hx
    exact ⟨b, xs, x, _, rfl, rfl, SqL.of (b2 _ _ e n1 n2), at_of (show x = (x.toNat : Int) by omega) ex, k _ _ H2 ex p2 b2⟩
def spEnoughLot : Sp := fun vs H Q _ => ∃ (h c a : Addr) (A : List (List Nat)) (t : Bool), vs = [.ref h, .ref a, .str (srt t)] ∧ PoolAt H h c ∧ NxL H h c a A ∧ Tab A ∧
  ∀ v L H', PoolAt H' h c → Bt h c H H' → Rp H' 0 v (nD L) → (∀ j ∈ L, j < A.length) → L.Pairwise (· < ·) → placesL A L t = [] → Q v H'
/-- the told roads at TL -/
structure ToldAt (H0 H : Hp) (h c TL : Addr) (A : List (List Nat)) (L : List Nat) : Prop where
  p : PoolAt H h c
  b : Bt h c H0 H
  e : H TL = some (.lst (L.map fun j => V.int (j : Nat)))
  n1 : TL ≠ h
  n2 : TL ≠ c
theorem ok__law_enough_lot (T : Tx K mg) : FnOk P w K mg base CX0 3 T._law_enough_lot.f T._law_enough_lot.fd ["_law_pool_here", "_law_nexts_here", "_law_sort"] spEnoughLot := by
  refine T._law_enough_lot.F.ok sc_law_enough_lot (fun vs H Q E h => ?_) (fun cdv A outer s H vs Q E hr h => ?_)
  · obtain ⟨_, _, _, _, _, rfl, _⟩ := h
    rfl
  · obtain ⟨h, c, a, A, t, rfl, hP, hA, Tb, k⟩ := h
    obtain ⟨_, _, ys, ea, lx, _⟩ := id hA
    have sz := Tb.sz
    refine ⟨_, (pss_cons (ps_set (i := 3) sc_law_enough_lot.nd rfl (Or.inr rfl) (pe_lst pa_nil))
      (C8.pss_cut (ps_for PassesOwn.never rfl (pi_range1 (by rfl) T.n_range (pa_cons (pe_op op_add (pe_callB call_len_seq (by rfl) T.n_len (by decide +kernel) (pa_cons (pv 1) pa_nil)) pe_int) pa_nil)) (pg_name (i := 4) sc_law_enough_lot.nd rfl (Or.inl rfl))
      (pss_cons (ps_set (i := 5) sc_law_enough_lot.nd rfl (Or.inl rfl) (pe_call (ok__law_bad T) (hr.mono (by decide)) rfl T._law_bad.g T._law_bad.F.kp T._law_bad.b .nil pass0 (pa_cons (pv 1) (pa_cons (pv 3) (pa_cons (pv 2) pa_nil)))))
      (pss_cons (ps_if (pt_cmpR (op_eqD hr.units) (pv 5) (pe_lst pa_nil) (nomark _))
      (pss_one ps_break)
      pss_nil)
      (pss_cons (ps_set (i := 6) sc_law_enough_lot.nd rfl (Or.inl rfl) (pe_slice sl_tupA (pe_call (ok__law_some T) (hr.mono (by decide)) rfl T._law_some.g T._law_some.F.kp T._law_some.b .nil pass0 (pa_cons (pv 0) (pa_cons (pv 5) pa_nil))) (po_some pe_int) po_none))
      (C8.pss_cut (ps_if (pt_cmpR op_eq (pv 2) pe_str (nomark _))
      (pss_one (ps_set (i := 6) sc_law_enough_lot.nd rfl (Or.inl rfl) (pe_slice sl_tupA (pv 6) po_none (po_some (pe_un un_neg pe_int)))))
      pss_nil)
      (pss_one (ps_expr (pe_bm PySem.F.plainAttrs_list PySem.F.slot_list_append PySem.F.type_list_append mt_append (pv 3) (pa_cons (pe_call (ok__law_some T) (hr.mono (by decide)) rfl T._law_some.g T._law_some.F.kp T._law_some.b .nil pass0 (pa_cons (pv 0) (pa_cons (pe_lc (own := [("_law_road", 8)]) (g := (gName 8))  (tt := (tTest (tOp (rIn K true) (tVar 8) (tVar 3)))) rfl sc_law_enough_lot.nd (pi_tup (pv 6)) (blkOk_by (own := [("_law_road", 8)]) (N := ["_law_pool_here", "_law_nexts_here", "_law_sort", "_law_told", "_law_turn", "_law_places", "_law_place", "_law_more", "_law_road"]) (sc := defScope s_law_enough_lot) (by decide +kernel)) (fun _ _ _ _ _ => (pg_name (i := 8) sc_law_enough_lot.nd rfl (Or.inl rfl))) (fun _ _ _ _ _ => (pts_one (by exact (pt_cmpR op_notIn_seq (pv 8) (pv 3) (by rfl))))) (fun _ _ _ _ _ => (by exact (pv 8)))) pa_nil))) pa_nil)))))))))
      (C8.pss_cut (ps_if (pt_cmpR op_eq (pe_call (ok__law_draw T) (hr.mono (by decide)) rfl T._law_draw.g T._law_draw.F.kp T._law_draw.b .nil pass0 (pa_cons (pv 0) (pa_cons pe_int pa_nil))) pe_int (nomark _))
      (pss_cons (ps_setLc (i := 7) (own := [("_law_road", 8)]) (g := (gName 8))  rfl sc_law_enough_lot.nd rfl rfl (sw_true rfl rfl rfl (by decide +kernel)) (pi_range1 (by rfl) T.n_range (pa_cons (pe_callB call_len_seq (by rfl) T.n_len (by decide +kernel) (pa_cons (pv 1) pa_nil)) pa_nil)) (blkOk_by (own := [("_law_road", 8)]) (N := ["_law_pool_here", "_law_nexts_here", "_law_sort", "_law_told", "_law_turn", "_law_places", "_law_place", "_law_more", "_law_road"]) (sc := defScope s_law_enough_lot) (by decide +kernel)) (fun _ _ _ _ _ => (pg_name (i := 8) sc_law_enough_lot.nd rfl (Or.inl rfl))) (fun _ _ _ _ _ => (pts_one (by exact (pt_cmpR op_eq (pe_call (ok__law_draw T) (hr.mono (by decide)) rfl T._law_draw.g T._law_draw.F.kp T._law_draw.b .nil pass0 (pa_cons (pv 0) (pa_cons pe_int pa_nil))) pe_int (nomark _))))) (fun _ _ _ _ _ => (by exact (pv 8))))
      (pss_one (ps_if (pt_cmpR (op_eqD hr.units) (pe_call (ok__law_bad T) (hr.mono (by decide)) rfl T._law_bad.g T._law_bad.F.kp T._law_bad.b .nil pass0 (pa_cons (pv 1) (pa_cons (pe_op op_cat (pv 3) (pv 7)) (pa_cons (pv 2) pa_nil)))) (pe_lst pa_nil) (nomark _))
      (pss_one (ps_set (i := 3) sc_law_enough_lot.nd rfl (Or.inr rfl) (pe_op op_cat (pv 3) (pv 7))))
      pss_nil)))
      pss_nil)
      (pss_one (ps_ret (pe_callTy call_tuple_of (by rfl) T.n_tuple (by decide +kernel) (pa_cons (pe_lc (own := [("_law_road", 8)]) (g := (gName 8))  (tt := (tTest (tOp (rIn K false) (tVar 8) (tVar 3)))) rfl sc_law_enough_lot.nd (pi_range1 (by rfl) T.n_range (pa_cons (pe_callB call_len_seq (by rfl) T.n_len (by decide +kernel) (pa_cons (pv 1) pa_nil)) pa_nil)) (blkOk_by (own := [("_law_road", 8)]) (N := ["_law_pool_here", "_law_nexts_here", "_law_sort", "_law_told", "_law_turn", "_law_places", "_law_place", "_law_more", "_law_road"]) (sc := defScope s_law_enough_lot) (by decide +kernel)) (fun _ _ _ _ _ => (pg_name (i := 8) sc_law_enough_lot.nd rfl (Or.inl rfl))) (fun _ _ _ _ _ => (pts_one (by exact (pt_cmpR op_in_seq (pv 8) (pv 3) (by rfl))))) (fun _ _ _ _ _ => (by exact (pv 8)))) pa_nil))))))), ?_⟩
    refine ⟨by show 0 ≤ sizeLine; decide, fun TL hTL => ?_⟩
    obtain ⟨t1, t2⟩ := hP.ne hTL
    have sTL : Same H (upd H TL (.lst [])) := same_upd hTL
    refine ⟨fun σ' H' => ∃ (o4 o5 o6 : Option V) (L : List Nat), σ' = [some (.ref h), some (.ref a), some (.str (srt t)), some (.ref TL), o4, o5, o6, none, none] ∧ ToldAt H H' h c TL A L ∧ placesL A L t = [] ∧ L.length ≤ 24, ?_, ?_⟩
    · refine ⟨_, rfl, a, _, rfl, .inl (SqL.of (sTL _ _ ea)), _, _, rfl, rfl, (ys.length : Int) + 1, rfl, by omega, by omega, ?_⟩
      refine for_range (lo := 0) (n := ((ys.length : Int) + 1).toNat) (fun i σ' H' => ∃ (o4 o5 o6 : Option V) (L : List Nat), σ' = [some (.ref h), some (.ref a), some (.str (srt t)), some (.ref TL), o4, o5, o6, none, none] ∧ ToldAt H H' h c TL A L ∧ L.Nodup ∧ (∀ x ∈ L, x < A.length) ∧ L.length = i)
        ⟨_, _, _, [], rfl, ⟨hP.upd t1 t2, (Bt.refl h c H).upd hTL, upd_same, t1, t2⟩, List.nodup_nil, fun _ z => (nomatch z), rfl⟩ ?_ ?_
      · rintro i σ' H1 hi ⟨o4, o5, o6, L, rfl, t0, d0, m0, l0⟩
        have l24 := nodup_le A.length L d0 m0
        refine ⟨_, rfl, _, rfl, _, rfl, h, c, a, TL, A, L, t, rfl, t0.p, hA.bt t0.b, .inr t0.e, Tb, fun F1 H2 s2 n2 b2 => ?_⟩
        obtain ⟨zs, ps, e2, p2, d2⟩ := b2.ex
        refine ⟨_, rfl, by show 0 ≤ sizeLine; decide, fun u hu => ?_⟩
        have su : Same H2 (upd H2 u (.lst [])) := same_upd hu
        refine ⟨.list (ps.map plP), .list [], .lst (SqL.of (su _ _ e2)) (dp_pls (p2.nl (NL.of su))), .lst (SqL.of upd_same) .nil, shaped_pls _, by decide +kernel, _, rfl, ?_⟩
        rw [eqv_empty]
        generalize upd H2 u (.lst []) = H3 at su ⊢
        have s3 := s2.trans su
        have p3 := t0.p.same s3
        by_cases g : ps = []
        · rw [decide_eq_true g]
          refine iteT ⟨_, _, _, L, rfl, ⟨p3, t0.b.trans (Bt.of s3), s3 _ _ t0.e, t1, t2⟩, ?_, by omega⟩
          have := d2.t.len
          rw [g, List.length_nil] at this
          exact List.eq_nil_of_length_eq_zero this.symm
        rw [decide_eq_false g]
        have e3 := su _ _ e2
        have hps : 0 < ps.length := List.length_pos_iff.mpr g
        have hz := p2.len
        have hz2 := d2.t.len
        have hz3 := Tb.places L t
        obtain ⟨f1, f2⟩ := t0.p.ne n2
        refine iteF ⟨_, rfl, _, rfl, h, c, F1, zs, rfl, p3, e3, f1, f2, by omega, by omega, fun j x H4 hx p4 b4 => ?_⟩
        obtain ⟨pl, hpl, pv⟩ := (p2.nl (NL.of su)).get hx
        obtain ⟨n0, r0, bs, rfl, r1, r2, r3, r4⟩ := place_inv Tb (d2.t.perm.mem_iff.mp hpl)
        obtain ⟨q0, m1, ms, rfl, eq0, eqp, _⟩ := PlV_nl pv (b4.nl p3)
        obtain ⟨rfl, rfl⟩ := List.cons.inj eqp
        refine ⟨_, rfl, ?_⟩
        delta tNoPart
        refine sl1 eq0 fun q1 H5 s5 e5 => ?_
        have e5 : H5 q1 = some (.tup ((r0 :: bs).map fun j => V.int (j : Nat))) := by
          rw [e5, List.drop_one, List.tail_cons, List.map_map]; rfl
        have b5 : Bt h c H1 H5 := (Bt.of s3).trans (b4.trans (Bt.of s5))
        have p5 := p4.same s5
        refine ⟨fun σ' H' => ∃ (q2 : Addr) (ms : List Nat), σ' = [some (.ref h), some (.ref a), some (.str (srt t)), some (.ref TL), some (.int (0 + (i : Int))), some (.ref F1), some (.ref q2), none, none] ∧ Same H5 H' ∧ H' q2 = some (.tup (ms.map fun j => V.int (j : Nat))) ∧ r0 ∈ ms ∧ (∀ j ∈ ms, j < A.length) ∧ ms.length ≤ 3, ?_, ?_⟩
        · refine ⟨_, rfl, rfl, _, rfl, ?_⟩
          rw [srt_eq]
          cases t with
          | false => exact iteF ⟨q1, r0 :: bs, rfl, Same.refl _, e5, List.mem_cons_self, r2, by rw [List.length_cons]; omega⟩
          | true =>
            refine iteT ⟨_, rfl, _, rfl, _, rfl, ?_⟩
            refine slLast e5 fun q2 H6 s6 e6 => ?_
            refine ⟨q2, (r0 :: bs).take bs.length, rfl, s6, ?_, ?_, fun j hj => r2 j (List.mem_of_mem_take hj), ?_⟩
            · rw [e6, List.length_map, List.length_cons, Nat.add_sub_cancel, List.map_take]
            · have : 0 < bs.length := List.length_pos_iff.mpr r3
              obtain ⟨m, hm⟩ : ∃ m, bs.length = m + 1 := ⟨bs.length - 1, by omega⟩
              rw [hm, List.take_succ_cons]
              exact List.mem_cons_self
            · rw [List.length_take]; omega
        rintro σ' H6 ⟨q2, ms, rfl, s6, e6, k1, k2, k3⟩
        have b6 := b5.trans (Bt.of s6)
        have p6 := p5.same s6
        have eT6 := b6 _ _ t0.e t1 t2
        refine ⟨_, rfl, .inl ⟨rfl, _, SqL.of eT6⟩, _, rfl, _, rfl, q2, rfl, ⟨_, SqT.of e6⟩, fun D2 hD2 => ?_⟩
        refine lc_ft (j := 8) (fun m => !decide (m ∈ L)) e6 (by omega) hD2 ?_ ?_ ?_ ?_
        · exact fun x => rfl
        · intro m hm H' Q' s' kq
          refine ⟨_, rfl, _, rfl, TL, _, rfl, .inl (SqL.of (s' _ _ eT6)), rfl, flat_nat L, _, rfl, ?_⟩
          rw [if_pos rfl, in_nat]
          exact kq
        · exact fun m hm H' Q' kq => ⟨_, rfl, kq⟩
        intro H7 s7 hD3
        obtain ⟨d1, d2'⟩ := p6.ne hD2
        have hin : r0 ∈ ms.filter fun m => !decide (m ∈ L) := List.mem_filter.mpr ⟨k1, by rw [decide_eq_false r1]; rfl⟩
        have hl3 : (ms.filter fun m => !decide (m ∈ L)).length ≤ 3 := Nat.le_trans (List.length_filter_le _ _) k3
        have hl0 := List.length_pos_of_mem hin
        refine ⟨h, c, D2, _, rfl, p6.same s7, hD3, d1, d2', by rw [List.length_map]; exact hl0, by rw [List.length_map]; omega, fun j x H8 hx p8 b8 => ?_⟩
        obtain ⟨r, hr1, hr2⟩ : ∃ r, r ∈ ms.filter (fun m => !decide (m ∈ L)) ∧ x = V.int (r : Nat) := by
          rw [List.getElem?_map] at hx
          cases q : (ms.filter fun m => !decide (m ∈ L))[j]? with
          | none => rw [q] at hx; cases hx
          | some r => rw [q] at hx; exact ⟨r, List.mem_of_getElem? q, (Option.some.inj hx).symm⟩
        subst hr2
        obtain ⟨g1, g2⟩ := List.mem_filter.mp hr1
        have g2 := not_dec g2
        have b18 := b6.trans ((Bt.of s7).trans b8)
        have eT8 := b18 _ _ t0.e t1 t2
        refine ⟨TL, _, _, rfl, rfl, eT8, by rw [List.length_map]; exact line_lt (by omega), ?_⟩
        refine ⟨_, _, _, L ++ [r], rfl, ⟨p8.upd t1 t2, (t0.b.trans b18).upd hTL, by rw [upd_same, List.map_append]; rfl, t1, t2⟩, ?_, ?_, by rw [List.length_append, l0]; rfl⟩
        · rw [List.nodup_append]
          refine ⟨d0, by simp, fun x hxL y hy => ?_⟩
          rw [List.mem_singleton] at hy
          subst hy
          exact fun z => g2 (z ▸ hxL)
        · intro x hx
          rcases List.mem_append.mp hx with hx | hx
          · exact m0 x hx
          · rw [List.mem_singleton] at hx; subst hx; exact k2 _ g1
      · rintro σ' H1 ⟨o4, o5, o6, L, rfl, t0, d0, m0, l0⟩
        have := nodup_le A.length L d0 m0
        omega
    rintro σ' H1 ⟨o4, o5, o6, L, rfl, t0, pe0, l24⟩
    refine ⟨fun σ' H' => ∃ (o7 : Option V) (TL : Addr) (L : List Nat), σ' = [some (.ref h), some (.ref a), some (.str (srt t)), some (.ref TL), o4, o5, o6, o7, none] ∧ ToldAt H H' h c TL A L ∧ placesL A L t = [], ?_, ?_⟩
    · refine ⟨_, rfl, h, c, 4, rfl, t0.p, by decide, by decide, fun x H2 _ _ p2 b2 => ⟨rfl, _, rfl, ite2 (fun _ => ?_) (fun _ => ⟨_, TL, L, rfl, ⟨p2, t0.b.trans b2, b2 _ _ t0.e t1 t2, t1, t2⟩, pe0⟩)⟩⟩
      have b02 := t0.b.trans b2
      have eT2 := b2 _ _ t0.e t1 t2
      have A2 := hA.bt b02
      obtain ⟨_, _, ys2, ea2, lx2, _⟩ := id A2
      refine ⟨_, rfl, a, _, rfl, .inl (SqL.of ea2), (ys2.length : Int), rfl, by omega, by omega, fun D1 hD1 => ?_⟩
      obtain ⟨d1, d2⟩ := p2.ne hD1
      refine lc_range (lo := 0) (n := (ys2.length : Int).toNat) (fun i H' => ∃ M : List Nat, H' D1 = some (.lst (M.map fun j => V.int (j : Nat))) ∧ M.length ≤ i ∧ PoolAt H' h c ∧ Bt h c H2 H')
        ⟨[], upd_same, Nat.le_refl _, p2.upd d1 d2, (Bt.refl h c H2).upd hD1⟩ ?_ ?_
      · rintro i H3 hi ⟨M, hd, hl, p3, b3⟩
        refine ⟨rfl, _, rfl, h, c, 3, rfl, p3, by decide, by decide, fun y H4 _ _ p4 b4 => ⟨rfl, _, rfl, ite2 (fun _ => ?_) (fun _ => ?_)⟩⟩
        · refine ⟨_, rfl, _, b4 _ _ hd d1 d2, by rw [List.length_map]; exact line_lt (by omega), M ++ [i], ?_, by rw [List.length_append]; show M.length + 1 ≤ i + 1; omega, p4.upd d1 d2, (b3.trans b4).upd hD1⟩
          rw [upd_same, List.map_append, List.map_cons, List.map_nil, Int.zero_add]
        · exact ⟨M, b4 _ _ hd d1 d2, by omega, p4, b3.trans b4⟩
      rintro H3 ⟨M, hd, hl, p3, b3⟩
      have eT3 := b3 _ _ eT2 t1 t2
      refine ⟨_, rfl, _, rfl, _, rfl, TL, D1, _, _, rfl, rfl, eT3, hd, by rw [List.length_map, List.length_map]; exact line_le (by omega), fun q hq => ?_⟩
      have sq : Same H3 (upd H3 q (.lst ((L.map fun j => V.int (j : Nat)) ++ M.map fun j => V.int (j : Nat)))) := same_upd hq
      have eq : (upd H3 q (.lst ((L.map fun j => V.int (j : Nat)) ++ M.map fun j => V.int (j : Nat)))) q = some (.lst ((L ++ M).map fun j => V.int (j : Nat))) := by rw [upd_same, List.map_append]
      generalize upd H3 q (.lst ((L.map fun j => V.int (j : Nat)) ++ M.map fun j => V.int (j : Nat))) = H4 at sq eq ⊢
      have b4 := b02.trans (b3.trans (Bt.of sq))
      have p4 := p3.same sq
      refine ⟨_, rfl, h, c, a, q, A, L ++ M, t, rfl, p4, hA.bt b4, .inr eq, Tb, fun F1 H5 s5 n5 b5 => ?_⟩
      obtain ⟨zs, ps, e5, p5, d5⟩ := b5.ex
      refine ⟨by show 0 ≤ sizeLine; decide, fun u hu => ?_⟩
      have su : Same H5 (upd H5 u (.lst [])) := same_upd hu
      refine ⟨.list (ps.map plP), .list [], .lst (SqL.of (su _ _ e5)) (dp_pls (p5.nl (NL.of su))), .lst (SqL.of upd_same) .nil, shaped_pls _, by decide +kernel, _, rfl, ?_⟩
      rw [eqv_empty]
      generalize upd H5 u (.lst []) = H6 at su ⊢
      have s46 := s5.trans su
      have p6 := p4.same s46
      have b6 := b4.trans (Bt.of s46)
      have eT6 := s46 _ _ (sq _ _ eT3)
      have eD6 := s46 _ _ (sq _ _ hd)
      by_cases g : ps = []
      · rw [decide_eq_true g]
        refine iteT ⟨_, rfl, _, rfl, TL, D1, _, _, rfl, rfl, eT6, eD6, by rw [List.length_map, List.length_map]; exact line_le (by omega), fun v hv => ?_⟩
        obtain ⟨v1, v2⟩ := p6.ne hv
        refine ⟨_, v, L ++ M, rfl, ⟨p6.upd v1 v2, b6.trans (Bt.of (same_upd hv)), by rw [upd_same, List.map_append], v1, v2⟩, ?_⟩
        have := d5.t.len
        rw [g, List.length_nil] at this
        exact List.eq_nil_of_length_eq_zero this.symm
      · rw [decide_eq_false g]
        exact iteF ⟨_, TL, L, rfl, ⟨p6, b6, eT6, t1, t2⟩, pe0⟩
    clear t0 pe0 l24
    rintro σ' H2 ⟨o7, TL2, L2, rfl, t0, pe0⟩
    have A2 := hA.bt t0.b
    obtain ⟨_, _, ys2, ea2, lx2, _⟩ := id A2
    refine ⟨_, rfl, a, _, rfl, .inl (SqL.of ea2), (ys2.length : Int), rfl, by omega, by omega, fun D1 hD1 => ?_⟩
    have hn : (ys2.length : Int).toNat = A.length := by omega
    refine lc_fr (j := 8) (n := (ys2.length : Int).toNat) (fun m => decide (m ∈ L2)) (by omega) hD1 ?_ ?_ ?_ ?_
    · exact fun x => rfl
    · intro m hm H' Q' s' kq
      refine ⟨_, rfl, _, rfl, TL2, _, rfl, .inl (SqL.of (s' _ _ t0.e)), rfl, flat_nat L2, _, rfl, ?_⟩
      rw [if_neg (by decide), Int.zero_add, in_nat]
      exact kq
    · exact fun m hm H' Q' kq => ⟨_, rfl, kq⟩
    intro H3 s3 hD3
    rw [hn] at hD3
    obtain ⟨N, eN⟩ : ∃ N, N = (List.range A.length).filter fun m => decide (m ∈ L2) := ⟨_, rfl⟩
    rw [← eN] at hD3
    have lN : N.length ≤ 24 := by
      rw [eN]
      refine Nat.le_trans (List.length_filter_le _ _) ?_
      rw [List.length_range]; exact sz
    refine ⟨_, _, rfl, .inl ⟨SqL.of hD3, fun q hq => ?_⟩⟩
    have s4 : Same H3 (upd H3 q (.tup (N.map fun j => V.int (j : Nat)))) := same_upd hq
    refine k (.ref q) N _ ((t0.p.same s3).same s4) (t0.b.trans (Bt.of (s3.trans s4))) (nD_mk upd_same (by omega)) (fun j hj => ?_) ?_ ?_
    · rw [eN] at hj
      exact List.mem_range.mp (List.mem_filter.mp hj).1
    · rw [eN]
      exact List.pairwise_lt_range.filter _
    · refine places_nil Tb (fun x hx => ?_) pe0
      rw [eN, List.mem_filter, List.mem_range, decide_eq_true_eq]
      exact ⟨fun z => ⟨hx, z⟩, fun z => z.2⟩
end
end Hc

set_option Elab.async false
set_option linter.all false
set_option maxRecDepth 100000
set_option maxHeartbeats 1000000
set_option autoImplicit false
namespace Hc
open PySem L2
theorem eqv_badl {zs ps : List (List Int)} (d : Sd zs ps) : PyData.eqv (.list (zs.map plP)) (.list []) = decide (ps = []) := by
  rw [eqv_empty]
  have el := d.t.len
  by_cases q : zs = []
  · rw [decide_eq_true q, decide_eq_true]
    rw [q, List.length_nil] at el
    exact List.eq_nil_of_length_eq_zero el.symm
  · rw [decide_eq_false q, decide_eq_false]
    intro z
    rw [z, List.length_nil] at el
    exact q (List.eq_nil_of_length_eq_zero el)
section
variable {P : Program} {w : World} {K : PySem.W.Frag} {mg : Str → Option Value} {base : Heap}
def spRight (C : Addr) : Sp := fun vs H Q _ => ∃ (h c p a l : Addr) (n : Int) (rds : List D) (L : List Nat) (t : Bool), vs = [.ref p, .ref a, .ref l, .str (srt t)] ∧ PoolAt H h c ∧ WebO C H 0 p n rds ∧ NxL H h c a (nx rds) ∧ Rp H 0 (.ref l) (nD L) ∧ isLot rds (nD L) = true ∧
  ∀ H', Same H H' → Q (.bl true) H'
theorem ok__law_is_right (T : Tx K mg) : FnOk P w K mg base CX0 8 T._law_is_right.f T._law_is_right.fd ["_law_web_here", "_law_nexts_here", "_law_lot_here", "_law_sort"] (spRight T.Web.C) := by
  refine T._law_is_right.F.ok sc_law_is_right (fun vs H Q E h => ?_) (fun cdv A outer s H vs Q E hr h => ?_)
  · obtain ⟨_, _, _, _, _, _, _, _, _, rfl, _⟩ := h
    rfl
  · obtain ⟨h, c, p, a, l, n, rds, L, t, rfl, hP, W, hA, r, e, k⟩ := h
    have Tb := nx_tab W.l2
    refine ⟨_, (pss_cons (ps_set (i := 4) sc_law_is_right.nd rfl (Or.inl rfl) (pe_call (ok__law_kinds T) (hr.mono (by decide)) rfl T._law_kinds.g T._law_kinds.F.kp T._law_kinds.b .nil pass0 (pa_cons (pv 1) (pa_cons (pv 2) (pa_cons (pv 3) pa_nil)))))
      (pss_cons (ps_set (i := 5) sc_law_is_right.nd rfl (Or.inl rfl) (pe_call (ok_kinds T) (hr.mono (by decide)) rfl T.kinds.g T.kinds.F.kp T.kinds.b .nil passL (pa_cons (pv 0) (pa_cons (pv 2) (pa_cons (pv 3) pa_nil)))))
      (pss_cons (ps_if (PW.pt (pw_or (pt_cmpR (op_neD hr.units) (pv 5) (pv 4) (nomark _)) (pw_or1 (pt_cmpR op_eq (pe_cmpR op_isN (pv 4) pe_non (nomark _)) (pe_call (ok_is_enough T) (hr.mono (by decide)) rfl T.is_enough.g T.is_enough.F.kp T.is_enough.b .nil passL (pa_cons (pv 0) (pa_cons (pv 3) (pa_cons (pv 2) pa_nil)))) (nomark _)))))
      (pss_one (ps_ret pe_bl))
      pss_nil)
      (pss_cons (ps_if (pt_cmpR op_isN (pv 4) pe_non (nomark _))
      (pss_cons (ps_if (pt_cmpR (op_eqD hr.units) (pe_call (ok_bad_places T) (hr.mono (by decide)) rfl T.bad_places.g T.bad_places.F.kp T.bad_places.b .nil passL (pa_cons (pv 0) (pa_cons (pv 2) (pa_cons (pv 3) pa_nil)))) (pe_lst pa_nil) (nomark _))
      (pss_one (ps_ret pe_bl))
      pss_nil)
      (pss_one (ps_ret (pe_cmpR op_is_bl (pe_call (ok_is_kinds T) (hr.mono (by decide)) rfl T.is_kinds.g T.is_kinds.F.kp T.is_kinds.b .nil passL (pa_cons (pv 0) (pa_cons (pv 2) (pa_cons (pv 3) (pa_cons pe_non pa_nil))))) pe_bl (nomark _)))))
      pss_nil)
      (pss_cons (ps_if (PW.pt (pw_or (pt_not (pt_val (pe_callB call_isi (by rfl) T.n_isinstance (by decide +kernel) (pa_cons (pv 5) (pa_cons (pe_bltn (v := .ty "tuple") (by rfl) T.n_tuple (by decide +kernel) rfl) pa_nil))))) (pw_or1 (pt_cmpR (op_neD hr.units) (pe_call (ok_kinds T) (hr.mono (by decide)) rfl T.kinds.g T.kinds.F.kp T.kinds.b .nil passL (pa_cons (pv 0) (pa_cons (pv 2) (pa_cons (pv 3) pa_nil)))) (pv 4) (nomark _)))))
      (pss_one (ps_ret pe_bl))
      pss_nil)
      (pss_one (ps_ret (pe_and (pe_cmpR (op_eqD hr.units) (pe_call (ok_bad_places T) (hr.mono (by decide)) rfl T.bad_places.g T.bad_places.F.kp T.bad_places.b .nil passL (pa_cons (pv 0) (pa_cons (pv 2) (pa_cons (pv 3) pa_nil)))) (pe_lst pa_nil) (nomark _)) (pe_one (pe_cmpR op_is_bl (pe_call (ok_is_kinds T) (hr.mono (by decide)) rfl T.is_kinds.g T.is_kinds.F.kp T.is_kinds.b .nil passL (pa_cons (pv 0) (pa_cons (pv 2) (pa_cons (pv 3) (pa_cons (pv 4) pa_nil))))) pe_bl (nomark _))))))))))), ?_⟩
    refine ⟨_, rfl, _, rfl, _, rfl, h, c, a, l, nx rds, L, t, rfl, hA, .inl (nD_at r), Tb, fun vd H1 s1 kd => ?_⟩
    refine ⟨_, rfl, _, rfl, _, rfl, 0, p, l, n, rds, L, t, rfl, W.same s1, r.same s1, e, fun vt H2 s2 kt => ?_⟩
    have s12 := s1.trans s2
    rcases kd.nl (NL.of s2) with ⟨rfl, ne⟩ | ⟨q1, rfl, e1, ep⟩
    · rcases kt with ⟨rfl, _⟩ | ⟨_, _, _, z⟩
      rotate_left 1
      · exact absurd z ne
      refine ⟨_, rfl, _, rfl, .none, .none, .non, .non, by decide +kernel, by decide +kernel, _, rfl, iteF ?_⟩
      refine ⟨_, rfl, rfl, _, rfl, _, rfl, _, rfl, 0, p, l, n, rds, L, t, rfl, W.same s12, r.same s12, e, fun H3 s3 => ?_⟩
      rw [decide_eq_false ne]
      refine ⟨rfl, _, rfl, iteF ?_⟩
      have s13 := s12.trans s3
      refine ⟨_, rfl, rfl, _, rfl, iteT ?_⟩
      refine ⟨_, rfl, _, rfl, _, rfl, 0, p, l, n, rds, L, t, rfl, W.same s13, r.same s13, e, fun F4 H4 s4 n4 b4 => ?_⟩
      obtain ⟨xs, zs, e4, p4, d4⟩ := b4.ex
      refine ⟨by show 0 ≤ sizeLine; decide, fun u hu => ?_⟩
      have su : Same H4 (upd H4 u (.lst [])) := same_upd hu
      refine ⟨.list (zs.map plP), .list [], .lst (SqL.of (su _ _ e4)) (dp_pls (p4.nl (NL.of su))), .lst (SqL.of upd_same) .nil, shaped_pls _, by decide +kernel, _, rfl, ?_⟩
      rw [eqv_badl d4, decide_eq_false ne]
      have s5 := (s13.trans s4).trans su
      refine iteF ⟨_, rfl, _, rfl, _, rfl, 0, p, l, n, rds, L, t, .non, rfl, W.same s5, r.same s5, e, .inl ⟨rfl, ne⟩, fun H6 s6 => ⟨_, _, rfl, rfl, ?_⟩⟩
      rw [decide_eq_false ne]
      exact k _ (s5.trans s6)
    · rcases kt with ⟨_, z⟩ | ⟨q2, rfl, e2, _⟩
      · exact absurd ep z
      refine ⟨_, rfl, _, rfl, knD (nx rds) L t, knD (nx rds) L t, dp_kn e2, dp_kn e1, shaped_knD _ _ _, shaped_knD _ _ _, _, rfl, ?_⟩
      rw [eqv_refl' (lay_knD _ _ _)]
      refine iteF ⟨_, rfl, rfl, _, rfl, _, rfl, _, rfl, 0, p, l, n, rds, L, t, rfl, W.same s12, r.same s12, e, fun H3 s3 => ?_⟩
      rw [decide_eq_true ep]
      refine ⟨rfl, _, rfl, iteF ?_⟩
      have s13 := s12.trans s3
      refine ⟨_, rfl, rfl, _, rfl, iteF ?_⟩
      refine ⟨_, rfl, _, _, _, _, _, rfl, .ty "tuple", .base (.tup (s3 _ _ e2)), kit_ty (show kitB "tuple" "tuple" = some true by decide +kernel), _, rfl, iteF ?_⟩
      refine ⟨_, rfl, _, rfl, _, rfl, 0, p, l, n, rds, L, t, rfl, W.same s13, r.same s13, e, fun v4 H4 s4 k4 => ?_⟩
      rcases k4 with ⟨_, z⟩ | ⟨q4, rfl, e4, _⟩
      · exact absurd ep z
      have e14 := s4 _ _ (s3 _ _ e1)
      refine ⟨_, rfl, knD (nx rds) L t, knD (nx rds) L t, dp_kn e4, dp_kn e14, shaped_knD _ _ _, shaped_knD _ _ _, _, rfl, ?_⟩
      rw [eqv_refl' (lay_knD _ _ _)]
      have s14 := s13.trans s4
      refine iteF ⟨_, rfl, _, rfl, _, rfl, 0, p, l, n, rds, L, t, rfl, W.same s14, r.same s14, e, fun F5 H5 s5 n5 b5 => ?_⟩
      obtain ⟨xs, zs, e5, p5, d5⟩ := b5.ex
      refine ⟨by show 0 ≤ sizeLine; decide, fun u hu => ?_⟩
      have su : Same H5 (upd H5 u (.lst [])) := same_upd hu
      refine ⟨.list (zs.map plP), .list [], .lst (SqL.of (su _ _ e5)) (dp_pls (p5.nl (NL.of su))), .lst (SqL.of upd_same) .nil, shaped_pls _, by decide +kernel, _, rfl, ?_⟩
      rw [eqv_badl d5, decide_eq_true ep]
      have s6 := (s14.trans s5).trans su
      refine iteT ⟨_, rfl, _, rfl, _, rfl, _, rfl, 0, p, l, n, rds, L, t, .ref q1, rfl, W.same s6, r.same s6, e, .inr ⟨q1, rfl, su _ _ (s5 _ _ e14), ep⟩, fun H7 s7 => ⟨_, _, rfl, rfl, ?_⟩⟩
      rw [decide_eq_true ep]
      exact k _ (s6.trans s7)
def spLaw (K : PySem.W.Frag) : Sp := fun vs H Q _ => ∃ (a : Addr) (ns : List Int), vs = [.ref a] ∧ SqL K H a (ns.map V.int) ∧ ns.length ≤ 63 ∧ ∀ H', Q (.bl true) H'
end
end Hc

set_option Elab.async false
set_option linter.all false
set_option maxRecDepth 100000
set_option maxHeartbeats 1000000
set_option autoImplicit false
namespace Hc
open PySem L2
section
variable {P : Program} {w : World} {K : PySem.W.Frag} {mg : Str → Option Value} {base : Heap}
theorem nD_nl {H H' : Hp} {h : Addr} {v : V} {L : List Nat} (r : Rp H h v (nD L)) (k : NL H H') : Rp H' h v (nD L) := r.nl k (noL_nD L)
theorem ok_law (T : Tx K mg) : FnOk P w K mg base CX0 10 T.law.f T.law.fd ["_law_script"] (spLaw K) := by
  refine T.law.F.ok sc_law (fun vs H Q E h => ?_) (fun cdv A outer s H vs Q E hr h => ?_)
  · obtain ⟨a, ns, rfl, _⟩ := h
    rfl
  · obtain ⟨a, ns, rfl, hS, hl, k⟩ := h
    refine ⟨_, (pss_cons (ps_set (i := 1) sc_law.nd rfl (Or.inl rfl) (pe_call (ok__law_pool T) (hr.mono (by decide)) rfl T._law_pool.g T._law_pool.F.kp T._law_pool.b .nil pass0 (pa_cons (pv 0) pa_nil)))
      (pss_cons (ps_set (i := 2) sc_law.nd rfl (Or.inl rfl) (pe_call (ok__law_web T) (hr.mono (by decide)) rfl T._law_web.g T._law_web.F.kp T._law_web.b .nil pass0 (pa_cons (pv 1) (pa_cons pe_int pa_nil))))
      (C8.pss_cut (ps_if (pt_cmpR op_eq (pe_call (ok__law_draw T) (hr.mono (by decide)) rfl T._law_draw.g T._law_draw.F.kp T._law_draw.b .nil pass0 (pa_cons (pv 1) (pa_cons pe_int pa_nil))) pe_int (nomark _))
      (pss_one (ps_set (i := 2) sc_law.nd rfl (Or.inl rfl) (pe_call (ok__law_great_web T) (hr.mono (by decide)) rfl T._law_great_web.g T._law_great_web.F.kp T._law_great_web.b .nil pass0 (pa_cons (pv 1) pa_nil))))
      pss_nil)
      (pss_cons (ps_set (i := 3) sc_law.nd rfl (Or.inl rfl) (pe_call (ok__law_nexts T) (hr.mono (by decide)) rfl T._law_nexts.g T._law_nexts.F.kp T._law_nexts.b .nil pass0 (pa_cons (pv 2) pa_nil)))
      (pss_cons (ps_set (i := 4) sc_law.nd rfl (Or.inl rfl) (pe_call (ok__law_made T) (hr.mono (by decide)) rfl T._law_made.g T._law_made.F.kp T._law_made.b .nil pass0 (pa_cons (pv 2) pa_nil)))
      (pss_cons (ps_for PassesOwn.never rfl (pi_list (pe_lst (pa_cons pe_str (pa_cons pe_str pa_nil)))) (pg_name (i := 5) sc_law.nd rfl (Or.inl rfl))
      (pss_cons (ps_set (i := 6) sc_law.nd rfl (Or.inl rfl) (pe_lst (pa_cons (pe_tup pa_nil) (pa_cons (pe_call (ok__law_lot T) (hr.mono (by decide)) rfl T._law_lot.g T._law_lot.F.kp T._law_lot.b .nil pass0 (pa_cons (pv 1) (pa_cons (pe_callB call_len_seq (by rfl) T.n_len (by decide +kernel) (pa_cons (pv 3) pa_nil)) pa_nil))) (pa_cons (pe_call (ok__law_enough_lot T) (hr.mono (by decide)) rfl T._law_enough_lot.g T._law_enough_lot.F.kp T._law_enough_lot.b .nil pass0 (pa_cons (pv 1) (pa_cons (pv 3) (pa_cons (pv 5) pa_nil)))) pa_nil)))))
      (pss_cons (ps_if (pt_cmpR op_isN (pe_call (ok__law_kinds T) (hr.mono (by decide)) rfl T._law_kinds.g T._law_kinds.F.kp T._law_kinds.b .nil pass0 (pa_cons (pv 3) (pa_cons (pe_ix ix_list (pv 6) pe_int (fun _ _ => rfl)) (pa_cons (pv 5) pa_nil)))) pe_non (nomark _))
      (pss_one (ps_ret pe_bl))
      pss_nil)
      (pss_one (ps_for PassesOwn.never rfl (pi_list (pv 6)) (pg_name (i := 7) sc_law.nd rfl (Or.inl rfl))
      (pss_one (ps_if (pt_not (pt_val (pe_call (ok__law_is_right T) (hr.mono (by decide)) rfl T._law_is_right.g T._law_is_right.F.kp T._law_is_right.b .nil pass0 (pa_cons (pv 4) (pa_cons (pv 3) (pa_cons (pv 7) (pa_cons (pv 5) pa_nil)))))))
      (pss_one (ps_ret pe_bl))
      pss_nil)))))))
      (pss_one (ps_ret pe_bl)))))))), ?_⟩
    refine ⟨_, rfl, a, ns, rfl, hS, hl, fun h c H0 s0 p0 => ?_⟩
    refine ⟨_, rfl, h, c, rfl, p0, fun v n ps rm tm H1 p1 b1 W1 => ?_⟩
    refine ⟨fun σ' H' => ∃ (v : V) (n : Int) (ps : List (Int × Int)) (rm tm : List Int), σ' = [some (.ref a), some (.ref h), some v, none, none, none, none, none] ∧ PoolAt H' h c ∧ WebP H' v n ps rm tm, ?_, ?_⟩
    · refine ⟨_, rfl, h, c, 4, rfl, p1, by decide, by decide, fun x H2 _ _ p2 b2 => ⟨rfl, _, rfl, ite2 (fun _ => ?_) (fun _ => ⟨v, n, ps, rm, tm, rfl, p2, W1.nl (b2.nl p1)⟩)⟩⟩
      exact ⟨_, rfl, h, rfl, h, c, rfl, p2, fun v' n' ps' rm' tm' H3 p3 b3 W3 => ⟨v', n', ps', rm', tm', rfl, p3, W3⟩⟩
    clear p0 s0 hS hl p1 b1 W1 H1
    rintro σ1 H1 ⟨v, n, ps, rm, tm, rfl, p1, W1⟩
    have m0 := W1.l0
    have m1 := W1.l1
    refine ⟨_, rfl, h, c, v, n, ps, rm, tm, rfl, p1, W1, fun aN H2 s2 N2 => ?_⟩
    refine ⟨_, rfl, v, n, ps, rm, tm, rfl, W1.nl (NL.of s2), fun pw H3 s3 W3 => ?_⟩
    have p3 := (p1.same s2).same s3
    have N3 := N2.same s3
    have rl : (rdsOf ps).length = ps.length := rdsOf_len ps
    have Tb := nx_tab W3.l2
    refine ⟨by show 2 ≤ sizeLine; decide, fun qs hqs => ?_⟩
    obtain ⟨z1, z2⟩ := p3.ne hqs
    have sS : Same H3 (upd H3 qs (.lst [.str "hours", .str "turns"])) := same_upd hqs
    have eS : (upd H3 qs (.lst [.str "hours", .str "turns"])) qs = some (.lst [.str "hours", .str "turns"]) := upd_same
    generalize upd H3 qs (.lst [.str "hours", .str "turns"]) = HS at sS eS ⊢
    have pS := p3.same sS
    have NS := N3.same sS
    have WS := W3.same sS
    clear p3 N3 W3 N2 W1 p1 s2 s3 hqs sS H1 H2
    refine ⟨qs, rfl, ⟨_, SqL.of eS⟩, for_list (xs := [.str "hours", .str "turns"]) (fun j σ' H' => ∃ o5 o6 o7 : Option V, σ' = [some (.ref a), some (.ref h), some v, some (.ref aN), some (.ref pw), o5, o6, o7] ∧ PoolAt H' h c ∧ Bt h c HS H')
      ⟨_, _, _, rfl, pS, Bt.refl _ _ _⟩ (fun j σ' H' _ ⟨_, _, _, _, _, b⟩ => SqL.of (b _ _ eS z1 z2)) ?_ ?_⟩
    · rintro j x σ' H4 hx ⟨o5, o6, o7, rfl, p4, b4⟩
      obtain ⟨t, rfl⟩ : ∃ t, x = .str (srt t) := by
        match j, hx with
        | 0, hx => cases hx; exact ⟨false, rfl⟩
        | 1, hx => cases hx; exact ⟨true, rfl⟩
        | j + 2, hx => simp at hx
      have N4 := NS.bt b4
      obtain ⟨_, _, xsN, eN, lN, _⟩ := id N4
      refine ⟨by show 0 ≤ sizeLine; decide, fun q0 hq0 => ?_⟩
      have s5 : Same H4 (upd H4 q0 (.tup [])) := same_upd hq0
      have r5 : Rp (upd H4 q0 (.tup [])) 0 (.ref q0) (nD []) := nD_mk upd_same (by simp)
      generalize upd H4 q0 (.tup []) = H5 at s5 r5 ⊢
      have p5 := p4.same s5
      refine ⟨_, rfl, _, rfl, aN, _, rfl, .inl (SqL.of (s5 _ _ eN)), ?_⟩
      rw [lN, nx_len, rl]
      refine ⟨h, c, ps.length, rfl, p5, by omega, fun v2 L2 H6 p6 b6 r2 l2 w2 => ?_⟩
      have b06 := b4.trans ((Bt.of s5).trans b6)
      refine ⟨_, rfl, _, rfl, _, rfl, h, c, aN, nx (rdsOf ps), t, rfl, p6, NS.bt b06, Tb, fun v3 L3 H7 p7 b7 r3 l3 w3 pe3 => ?_⟩
      obtain ⟨q2, rfl, _, _⟩ := nD_inv r2
      obtain ⟨q3, rfl, _, _⟩ := nD_inv r3
      refine ⟨by show 3 ≤ sizeLine; decide, fun LL hLL => ?_⟩
      have s8 : Same H7 (upd H7 LL (.lst [.ref q0, .ref q2, .ref q3])) := same_upd hLL
      have eLL : (upd H7 LL (.lst [.ref q0, .ref q2, .ref q3])) LL = some (.lst [.ref q0, .ref q2, .ref q3]) := upd_same
      generalize upd H7 LL (.lst [.ref q0, .ref q2, .ref q3]) = H8 at s8 eLL ⊢
      have p8 := p7.same s8
      have b08 := b06.trans (b7.trans (Bt.of s8))
      have N8 := NS.bt b08
      have W8 := WS.nl (b08.nl pS)
      have R0 : Rp H8 0 (.ref q0) (nD []) := nD_nl r5 ((b6.trans (b7.trans (Bt.of s8))).nl p5)
      have R2 : Rp H8 0 (.ref q2) (nD L2) := nD_nl r2 ((b7.trans (Bt.of s8)).nl p6)
      have R3 : Rp H8 0 (.ref q3) (nD L3) := r3.same s8
      refine ⟨_, rfl, _, rfl, LL, _, 2, _, rfl, rfl, SqL.of eLL, atI_nat (j := 2) rfl, _, rfl, h, c, aN, q3, nx (rdsOf ps), L3, t, rfl, N8, .inl (nD_at R3), Tb, fun vk H9 s9 k9 => ?_⟩
      rcases k9 with ⟨_, z⟩ | ⟨qk, rfl, _, _⟩
      · exact absurd pe3 z
      refine ⟨rfl, _, rfl, iteF ?_⟩
      have lots : ∀ (i : Nat) (x : V), ([.ref q0, .ref q2, .ref q3] : List V)[i]? = some x → ∃ l L, x = .ref l ∧ Rp H8 0 (.ref l) (nD L) ∧ isLot (rdsOf ps) (nD L) = true := fun i x hx => by
        match i, hx with
        | 0, hx => cases hx; exact ⟨q0, [], rfl, R0, lot_ok (fun _ z => nomatch z) List.Pairwise.nil⟩
        | 1, hx => cases hx; exact ⟨q2, L2, rfl, R2, lot_ok (fun j hj => by rw [rl]; exact l2 j hj) w2⟩
        | 2, hx => cases hx; exact ⟨q3, L3, rfl, R3, lot_ok (fun j hj => by have := l3 j hj; rwa [nx_len] at this) w3⟩
        | i + 3, hx => simp at hx
      refine ⟨_, rfl, LL, rfl, ⟨_, SqL.of (s9 _ _ eLL)⟩, for_list (xs := [.ref q0, .ref q2, .ref q3]) (fun i σ' H' => ∃ o7 : Option V, σ' = [some (.ref a), some (.ref h), some v, some (.ref aN), some (.ref pw), some (.str (srt t)), some (.ref LL), o7] ∧ Same H8 H')
        ⟨_, rfl, s9⟩ (fun i σ' H' _ ⟨_, _, s⟩ => SqL.of (s _ _ eLL)) ?_ ?_⟩
      · rintro i x σ' H10 hx ⟨o7, rfl, s10⟩
        obtain ⟨l, L, rfl, rL, oL⟩ := lots i x hx
        exact ⟨_, rfl, _, rfl, _, rfl, _, rfl, h, c, pw, aN, l, n, rdsOf ps, L, t, rfl, p8.same s10, W8.same s10, N8.same s10, rL.same s10, oL, fun H' s' => ⟨_, rfl, iteF ⟨_, rfl, s10.trans s'⟩⟩⟩
      · rintro σ' H10 ⟨o7, rfl, s10⟩
        exact ⟨_, _, _, rfl, p8.same s10, b08.trans (Bt.of s10)⟩
    · rintro σ' H4 ⟨o5, o6, o7, rfl, p4, b4⟩
      exact k H4
end
end Hc

set_option Elab.async false
set_option linter.all false
set_option maxRecDepth 100000
set_option maxHeartbeats 4000000
set_option autoImplicit false
namespace Hc
open PySem L2
/-- an error of the class at S is what «except S» names -/
theorem exm_self {K : PySem.W.Frag} {S : Addr} (h1 : PySem.W.subIn K (.ref S) (.type "BaseException") = some true) (h2 : PySem.W.isClsIn K S = true) (h3 : PySem.W.typeIn K (.ref S) = some (.type "type")) (h4 : PySem.W.subIn K (.ref S) (.ref S) = some true) :
    PySem.W.exmOne K (.ref S) (.ref S) = some true := by
  have e1 : (PySem.W.subIn K (.ref S) (.type "BaseException") == some true) = true := by rw [h1] <;> rfl
  have e2 : ((PySem.W.clsIn K S).isSome && PySem.W.typeIn K (.ref S) == some (.type "type")) = true := by
    have h2' : (PySem.W.clsIn K S).isSome = true := h2
    rw [h2', h3] <;> rfl
  show (if (PySem.W.subIn K (.ref S) (.type "BaseException") == some true) = true then (if ((PySem.W.clsIn K S).isSome && PySem.W.typeIn K (.ref S) == some (.type "type")) = true then PySem.W.subIn K (.ref S) (.ref S) else none) else none) = some true
  rw [if_pos e1, if_pos e2]
  exact h4
theorem tx_mk {K : PySem.W.Frag} {h : Heap} {mg : Str → Option Value} (X : K.In h) (G : h.Ns mainGlobals mg)
    {fisqinteger : Addr} {odisqinteger anisqinteger : Option Addr} {slisqinteger : Array (Option Value)} {ocisqinteger kVisqinteger dcisqinteger pmisqinteger cdisqinteger ctisqinteger : Value}
    {fisqbetween : Addr} {odisqbetween anisqbetween : Option Addr} {slisqbetween : Array (Option Value)} {ocisqbetween kVisqbetween dcisqbetween pmisqbetween cdisqbetween ctisqbetween : Value}
    {fisqtuple : Addr} {odisqtuple anisqtuple : Option Addr} {slisqtuple : Array (Option Value)} {ocisqtuple kVisqtuple dcisqtuple pmisqtuple cdisqtuple ctisqtuple : Value}
    {fareqintegers : Addr} {odareqintegers anareqintegers : Option Addr} {slareqintegers : Array (Option Value)} {ocareqintegers kVareqintegers dcareqintegers pmareqintegers cdareqintegers ctareqintegers : Value}
    {fareqbetween : Addr} {odareqbetween anareqbetween : Option Addr} {slareqbetween : Array (Option Value)} {ocareqbetween kVareqbetween dcareqbetween pmareqbetween cdareqbetween ctareqbetween : Value}
    {fareqroads : Addr} {odareqroads anareqroads : Option Addr} {slareqroads : Array (Option Value)} {ocareqroads kVareqroads dcareqroads pmareqroads cdareqroads ctareqroads : Value}
    {fisqbeginqandqend : Addr} {odisqbeginqandqend anisqbeginqandqend : Option Addr} {slisqbeginqandqend : Array (Option Value)} {ocisqbeginqandqend kVisqbeginqandqend dcisqbeginqandqend pmisqbeginqandqend cdisqbeginqandqend ctisqbeginqandqend : Value}
    {fisqroad : Addr} {odisqroad anisqroad : Option Addr} {slisqroad : Array (Option Value)} {ocisqroad kVisqroad dcisqroad pmisqroad cdisqroad ctisqroad : Value}
    {fnextqroads : Addr} {odnextqroads annextqroads : Option Addr} {slnextqroads : Array (Option Value)} {ocnextqroads kVnextqroads dcnextqroads pmnextqroads cdnextqroads ctnextqroads : Value}
    {fisqlot : Addr} {odisqlot anisqlot : Option Addr} {slisqlot : Array (Option Value)} {ocisqlot kVisqlot dcisqlot pmisqlot cdisqlot ctisqlot : Value}
    {fisqsort : Addr} {odisqsort anisqsort : Option Addr} {slisqsort : Array (Option Value)} {ocisqsort kVisqsort dcisqsort pmisqsort cdisqsort ctisqsort : Value}
    {fcheckqlotqandqsort : Addr} {odcheckqlotqandqsort ancheckqlotqandqsort : Option Addr} {slcheckqlotqandqsort : Array (Option Value)} {occheckqlotqandqsort kVcheckqlotqandqsort dccheckqlotqandqsort pmcheckqlotqandqsort cdcheckqlotqandqsort ctcheckqlotqandqsort : Value}
    {fbadqplaces : Addr} {odbadqplaces anbadqplaces : Option Addr} {slbadqplaces : Array (Option Value)} {ocbadqplaces kVbadqplaces dcbadqplaces pmbadqplaces cdbadqplaces ctbadqplaces : Value}
    {fallqnext : Addr} {odallqnext anallqnext : Option Addr} {slallqnext : Array (Option Value)} {ocallqnext kVallqnext dcallqnext pmallqnext cdallqnext ctallqnext : Value}
    {fforks : Addr} {odforks anforks : Option Addr} {slforks : Array (Option Value)} {ocforks kVforks dcforks pmforks cdforks ctforks : Value}
    {frows : Addr} {odrows anrows : Option Addr} {slrows : Array (Option Value)} {ocrows kVrows dcrows pmrows cdrows ctrows : Value}
    {fisqbadqend : Addr} {odisqbadqend anisqbadqend : Option Addr} {slisqbadqend : Array (Option Value)} {ocisqbadqend kVisqbadqend dcisqbadqend pmisqbadqend cdisqbadqend ctisqbadqend : Value}
    {fisqenough : Addr} {odisqenough anisqenough : Option Addr} {slisqenough : Array (Option Value)} {ocisqenough kVisqenough dcisqenough pmisqenough cdisqenough ctisqenough : Value}
    {fkinds : Addr} {odkinds ankinds : Option Addr} {slkinds : Array (Option Value)} {ockinds kVkinds dckinds pmkinds cdkinds ctkinds : Value}
    {fkindqof : Addr} {odkindqof ankindqof : Option Addr} {slkindqof : Array (Option Value)} {ockindqof kVkindqof dckindqof pmkindqof cdkindqof ctkindqof : Value}
    {fisqkinds : Addr} {odisqkinds anisqkinds : Option Addr} {slisqkinds : Array (Option Value)} {ocisqkinds kVisqkinds dcisqkinds pmisqkinds cdisqkinds ctisqkinds : Value}
    {fqlawqpool : Addr} {odqlawqpool anqlawqpool : Option Addr} {slqlawqpool : Array (Option Value)} {ocqlawqpool kVqlawqpool dcqlawqpool pmqlawqpool cdqlawqpool ctqlawqpool : Value}
    {fqlawqdraw : Addr} {odqlawqdraw anqlawqdraw : Option Addr} {slqlawqdraw : Array (Option Value)} {ocqlawqdraw kVqlawqdraw dcqlawqdraw pmqlawqdraw cdqlawqdraw ctqlawqdraw : Value}
    {fqlawqsome : Addr} {odqlawqsome anqlawqsome : Option Addr} {slqlawqsome : Array (Option Value)} {ocqlawqsome kVqlawqsome dcqlawqsome pmqlawqsome cdqlawqsome ctqlawqsome : Value}
    {fqlawqfreeqroads : Addr} {odqlawqfreeqroads anqlawqfreeqroads : Option Addr} {slqlawqfreeqroads : Array (Option Value)} {ocqlawqfreeqroads kVqlawqfreeqroads dcqlawqfreeqroads pmqlawqfreeqroads cdqlawqfreeqroads ctqlawqfreeqroads : Value}
    {fqlawqtreeqroads : Addr} {odqlawqtreeqroads anqlawqtreeqroads : Option Addr} {slqlawqtreeqroads : Array (Option Value)} {ocqlawqtreeqroads kVqlawqtreeqroads dcqlawqtreeqroads pmqlawqtreeqroads cdqlawqtreeqroads ctqlawqtreeqroads : Value}
    {fqlawqringqroads : Addr} {odqlawqringqroads anqlawqringqroads : Option Addr} {slqlawqringqroads : Array (Option Value)} {ocqlawqringqroads kVqlawqringqroads dcqlawqringqroads pmqlawqringqroads cdqlawqringqroads ctqlawqringqroads : Value}
    {fqlawqweb : Addr} {odqlawqweb anqlawqweb : Option Addr} {slqlawqweb : Array (Option Value)} {ocqlawqweb kVqlawqweb dcqlawqweb pmqlawqweb cdqlawqweb ctqlawqweb : Value}
    {fqlawqgreatqweb : Addr} {odqlawqgreatqweb anqlawqgreatqweb : Option Addr} {slqlawqgreatqweb : Array (Option Value)} {ocqlawqgreatqweb kVqlawqgreatqweb dcqlawqgreatqweb pmqlawqgreatqweb cdqlawqgreatqweb ctqlawqgreatqweb : Value}
    {fqlawqnexts : Addr} {odqlawqnexts anqlawqnexts : Option Addr} {slqlawqnexts : Array (Option Value)} {ocqlawqnexts kVqlawqnexts dcqlawqnexts pmqlawqnexts cdqlawqnexts ctqlawqnexts : Value}
    {fqlawqmayqend : Addr} {odqlawqmayqend anqlawqmayqend : Option Addr} {slqlawqmayqend : Array (Option Value)} {ocqlawqmayqend kVqlawqmayqend dcqlawqmayqend pmqlawqmayqend cdqlawqmayqend ctqlawqmayqend : Value}
    {fqlawqbad : Addr} {odqlawqbad anqlawqbad : Option Addr} {slqlawqbad : Array (Option Value)} {ocqlawqbad kVqlawqbad dcqlawqbad pmqlawqbad cdqlawqbad ctqlawqbad : Value}
    {fqlawqlot : Addr} {odqlawqlot anqlawqlot : Option Addr} {slqlawqlot : Array (Option Value)} {ocqlawqlot kVqlawqlot dcqlawqlot pmqlawqlot cdqlawqlot ctqlawqlot : Value}
    {fqlawqenoughqlot : Addr} {odqlawqenoughqlot anqlawqenoughqlot : Option Addr} {slqlawqenoughqlot : Array (Option Value)} {ocqlawqenoughqlot kVqlawqenoughqlot dcqlawqenoughqlot pmqlawqenoughqlot cdqlawqenoughqlot ctqlawqenoughqlot : Value}
    {fqlawqmade : Addr} {odqlawqmade anqlawqmade : Option Addr} {slqlawqmade : Array (Option Value)} {ocqlawqmade kVqlawqmade dcqlawqmade pmqlawqmade cdqlawqmade ctqlawqmade : Value}
    {fqlawqkind : Addr} {odqlawqkind anqlawqkind : Option Addr} {slqlawqkind : Array (Option Value)} {ocqlawqkind kVqlawqkind dcqlawqkind pmqlawqkind cdqlawqkind ctqlawqkind : Value}
    {fqlawqkinds : Addr} {odqlawqkinds anqlawqkinds : Option Addr} {slqlawqkinds : Array (Option Value)} {ocqlawqkinds kVqlawqkinds dcqlawqkinds pmqlawqkinds cdqlawqkinds ctqlawqkinds : Value}
    {fqlawqisqright : Addr} {odqlawqisqright anqlawqisqright : Option Addr} {slqlawqisqright : Array (Option Value)} {ocqlawqisqright kVqlawqisqright dcqlawqisqright pmqlawqisqright cdqlawqisqright ctqlawqisqright : Value}
    {flaw : Addr} {odlaw anlaw : Option Addr} {sllaw : Array (Option Value)} {oclaw kVlaw dclaw pmlaw cdlaw ctlaw : Value}
    {tMOSTqHOUSES : Tok}
    {tMOSTqROADS : Tok}
    {tMOSTqROOMS : Tok}
    {tLONGESTqTIME : Tok}
    {SSORTS : Addr} {ddSORTS : Option Addr} {nSORTS : Nat} {slSORTS : Array (Option Value)} {tSORTS0 tSORTS1 : Tok}
    {CWWeb fWWeb : Addr} {odWWeb anWWeb : Option Addr} {slWWeb : Array (Option Value)} {ocWWeb kVWWeb dcWWeb pmWWeb cdWWeb ctWWeb : Value}
    {CXBadWeb fXBadWeb : Addr} {odXBadWeb anXBadWeb : Option Addr} {slXBadWeb : Array (Option Value)} {ocXBadWeb kVXBadWeb dcXBadWeb pmXBadWeb cdXBadWeb ctXBadWeb : Value} {nmXBadWeb qnXBadWeb : Str} {NXBadWeb : Addr} {bsXBadWeb bmXBadWeb : List Value} {snXBadWeb : List Str} {subXBadWeb : List Value} {abXBadWeb : Bool} {colXBadWeb : Option Bool} {ddXBadWeb : Option Addr} {m0XBadWeb m1XBadWeb m2XBadWeb m3XBadWeb m5XBadWeb : Option Value}
    {CXNoRoad fXNoRoad : Addr} {odXNoRoad anXNoRoad : Option Addr} {slXNoRoad : Array (Option Value)} {ocXNoRoad kVXNoRoad dcXNoRoad pmXNoRoad cdXNoRoad ctXNoRoad : Value} {nmXNoRoad qnXNoRoad : Str} {NXNoRoad : Addr} {bsXNoRoad bmXNoRoad : List Value} {snXNoRoad : List Str} {subXNoRoad : List Value} {abXNoRoad : Bool} {colXNoRoad : Option Bool} {ddXNoRoad : Option Addr} {m0XNoRoad m1XNoRoad m2XNoRoad m3XNoRoad m5XNoRoad : Option Value}
    {CXNoLot fXNoLot : Addr} {odXNoLot anXNoLot : Option Addr} {slXNoLot : Array (Option Value)} {ocXNoLot kVXNoLot dcXNoLot pmXNoLot cdXNoLot ctXNoLot : Value} {nmXNoLot qnXNoLot : Str} {NXNoLot : Addr} {bsXNoLot bmXNoLot : List Value} {snXNoLot : List Str} {subXNoLot : List Value} {abXNoLot : Bool} {colXNoLot : Option Bool} {ddXNoLot : Option Addr} {m0XNoLot m1XNoLot m2XNoLot m3XNoLot m5XNoLot : Option Value}
    {CXNoSort fXNoSort : Addr} {odXNoSort anXNoSort : Option Addr} {slXNoSort : Array (Option Value)} {ocXNoSort kVXNoSort dcXNoSort pmXNoSort cdXNoSort ctXNoSort : Value} {nmXNoSort qnXNoSort : Str} {NXNoSort : Addr} {bsXNoSort bmXNoSort : List Value} {snXNoSort : List Str} {subXNoSort : List Value} {abXNoSort : Bool} {colXNoSort : Option Bool} {ddXNoSort : Option Addr} {m0XNoSort m1XNoSort m2XNoSort m3XNoSort m5XNoSort : Option Value}
    (aisqinteger : PySem.W.nsIn K mainGlobals "is_integer" = some (some (.ref fisqinteger)))
    (lisqinteger : K.lookup fisqinteger = some ⟨ocisqinteger, odisqinteger, .func (PySem.W.fnOf "is_integer" "is_integer" (defArgs s_is_integer) (defBody s_is_integer) (defScope s_is_integer) .none kVisqinteger dcisqinteger pmisqinteger anisqinteger cdisqinteger ctisqinteger), slisqinteger⟩)
    (cisqinteger : PySem.W.codeIn K cdisqinteger "is_integer" = true)
    (kisqinteger : PySem.W.keepIn K (.ref fisqinteger) = true)
    (aisqbetween : PySem.W.nsIn K mainGlobals "is_between" = some (some (.ref fisqbetween)))
    (lisqbetween : K.lookup fisqbetween = some ⟨ocisqbetween, odisqbetween, .func (PySem.W.fnOf "is_between" "is_between" (defArgs s_is_between) (defBody s_is_between) (defScope s_is_between) .none kVisqbetween dcisqbetween pmisqbetween anisqbetween cdisqbetween ctisqbetween), slisqbetween⟩)
    (cisqbetween : PySem.W.codeIn K cdisqbetween "is_between" = true)
    (kisqbetween : PySem.W.keepIn K (.ref fisqbetween) = true)
    (aisqtuple : PySem.W.nsIn K mainGlobals "is_tuple" = some (some (.ref fisqtuple)))
    (lisqtuple : K.lookup fisqtuple = some ⟨ocisqtuple, odisqtuple, .func (PySem.W.fnOf "is_tuple" "is_tuple" (defArgs s_is_tuple) (defBody s_is_tuple) (defScope s_is_tuple) .none kVisqtuple dcisqtuple pmisqtuple anisqtuple cdisqtuple ctisqtuple), slisqtuple⟩)
    (cisqtuple : PySem.W.codeIn K cdisqtuple "is_tuple" = true)
    (kisqtuple : PySem.W.keepIn K (.ref fisqtuple) = true)
    (aareqintegers : PySem.W.nsIn K mainGlobals "are_integers" = some (some (.ref fareqintegers)))
    (lareqintegers : K.lookup fareqintegers = some ⟨ocareqintegers, odareqintegers, .func (PySem.W.fnOf "are_integers" "are_integers" (defArgs s_are_integers) (defBody s_are_integers) (defScope s_are_integers) .none kVareqintegers dcareqintegers pmareqintegers anareqintegers cdareqintegers ctareqintegers), slareqintegers⟩)
    (careqintegers : PySem.W.codeIn K cdareqintegers "are_integers" = true)
    (kareqintegers : PySem.W.keepIn K (.ref fareqintegers) = true)
    (aareqbetween : PySem.W.nsIn K mainGlobals "are_between" = some (some (.ref fareqbetween)))
    (lareqbetween : K.lookup fareqbetween = some ⟨ocareqbetween, odareqbetween, .func (PySem.W.fnOf "are_between" "are_between" (defArgs s_are_between) (defBody s_are_between) (defScope s_are_between) .none kVareqbetween dcareqbetween pmareqbetween anareqbetween cdareqbetween ctareqbetween), slareqbetween⟩)
    (careqbetween : PySem.W.codeIn K cdareqbetween "are_between" = true)
    (kareqbetween : PySem.W.keepIn K (.ref fareqbetween) = true)
    (aareqroads : PySem.W.nsIn K mainGlobals "are_roads" = some (some (.ref fareqroads)))
    (lareqroads : K.lookup fareqroads = some ⟨ocareqroads, odareqroads, .func (PySem.W.fnOf "are_roads" "are_roads" (defArgs s_are_roads) (defBody s_are_roads) (defScope s_are_roads) .none kVareqroads dcareqroads pmareqroads anareqroads cdareqroads ctareqroads), slareqroads⟩)
    (careqroads : PySem.W.codeIn K cdareqroads "are_roads" = true)
    (kareqroads : PySem.W.keepIn K (.ref fareqroads) = true)
    (aisqbeginqandqend : PySem.W.nsIn K mainGlobals "is_begin_and_end" = some (some (.ref fisqbeginqandqend)))
    (lisqbeginqandqend : K.lookup fisqbeginqandqend = some ⟨ocisqbeginqandqend, odisqbeginqandqend, .func (PySem.W.fnOf "is_begin_and_end" "is_begin_and_end" (defArgs s_is_begin_and_end) (defBody s_is_begin_and_end) (defScope s_is_begin_and_end) .none kVisqbeginqandqend dcisqbeginqandqend pmisqbeginqandqend anisqbeginqandqend cdisqbeginqandqend ctisqbeginqandqend), slisqbeginqandqend⟩)
    (cisqbeginqandqend : PySem.W.codeIn K cdisqbeginqandqend "is_begin_and_end" = true)
    (kisqbeginqandqend : PySem.W.keepIn K (.ref fisqbeginqandqend) = true)
    (aisqroad : PySem.W.nsIn K mainGlobals "is_road" = some (some (.ref fisqroad)))
    (lisqroad : K.lookup fisqroad = some ⟨ocisqroad, odisqroad, .func (PySem.W.fnOf "is_road" "is_road" (defArgs s_is_road) (defBody s_is_road) (defScope s_is_road) .none kVisqroad dcisqroad pmisqroad anisqroad cdisqroad ctisqroad), slisqroad⟩)
    (cisqroad : PySem.W.codeIn K cdisqroad "is_road" = true)
    (kisqroad : PySem.W.keepIn K (.ref fisqroad) = true)
    (anextqroads : PySem.W.nsIn K mainGlobals "next_roads" = some (some (.ref fnextqroads)))
    (lnextqroads : K.lookup fnextqroads = some ⟨ocnextqroads, odnextqroads, .func (PySem.W.fnOf "next_roads" "next_roads" (defArgs s_next_roads) (defBody s_next_roads) (defScope s_next_roads) .none kVnextqroads dcnextqroads pmnextqroads annextqroads cdnextqroads ctnextqroads), slnextqroads⟩)
    (cnextqroads : PySem.W.codeIn K cdnextqroads "next_roads" = true)
    (knextqroads : PySem.W.keepIn K (.ref fnextqroads) = true)
    (aisqlot : PySem.W.nsIn K mainGlobals "is_lot" = some (some (.ref fisqlot)))
    (lisqlot : K.lookup fisqlot = some ⟨ocisqlot, odisqlot, .func (PySem.W.fnOf "is_lot" "is_lot" (defArgs s_is_lot) (defBody s_is_lot) (defScope s_is_lot) .none kVisqlot dcisqlot pmisqlot anisqlot cdisqlot ctisqlot), slisqlot⟩)
    (cisqlot : PySem.W.codeIn K cdisqlot "is_lot" = true)
    (kisqlot : PySem.W.keepIn K (.ref fisqlot) = true)
    (aisqsort : PySem.W.nsIn K mainGlobals "is_sort" = some (some (.ref fisqsort)))
    (lisqsort : K.lookup fisqsort = some ⟨ocisqsort, odisqsort, .func (PySem.W.fnOf "is_sort" "is_sort" (defArgs s_is_sort) (defBody s_is_sort) (defScope s_is_sort) .none kVisqsort dcisqsort pmisqsort anisqsort cdisqsort ctisqsort), slisqsort⟩)
    (cisqsort : PySem.W.codeIn K cdisqsort "is_sort" = true)
    (kisqsort : PySem.W.keepIn K (.ref fisqsort) = true)
    (acheckqlotqandqsort : PySem.W.nsIn K mainGlobals "check_lot_and_sort" = some (some (.ref fcheckqlotqandqsort)))
    (lcheckqlotqandqsort : K.lookup fcheckqlotqandqsort = some ⟨occheckqlotqandqsort, odcheckqlotqandqsort, .func (PySem.W.fnOf "check_lot_and_sort" "check_lot_and_sort" (defArgs s_check_lot_and_sort) (defBody s_check_lot_and_sort) (defScope s_check_lot_and_sort) .none kVcheckqlotqandqsort dccheckqlotqandqsort pmcheckqlotqandqsort ancheckqlotqandqsort cdcheckqlotqandqsort ctcheckqlotqandqsort), slcheckqlotqandqsort⟩)
    (ccheckqlotqandqsort : PySem.W.codeIn K cdcheckqlotqandqsort "check_lot_and_sort" = true)
    (kcheckqlotqandqsort : PySem.W.keepIn K (.ref fcheckqlotqandqsort) = true)
    (abadqplaces : PySem.W.nsIn K mainGlobals "bad_places" = some (some (.ref fbadqplaces)))
    (lbadqplaces : K.lookup fbadqplaces = some ⟨ocbadqplaces, odbadqplaces, .func (PySem.W.fnOf "bad_places" "bad_places" (defArgs s_bad_places) (defBody s_bad_places) (defScope s_bad_places) .none kVbadqplaces dcbadqplaces pmbadqplaces anbadqplaces cdbadqplaces ctbadqplaces), slbadqplaces⟩)
    (cbadqplaces : PySem.W.codeIn K cdbadqplaces "bad_places" = true)
    (kbadqplaces : PySem.W.keepIn K (.ref fbadqplaces) = true)
    (aallqnext : PySem.W.nsIn K mainGlobals "all_next" = some (some (.ref fallqnext)))
    (lallqnext : K.lookup fallqnext = some ⟨ocallqnext, odallqnext, .func (PySem.W.fnOf "all_next" "all_next" (defArgs s_all_next) (defBody s_all_next) (defScope s_all_next) .none kVallqnext dcallqnext pmallqnext anallqnext cdallqnext ctallqnext), slallqnext⟩)
    (callqnext : PySem.W.codeIn K cdallqnext "all_next" = true)
    (kallqnext : PySem.W.keepIn K (.ref fallqnext) = true)
    (aforks : PySem.W.nsIn K mainGlobals "forks" = some (some (.ref fforks)))
    (lforks : K.lookup fforks = some ⟨ocforks, odforks, .func (PySem.W.fnOf "forks" "forks" (defArgs s_forks) (defBody s_forks) (defScope s_forks) .none kVforks dcforks pmforks anforks cdforks ctforks), slforks⟩)
    (cforks : PySem.W.codeIn K cdforks "forks" = true)
    (kforks : PySem.W.keepIn K (.ref fforks) = true)
    (arows : PySem.W.nsIn K mainGlobals "rows" = some (some (.ref frows)))
    (lrows : K.lookup frows = some ⟨ocrows, odrows, .func (PySem.W.fnOf "rows" "rows" (defArgs s_rows) (defBody s_rows) (defScope s_rows) .none kVrows dcrows pmrows anrows cdrows ctrows), slrows⟩)
    (crows : PySem.W.codeIn K cdrows "rows" = true)
    (krows : PySem.W.keepIn K (.ref frows) = true)
    (aisqbadqend : PySem.W.nsIn K mainGlobals "is_bad_end" = some (some (.ref fisqbadqend)))
    (lisqbadqend : K.lookup fisqbadqend = some ⟨ocisqbadqend, odisqbadqend, .func (PySem.W.fnOf "is_bad_end" "is_bad_end" (defArgs s_is_bad_end) (defBody s_is_bad_end) (defScope s_is_bad_end) .none kVisqbadqend dcisqbadqend pmisqbadqend anisqbadqend cdisqbadqend ctisqbadqend), slisqbadqend⟩)
    (cisqbadqend : PySem.W.codeIn K cdisqbadqend "is_bad_end" = true)
    (kisqbadqend : PySem.W.keepIn K (.ref fisqbadqend) = true)
    (aisqenough : PySem.W.nsIn K mainGlobals "is_enough" = some (some (.ref fisqenough)))
    (lisqenough : K.lookup fisqenough = some ⟨ocisqenough, odisqenough, .func (PySem.W.fnOf "is_enough" "is_enough" (defArgs s_is_enough) (defBody s_is_enough) (defScope s_is_enough) .none kVisqenough dcisqenough pmisqenough anisqenough cdisqenough ctisqenough), slisqenough⟩)
    (cisqenough : PySem.W.codeIn K cdisqenough "is_enough" = true)
    (kisqenough : PySem.W.keepIn K (.ref fisqenough) = true)
    (akinds : PySem.W.nsIn K mainGlobals "kinds" = some (some (.ref fkinds)))
    (lkinds : K.lookup fkinds = some ⟨ockinds, odkinds, .func (PySem.W.fnOf "kinds" "kinds" (defArgs s_kinds) (defBody s_kinds) (defScope s_kinds) .none kVkinds dckinds pmkinds ankinds cdkinds ctkinds), slkinds⟩)
    (ckinds : PySem.W.codeIn K cdkinds "kinds" = true)
    (kkinds : PySem.W.keepIn K (.ref fkinds) = true)
    (akindqof : PySem.W.nsIn K mainGlobals "kind_of" = some (some (.ref fkindqof)))
    (lkindqof : K.lookup fkindqof = some ⟨ockindqof, odkindqof, .func (PySem.W.fnOf "kind_of" "kind_of" (defArgs s_kind_of) (defBody s_kind_of) (defScope s_kind_of) .none kVkindqof dckindqof pmkindqof ankindqof cdkindqof ctkindqof), slkindqof⟩)
    (ckindqof : PySem.W.codeIn K cdkindqof "kind_of" = true)
    (kkindqof : PySem.W.keepIn K (.ref fkindqof) = true)
    (aisqkinds : PySem.W.nsIn K mainGlobals "is_kinds" = some (some (.ref fisqkinds)))
    (lisqkinds : K.lookup fisqkinds = some ⟨ocisqkinds, odisqkinds, .func (PySem.W.fnOf "is_kinds" "is_kinds" (defArgs s_is_kinds) (defBody s_is_kinds) (defScope s_is_kinds) .none kVisqkinds dcisqkinds pmisqkinds anisqkinds cdisqkinds ctisqkinds), slisqkinds⟩)
    (cisqkinds : PySem.W.codeIn K cdisqkinds "is_kinds" = true)
    (kisqkinds : PySem.W.keepIn K (.ref fisqkinds) = true)
    (aqlawqpool : PySem.W.nsIn K mainGlobals "_law_pool" = some (some (.ref fqlawqpool)))
    (lqlawqpool : K.lookup fqlawqpool = some ⟨ocqlawqpool, odqlawqpool, .func (PySem.W.fnOf "_law_pool" "_law_pool" (defArgs s_law_pool) (defBody s_law_pool) (defScope s_law_pool) .none kVqlawqpool dcqlawqpool pmqlawqpool anqlawqpool cdqlawqpool ctqlawqpool), slqlawqpool⟩)
    (cqlawqpool : PySem.W.codeIn K cdqlawqpool "_law_pool" = true)
    (kqlawqpool : PySem.W.keepIn K (.ref fqlawqpool) = true)
    (aqlawqdraw : PySem.W.nsIn K mainGlobals "_law_draw" = some (some (.ref fqlawqdraw)))
    (lqlawqdraw : K.lookup fqlawqdraw = some ⟨ocqlawqdraw, odqlawqdraw, .func (PySem.W.fnOf "_law_draw" "_law_draw" (defArgs s_law_draw) (defBody s_law_draw) (defScope s_law_draw) .none kVqlawqdraw dcqlawqdraw pmqlawqdraw anqlawqdraw cdqlawqdraw ctqlawqdraw), slqlawqdraw⟩)
    (cqlawqdraw : PySem.W.codeIn K cdqlawqdraw "_law_draw" = true)
    (kqlawqdraw : PySem.W.keepIn K (.ref fqlawqdraw) = true)
    (aqlawqsome : PySem.W.nsIn K mainGlobals "_law_some" = some (some (.ref fqlawqsome)))
    (lqlawqsome : K.lookup fqlawqsome = some ⟨ocqlawqsome, odqlawqsome, .func (PySem.W.fnOf "_law_some" "_law_some" (defArgs s_law_some) (defBody s_law_some) (defScope s_law_some) .none kVqlawqsome dcqlawqsome pmqlawqsome anqlawqsome cdqlawqsome ctqlawqsome), slqlawqsome⟩)
    (cqlawqsome : PySem.W.codeIn K cdqlawqsome "_law_some" = true)
    (kqlawqsome : PySem.W.keepIn K (.ref fqlawqsome) = true)
    (aqlawqfreeqroads : PySem.W.nsIn K mainGlobals "_law_free_roads" = some (some (.ref fqlawqfreeqroads)))
    (lqlawqfreeqroads : K.lookup fqlawqfreeqroads = some ⟨ocqlawqfreeqroads, odqlawqfreeqroads, .func (PySem.W.fnOf "_law_free_roads" "_law_free_roads" (defArgs s_law_free_roads) (defBody s_law_free_roads) (defScope s_law_free_roads) .none kVqlawqfreeqroads dcqlawqfreeqroads pmqlawqfreeqroads anqlawqfreeqroads cdqlawqfreeqroads ctqlawqfreeqroads), slqlawqfreeqroads⟩)
    (cqlawqfreeqroads : PySem.W.codeIn K cdqlawqfreeqroads "_law_free_roads" = true)
    (kqlawqfreeqroads : PySem.W.keepIn K (.ref fqlawqfreeqroads) = true)
    (aqlawqtreeqroads : PySem.W.nsIn K mainGlobals "_law_tree_roads" = some (some (.ref fqlawqtreeqroads)))
    (lqlawqtreeqroads : K.lookup fqlawqtreeqroads = some ⟨ocqlawqtreeqroads, odqlawqtreeqroads, .func (PySem.W.fnOf "_law_tree_roads" "_law_tree_roads" (defArgs s_law_tree_roads) (defBody s_law_tree_roads) (defScope s_law_tree_roads) .none kVqlawqtreeqroads dcqlawqtreeqroads pmqlawqtreeqroads anqlawqtreeqroads cdqlawqtreeqroads ctqlawqtreeqroads), slqlawqtreeqroads⟩)
    (cqlawqtreeqroads : PySem.W.codeIn K cdqlawqtreeqroads "_law_tree_roads" = true)
    (kqlawqtreeqroads : PySem.W.keepIn K (.ref fqlawqtreeqroads) = true)
    (aqlawqringqroads : PySem.W.nsIn K mainGlobals "_law_ring_roads" = some (some (.ref fqlawqringqroads)))
    (lqlawqringqroads : K.lookup fqlawqringqroads = some ⟨ocqlawqringqroads, odqlawqringqroads, .func (PySem.W.fnOf "_law_ring_roads" "_law_ring_roads" (defArgs s_law_ring_roads) (defBody s_law_ring_roads) (defScope s_law_ring_roads) .none kVqlawqringqroads dcqlawqringqroads pmqlawqringqroads anqlawqringqroads cdqlawqringqroads ctqlawqringqroads), slqlawqringqroads⟩)
    (cqlawqringqroads : PySem.W.codeIn K cdqlawqringqroads "_law_ring_roads" = true)
    (kqlawqringqroads : PySem.W.keepIn K (.ref fqlawqringqroads) = true)
    (aqlawqweb : PySem.W.nsIn K mainGlobals "_law_web" = some (some (.ref fqlawqweb)))
    (lqlawqweb : K.lookup fqlawqweb = some ⟨ocqlawqweb, odqlawqweb, .func (PySem.W.fnOf "_law_web" "_law_web" (defArgs s_law_web) (defBody s_law_web) (defScope s_law_web) .none kVqlawqweb dcqlawqweb pmqlawqweb anqlawqweb cdqlawqweb ctqlawqweb), slqlawqweb⟩)
    (cqlawqweb : PySem.W.codeIn K cdqlawqweb "_law_web" = true)
    (kqlawqweb : PySem.W.keepIn K (.ref fqlawqweb) = true)
    (aqlawqgreatqweb : PySem.W.nsIn K mainGlobals "_law_great_web" = some (some (.ref fqlawqgreatqweb)))
    (lqlawqgreatqweb : K.lookup fqlawqgreatqweb = some ⟨ocqlawqgreatqweb, odqlawqgreatqweb, .func (PySem.W.fnOf "_law_great_web" "_law_great_web" (defArgs s_law_great_web) (defBody s_law_great_web) (defScope s_law_great_web) .none kVqlawqgreatqweb dcqlawqgreatqweb pmqlawqgreatqweb anqlawqgreatqweb cdqlawqgreatqweb ctqlawqgreatqweb), slqlawqgreatqweb⟩)
    (cqlawqgreatqweb : PySem.W.codeIn K cdqlawqgreatqweb "_law_great_web" = true)
    (kqlawqgreatqweb : PySem.W.keepIn K (.ref fqlawqgreatqweb) = true)
    (aqlawqnexts : PySem.W.nsIn K mainGlobals "_law_nexts" = some (some (.ref fqlawqnexts)))
    (lqlawqnexts : K.lookup fqlawqnexts = some ⟨ocqlawqnexts, odqlawqnexts, .func (PySem.W.fnOf "_law_nexts" "_law_nexts" (defArgs s_law_nexts) (defBody s_law_nexts) (defScope s_law_nexts) .none kVqlawqnexts dcqlawqnexts pmqlawqnexts anqlawqnexts cdqlawqnexts ctqlawqnexts), slqlawqnexts⟩)
    (cqlawqnexts : PySem.W.codeIn K cdqlawqnexts "_law_nexts" = true)
    (kqlawqnexts : PySem.W.keepIn K (.ref fqlawqnexts) = true)
    (aqlawqmayqend : PySem.W.nsIn K mainGlobals "_law_may_end" = some (some (.ref fqlawqmayqend)))
    (lqlawqmayqend : K.lookup fqlawqmayqend = some ⟨ocqlawqmayqend, odqlawqmayqend, .func (PySem.W.fnOf "_law_may_end" "_law_may_end" (defArgs s_law_may_end) (defBody s_law_may_end) (defScope s_law_may_end) .none kVqlawqmayqend dcqlawqmayqend pmqlawqmayqend anqlawqmayqend cdqlawqmayqend ctqlawqmayqend), slqlawqmayqend⟩)
    (cqlawqmayqend : PySem.W.codeIn K cdqlawqmayqend "_law_may_end" = true)
    (kqlawqmayqend : PySem.W.keepIn K (.ref fqlawqmayqend) = true)
    (aqlawqbad : PySem.W.nsIn K mainGlobals "_law_bad" = some (some (.ref fqlawqbad)))
    (lqlawqbad : K.lookup fqlawqbad = some ⟨ocqlawqbad, odqlawqbad, .func (PySem.W.fnOf "_law_bad" "_law_bad" (defArgs s_law_bad) (defBody s_law_bad) (defScope s_law_bad) .none kVqlawqbad dcqlawqbad pmqlawqbad anqlawqbad cdqlawqbad ctqlawqbad), slqlawqbad⟩)
    (cqlawqbad : PySem.W.codeIn K cdqlawqbad "_law_bad" = true)
    (kqlawqbad : PySem.W.keepIn K (.ref fqlawqbad) = true)
    (aqlawqlot : PySem.W.nsIn K mainGlobals "_law_lot" = some (some (.ref fqlawqlot)))
    (lqlawqlot : K.lookup fqlawqlot = some ⟨ocqlawqlot, odqlawqlot, .func (PySem.W.fnOf "_law_lot" "_law_lot" (defArgs s_law_lot) (defBody s_law_lot) (defScope s_law_lot) .none kVqlawqlot dcqlawqlot pmqlawqlot anqlawqlot cdqlawqlot ctqlawqlot), slqlawqlot⟩)
    (cqlawqlot : PySem.W.codeIn K cdqlawqlot "_law_lot" = true)
    (kqlawqlot : PySem.W.keepIn K (.ref fqlawqlot) = true)
    (aqlawqenoughqlot : PySem.W.nsIn K mainGlobals "_law_enough_lot" = some (some (.ref fqlawqenoughqlot)))
    (lqlawqenoughqlot : K.lookup fqlawqenoughqlot = some ⟨ocqlawqenoughqlot, odqlawqenoughqlot, .func (PySem.W.fnOf "_law_enough_lot" "_law_enough_lot" (defArgs s_law_enough_lot) (defBody s_law_enough_lot) (defScope s_law_enough_lot) .none kVqlawqenoughqlot dcqlawqenoughqlot pmqlawqenoughqlot anqlawqenoughqlot cdqlawqenoughqlot ctqlawqenoughqlot), slqlawqenoughqlot⟩)
    (cqlawqenoughqlot : PySem.W.codeIn K cdqlawqenoughqlot "_law_enough_lot" = true)
    (kqlawqenoughqlot : PySem.W.keepIn K (.ref fqlawqenoughqlot) = true)
    (aqlawqmade : PySem.W.nsIn K mainGlobals "_law_made" = some (some (.ref fqlawqmade)))
    (lqlawqmade : K.lookup fqlawqmade = some ⟨ocqlawqmade, odqlawqmade, .func (PySem.W.fnOf "_law_made" "_law_made" (defArgs s_law_made) (defBody s_law_made) (defScope s_law_made) .none kVqlawqmade dcqlawqmade pmqlawqmade anqlawqmade cdqlawqmade ctqlawqmade), slqlawqmade⟩)
    (cqlawqmade : PySem.W.codeIn K cdqlawqmade "_law_made" = true)
    (kqlawqmade : PySem.W.keepIn K (.ref fqlawqmade) = true)
    (aqlawqkind : PySem.W.nsIn K mainGlobals "_law_kind" = some (some (.ref fqlawqkind)))
    (lqlawqkind : K.lookup fqlawqkind = some ⟨ocqlawqkind, odqlawqkind, .func (PySem.W.fnOf "_law_kind" "_law_kind" (defArgs s_law_kind) (defBody s_law_kind) (defScope s_law_kind) .none kVqlawqkind dcqlawqkind pmqlawqkind anqlawqkind cdqlawqkind ctqlawqkind), slqlawqkind⟩)
    (cqlawqkind : PySem.W.codeIn K cdqlawqkind "_law_kind" = true)
    (kqlawqkind : PySem.W.keepIn K (.ref fqlawqkind) = true)
    (aqlawqkinds : PySem.W.nsIn K mainGlobals "_law_kinds" = some (some (.ref fqlawqkinds)))
    (lqlawqkinds : K.lookup fqlawqkinds = some ⟨ocqlawqkinds, odqlawqkinds, .func (PySem.W.fnOf "_law_kinds" "_law_kinds" (defArgs s_law_kinds) (defBody s_law_kinds) (defScope s_law_kinds) .none kVqlawqkinds dcqlawqkinds pmqlawqkinds anqlawqkinds cdqlawqkinds ctqlawqkinds), slqlawqkinds⟩)
    (cqlawqkinds : PySem.W.codeIn K cdqlawqkinds "_law_kinds" = true)
    (kqlawqkinds : PySem.W.keepIn K (.ref fqlawqkinds) = true)
    (aqlawqisqright : PySem.W.nsIn K mainGlobals "_law_is_right" = some (some (.ref fqlawqisqright)))
    (lqlawqisqright : K.lookup fqlawqisqright = some ⟨ocqlawqisqright, odqlawqisqright, .func (PySem.W.fnOf "_law_is_right" "_law_is_right" (defArgs s_law_is_right) (defBody s_law_is_right) (defScope s_law_is_right) .none kVqlawqisqright dcqlawqisqright pmqlawqisqright anqlawqisqright cdqlawqisqright ctqlawqisqright), slqlawqisqright⟩)
    (cqlawqisqright : PySem.W.codeIn K cdqlawqisqright "_law_is_right" = true)
    (kqlawqisqright : PySem.W.keepIn K (.ref fqlawqisqright) = true)
    (alaw : PySem.W.nsIn K mainGlobals "law" = some (some (.ref flaw)))
    (llaw : K.lookup flaw = some ⟨oclaw, odlaw, .func (PySem.W.fnOf "law" "law" (defArgs s_law) (defBody s_law) (defScope s_law) .none kVlaw dclaw pmlaw anlaw cdlaw ctlaw), sllaw⟩)
    (claw : PySem.W.codeIn K cdlaw "law" = true)
    (klaw : PySem.W.keepIn K (.ref flaw) = true)
    (aMOSTqHOUSES : PySem.W.nsIn K mainGlobals "MOST_HOUSES" = some (some (.int 12 tMOSTqHOUSES)))
    (aMOSTqROADS : PySem.W.nsIn K mainGlobals "MOST_ROADS" = some (some (.int 24 tMOSTqROADS)))
    (aMOSTqROOMS : PySem.W.nsIn K mainGlobals "MOST_ROOMS" = some (some (.int 3 tMOSTqROOMS)))
    (aLONGESTqTIME : PySem.W.nsIn K mainGlobals "LONGEST_TIME" = some (some (.int 3 tLONGESTqTIME)))
    (aSORTS : PySem.W.nsIn K mainGlobals "SORTS" = some (some (.ref SSORTS)))
    (lSORTS : K.lookup SSORTS = some ⟨.type "tuple", ddSORTS, .seq #[.str "hours" tSORTS0, .str "turns" tSORTS1] nSORTS, slSORTS⟩)
    (aWWeb : PySem.W.nsIn K mainGlobals "Web" = some (some (.ref CWWeb)))
    (iWWeb : PySem.W.findIn K (.ref CWWeb) "__init__" = some (some (.ref fWWeb)))
    (yWWeb : PySem.W.isFn K (.ref fWWeb) = true)
    (lWWeb : K.lookup fWWeb = some ⟨ocWWeb, odWWeb, .func (PySem.W.fnOf "__init__" "Web.__init__" (defArgs s_Web___init) (defBody s_Web___init) (defScope s_Web___init) .none kVWWeb dcWWeb pmWWeb anWWeb cdWWeb ctWWeb), slWWeb⟩)
    (cWWeb : PySem.W.codeIn K cdWWeb "Web.__init__" = true)
    (kWWeb : PySem.W.keepIn K (.ref fWWeb) = true)
    (pgWWeb : PySem.W.plainGet K CWWeb Str.empty = true)
    (hdWWeb : PySem.W.hasDictIn K CWWeb = true)
    (poWWeb : PySem.W.plainOver K CWWeb = true)
    (saWWeb : PySem.W.findIn K (.ref CWWeb) "__setattr__" = some (some (.builtin "object.__setattr__")))
    (mkWWeb : PySem.W.makesIn K CWWeb = true)
    (kcWWeb : PySem.W.keepIn K (.ref CWWeb) = true)
    (naWWebhouses : PySem.W.findIn K (.ref CWWeb) "houses" = some none)
    (naWWebroads : PySem.W.findIn K (.ref CWWeb) "roads" = some none)
    (naWWebrooms : PySem.W.findIn K (.ref CWWeb) "rooms" = some none)
    (naWWebtimes : PySem.W.findIn K (.ref CWWeb) "times" = some none)
    (aXBadWeb : PySem.W.nsIn K mainGlobals "BadWeb" = some (some (.ref CXBadWeb)))
    (xXBadWeb : K.lookup CXBadWeb = some (excClassObj nmXBadWeb qnXBadWeb CXBadWeb NXBadWeb bsXBadWeb bmXBadWeb true snXBadWeb subXBadWeb abXBadWeb colXBadWeb ddXBadWeb m0XBadWeb m1XBadWeb m2XBadWeb m3XBadWeb m5XBadWeb "ValueError.__new__"))
    (bmXBadWebo : PySem.HandSPX.refsVE bmXBadWeb = true)
    (saXBadWeb : PySem.W.findIn K (.ref CXBadWeb) "__setattr__" = some (some (.builtin "object.__setattr__")))
    (gaXBadWeb : PySem.W.findIn K (.ref CXBadWeb) "__getattribute__" = some (some (.builtin "BaseException.__getattribute__")))
    (ggXBadWeb : PySem.W.findIn K (.ref CXBadWeb) "__getattr__" = some none)
    (iXBadWeb : PySem.W.findIn K (.ref CXBadWeb) "__init__" = some (some (.ref fXBadWeb)))
    (yXBadWeb : PySem.W.typeIn K (.ref fXBadWeb) = some (.type "function"))
    (lXBadWeb : K.lookup fXBadWeb = some ⟨ocXBadWeb, odXBadWeb, .func (PySem.W.fnOf "__init__" "BadWeb.__init__" (defArgs s_BadWeb___init) (defBody s_BadWeb___init) (defScope s_BadWeb___init) .none kVXBadWeb dcXBadWeb pmXBadWeb anXBadWeb cdXBadWeb ctXBadWeb), slXBadWeb⟩)
    (cXBadWeb : PySem.W.codeIn K cdXBadWeb "BadWeb.__init__" = true)
    (kXBadWeb : PySem.W.keepIn K (.ref fXBadWeb) = true)
    (kcXBadWeb : PySem.W.keepIn K (.ref CXBadWeb) = true)
    (exXBadWeb : PySem.W.subIn K (.ref CXBadWeb) (.type "BaseException") = some true)
    (tyXBadWeb : PySem.W.typeIn K (.ref CXBadWeb) = some (.type "type"))
    (hdXBadWeb : PySem.W.hasDictIn K CXBadWeb = true)
    (icXBadWeb : PySem.W.isClsIn K CXBadWeb = true)
    (suXBadWeb : PySem.W.subIn K (.ref CXBadWeb) (.ref CXBadWeb) = some true)
    (naXBadWebpart : PySem.W.findIn K (.ref CXBadWeb) "part" = some none)
    (aXNoRoad : PySem.W.nsIn K mainGlobals "NoRoad" = some (some (.ref CXNoRoad)))
    (xXNoRoad : K.lookup CXNoRoad = some (excClassObj nmXNoRoad qnXNoRoad CXNoRoad NXNoRoad bsXNoRoad bmXNoRoad true snXNoRoad subXNoRoad abXNoRoad colXNoRoad ddXNoRoad m0XNoRoad m1XNoRoad m2XNoRoad m3XNoRoad m5XNoRoad "ValueError.__new__"))
    (bmXNoRoado : PySem.HandSPX.refsVE bmXNoRoad = true)
    (saXNoRoad : PySem.W.findIn K (.ref CXNoRoad) "__setattr__" = some (some (.builtin "object.__setattr__")))
    (gaXNoRoad : PySem.W.findIn K (.ref CXNoRoad) "__getattribute__" = some (some (.builtin "BaseException.__getattribute__")))
    (ggXNoRoad : PySem.W.findIn K (.ref CXNoRoad) "__getattr__" = some none)
    (iXNoRoad : PySem.W.findIn K (.ref CXNoRoad) "__init__" = some (some (.ref fXNoRoad)))
    (yXNoRoad : PySem.W.typeIn K (.ref fXNoRoad) = some (.type "function"))
    (lXNoRoad : K.lookup fXNoRoad = some ⟨ocXNoRoad, odXNoRoad, .func (PySem.W.fnOf "__init__" "NoRoad.__init__" (defArgs s_NoRoad___init) (defBody s_NoRoad___init) (defScope s_NoRoad___init) .none kVXNoRoad dcXNoRoad pmXNoRoad anXNoRoad cdXNoRoad ctXNoRoad), slXNoRoad⟩)
    (cXNoRoad : PySem.W.codeIn K cdXNoRoad "NoRoad.__init__" = true)
    (kXNoRoad : PySem.W.keepIn K (.ref fXNoRoad) = true)
    (kcXNoRoad : PySem.W.keepIn K (.ref CXNoRoad) = true)
    (exXNoRoad : PySem.W.subIn K (.ref CXNoRoad) (.type "BaseException") = some true)
    (tyXNoRoad : PySem.W.typeIn K (.ref CXNoRoad) = some (.type "type"))
    (hdXNoRoad : PySem.W.hasDictIn K CXNoRoad = true)
    (icXNoRoad : PySem.W.isClsIn K CXNoRoad = true)
    (suXNoRoad : PySem.W.subIn K (.ref CXNoRoad) (.ref CXNoRoad) = some true)
    (aXNoLot : PySem.W.nsIn K mainGlobals "NoLot" = some (some (.ref CXNoLot)))
    (xXNoLot : K.lookup CXNoLot = some (excClassObj nmXNoLot qnXNoLot CXNoLot NXNoLot bsXNoLot bmXNoLot true snXNoLot subXNoLot abXNoLot colXNoLot ddXNoLot m0XNoLot m1XNoLot m2XNoLot m3XNoLot m5XNoLot "ValueError.__new__"))
    (bmXNoLoto : PySem.HandSPX.refsVE bmXNoLot = true)
    (saXNoLot : PySem.W.findIn K (.ref CXNoLot) "__setattr__" = some (some (.builtin "object.__setattr__")))
    (gaXNoLot : PySem.W.findIn K (.ref CXNoLot) "__getattribute__" = some (some (.builtin "BaseException.__getattribute__")))
    (ggXNoLot : PySem.W.findIn K (.ref CXNoLot) "__getattr__" = some none)
    (iXNoLot : PySem.W.findIn K (.ref CXNoLot) "__init__" = some (some (.ref fXNoLot)))
    (yXNoLot : PySem.W.typeIn K (.ref fXNoLot) = some (.type "function"))
    (lXNoLot : K.lookup fXNoLot = some ⟨ocXNoLot, odXNoLot, .func (PySem.W.fnOf "__init__" "NoLot.__init__" (defArgs s_NoLot___init) (defBody s_NoLot___init) (defScope s_NoLot___init) .none kVXNoLot dcXNoLot pmXNoLot anXNoLot cdXNoLot ctXNoLot), slXNoLot⟩)
    (cXNoLot : PySem.W.codeIn K cdXNoLot "NoLot.__init__" = true)
    (kXNoLot : PySem.W.keepIn K (.ref fXNoLot) = true)
    (kcXNoLot : PySem.W.keepIn K (.ref CXNoLot) = true)
    (exXNoLot : PySem.W.subIn K (.ref CXNoLot) (.type "BaseException") = some true)
    (tyXNoLot : PySem.W.typeIn K (.ref CXNoLot) = some (.type "type"))
    (hdXNoLot : PySem.W.hasDictIn K CXNoLot = true)
    (icXNoLot : PySem.W.isClsIn K CXNoLot = true)
    (suXNoLot : PySem.W.subIn K (.ref CXNoLot) (.ref CXNoLot) = some true)
    (aXNoSort : PySem.W.nsIn K mainGlobals "NoSort" = some (some (.ref CXNoSort)))
    (xXNoSort : K.lookup CXNoSort = some (excClassObj nmXNoSort qnXNoSort CXNoSort NXNoSort bsXNoSort bmXNoSort true snXNoSort subXNoSort abXNoSort colXNoSort ddXNoSort m0XNoSort m1XNoSort m2XNoSort m3XNoSort m5XNoSort "ValueError.__new__"))
    (bmXNoSorto : PySem.HandSPX.refsVE bmXNoSort = true)
    (saXNoSort : PySem.W.findIn K (.ref CXNoSort) "__setattr__" = some (some (.builtin "object.__setattr__")))
    (gaXNoSort : PySem.W.findIn K (.ref CXNoSort) "__getattribute__" = some (some (.builtin "BaseException.__getattribute__")))
    (ggXNoSort : PySem.W.findIn K (.ref CXNoSort) "__getattr__" = some none)
    (iXNoSort : PySem.W.findIn K (.ref CXNoSort) "__init__" = some (some (.ref fXNoSort)))
    (yXNoSort : PySem.W.typeIn K (.ref fXNoSort) = some (.type "function"))
    (lXNoSort : K.lookup fXNoSort = some ⟨ocXNoSort, odXNoSort, .func (PySem.W.fnOf "__init__" "NoSort.__init__" (defArgs s_NoSort___init) (defBody s_NoSort___init) (defScope s_NoSort___init) .none kVXNoSort dcXNoSort pmXNoSort anXNoSort cdXNoSort ctXNoSort), slXNoSort⟩)
    (cXNoSort : PySem.W.codeIn K cdXNoSort "NoSort.__init__" = true)
    (kXNoSort : PySem.W.keepIn K (.ref fXNoSort) = true)
    (kcXNoSort : PySem.W.keepIn K (.ref CXNoSort) = true)
    (exXNoSort : PySem.W.subIn K (.ref CXNoSort) (.type "BaseException") = some true)
    (tyXNoSort : PySem.W.typeIn K (.ref CXNoSort) = some (.type "type"))
    (hdXNoSort : PySem.W.hasDictIn K CXNoSort = true)
    (icXNoSort : PySem.W.isClsIn K CXNoSort = true)
    (suXNoSort : PySem.W.subIn K (.ref CXNoSort) (.ref CXNoSort) = some true)
    (anqisinstance : PySem.W.nsIn K mainGlobals "isinstance" = some none)
    (anqint : PySem.W.nsIn K mainGlobals "int" = some none)
    (anqbool : PySem.W.nsIn K mainGlobals "bool" = some none)
    (anqstr : PySem.W.nsIn K mainGlobals "str" = some none)
    (anqtuple : PySem.W.nsIn K mainGlobals "tuple" = some none)
    (anqlist : PySem.W.nsIn K mainGlobals "list" = some none)
    (anqlen : PySem.W.nsIn K mainGlobals "len" = some none)
    (anqall : PySem.W.nsIn K mainGlobals "all" = some none)
    (anqany : PySem.W.nsIn K mainGlobals "any" = some none)
    (anqabs : PySem.W.nsIn K mainGlobals "abs" = some none)
    (anqrange : PySem.W.nsIn K mainGlobals "range" = some none)
    (anqzip : PySem.W.nsIn K mainGlobals "zip" = some none)
    (anqenumerate : PySem.W.nsIn K mainGlobals "enumerate" = some none)
    (anqsorted : PySem.W.nsIn K mainGlobals "sorted" = some none) :
    ∃ T : Tx K mg, ∀ (s : Shared) (v : Value), BindsTo s T.law.fd ⟨[v], []⟩ [("_law_script", v)] := by
  refine ⟨{
    is_integer := ⟨fisqinteger, _, fun_mk (st := s_is_integer) lisqinteger cisqinteger kisqinteger, PySem.W.mg_of X G aisqinteger, (fun_mk (st := s_is_integer) lisqinteger cisqinteger kisqinteger).binds (fun _ _ _ _ _ _ us hl => match us, hl with | [_], _ => rfl)⟩
    is_between := ⟨fisqbetween, _, fun_mk (st := s_is_between) lisqbetween cisqbetween kisqbetween, PySem.W.mg_of X G aisqbetween, (fun_mk (st := s_is_between) lisqbetween cisqbetween kisqbetween).binds (fun _ _ _ _ _ _ us hl => match us, hl with | [_, _, _], _ => rfl)⟩
    is_tuple := ⟨fisqtuple, _, fun_mk (st := s_is_tuple) lisqtuple cisqtuple kisqtuple, PySem.W.mg_of X G aisqtuple, (fun_mk (st := s_is_tuple) lisqtuple cisqtuple kisqtuple).binds (fun _ _ _ _ _ _ us hl => match us, hl with | [_, _], _ => rfl)⟩
    are_integers := ⟨fareqintegers, _, fun_mk (st := s_are_integers) lareqintegers careqintegers kareqintegers, PySem.W.mg_of X G aareqintegers, (fun_mk (st := s_are_integers) lareqintegers careqintegers kareqintegers).binds (fun _ _ _ _ _ _ us hl => match us, hl with | [_, _], _ => rfl)⟩
    are_between := ⟨fareqbetween, _, fun_mk (st := s_are_between) lareqbetween careqbetween kareqbetween, PySem.W.mg_of X G aareqbetween, (fun_mk (st := s_are_between) lareqbetween careqbetween kareqbetween).binds (fun _ _ _ _ _ _ us hl => match us, hl with | [_, _, _, _], _ => rfl)⟩
    are_roads := ⟨fareqroads, _, fun_mk (st := s_are_roads) lareqroads careqroads kareqroads, PySem.W.mg_of X G aareqroads, (fun_mk (st := s_are_roads) lareqroads careqroads kareqroads).binds (fun _ _ _ _ _ _ us hl => match us, hl with | [_, _], _ => rfl)⟩
    is_begin_and_end := ⟨fisqbeginqandqend, _, fun_mk (st := s_is_begin_and_end) lisqbeginqandqend cisqbeginqandqend kisqbeginqandqend, PySem.W.mg_of X G aisqbeginqandqend, (fun_mk (st := s_is_begin_and_end) lisqbeginqandqend cisqbeginqandqend kisqbeginqandqend).binds (fun _ _ _ _ _ _ us hl => match us, hl with | [_, _], _ => rfl)⟩
    is_road := ⟨fisqroad, _, fun_mk (st := s_is_road) lisqroad cisqroad kisqroad, PySem.W.mg_of X G aisqroad, (fun_mk (st := s_is_road) lisqroad cisqroad kisqroad).binds (fun _ _ _ _ _ _ us hl => match us, hl with | [_, _], _ => rfl)⟩
    next_roads := ⟨fnextqroads, _, fun_mk (st := s_next_roads) lnextqroads cnextqroads knextqroads, PySem.W.mg_of X G anextqroads, (fun_mk (st := s_next_roads) lnextqroads cnextqroads knextqroads).binds (fun _ _ _ _ _ _ us hl => match us, hl with | [_, _], _ => rfl)⟩
    is_lot := ⟨fisqlot, _, fun_mk (st := s_is_lot) lisqlot cisqlot kisqlot, PySem.W.mg_of X G aisqlot, (fun_mk (st := s_is_lot) lisqlot cisqlot kisqlot).binds (fun _ _ _ _ _ _ us hl => match us, hl with | [_, _], _ => rfl)⟩
    is_sort := ⟨fisqsort, _, fun_mk (st := s_is_sort) lisqsort cisqsort kisqsort, PySem.W.mg_of X G aisqsort, (fun_mk (st := s_is_sort) lisqsort cisqsort kisqsort).binds (fun _ _ _ _ _ _ us hl => match us, hl with | [_], _ => rfl)⟩
    check_lot_and_sort := ⟨fcheckqlotqandqsort, _, fun_mk (st := s_check_lot_and_sort) lcheckqlotqandqsort ccheckqlotqandqsort kcheckqlotqandqsort, PySem.W.mg_of X G acheckqlotqandqsort, (fun_mk (st := s_check_lot_and_sort) lcheckqlotqandqsort ccheckqlotqandqsort kcheckqlotqandqsort).binds (fun _ _ _ _ _ _ us hl => match us, hl with | [_, _, _], _ => rfl)⟩
    bad_places := ⟨fbadqplaces, _, fun_mk (st := s_bad_places) lbadqplaces cbadqplaces kbadqplaces, PySem.W.mg_of X G abadqplaces, (fun_mk (st := s_bad_places) lbadqplaces cbadqplaces kbadqplaces).binds (fun _ _ _ _ _ _ us hl => match us, hl with | [_, _, _], _ => rfl)⟩
    all_next := ⟨fallqnext, _, fun_mk (st := s_all_next) lallqnext callqnext kallqnext, PySem.W.mg_of X G aallqnext, (fun_mk (st := s_all_next) lallqnext callqnext kallqnext).binds (fun _ _ _ _ _ _ us hl => match us, hl with | [_], _ => rfl)⟩
    forks := ⟨fforks, _, fun_mk (st := s_forks) lforks cforks kforks, PySem.W.mg_of X G aforks, (fun_mk (st := s_forks) lforks cforks kforks).binds (fun _ _ _ _ _ _ us hl => match us, hl with | [_, _, _], _ => rfl)⟩
    rows := ⟨frows, _, fun_mk (st := s_rows) lrows crows krows, PySem.W.mg_of X G arows, (fun_mk (st := s_rows) lrows crows krows).binds (fun _ _ _ _ _ _ us hl => match us, hl with | [_, _, _], _ => rfl)⟩
    is_bad_end := ⟨fisqbadqend, _, fun_mk (st := s_is_bad_end) lisqbadqend cisqbadqend kisqbadqend, PySem.W.mg_of X G aisqbadqend, (fun_mk (st := s_is_bad_end) lisqbadqend cisqbadqend kisqbadqend).binds (fun _ _ _ _ _ _ us hl => match us, hl with | [_, _, _, _], _ => rfl)⟩
    is_enough := ⟨fisqenough, _, fun_mk (st := s_is_enough) lisqenough cisqenough kisqenough, PySem.W.mg_of X G aisqenough, (fun_mk (st := s_is_enough) lisqenough cisqenough kisqenough).binds (fun _ _ _ _ _ _ us hl => match us, hl with | [_, _, _], _ => rfl)⟩
    kinds := ⟨fkinds, _, fun_mk (st := s_kinds) lkinds ckinds kkinds, PySem.W.mg_of X G akinds, (fun_mk (st := s_kinds) lkinds ckinds kkinds).binds (fun _ _ _ _ _ _ us hl => match us, hl with | [_, _, _], _ => rfl)⟩
    kind_of := ⟨fkindqof, _, fun_mk (st := s_kind_of) lkindqof ckindqof kkindqof, PySem.W.mg_of X G akindqof, (fun_mk (st := s_kind_of) lkindqof ckindqof kkindqof).binds (fun _ _ _ _ _ _ us hl => match us, hl with | [_, _, _, _], _ => rfl)⟩
    is_kinds := ⟨fisqkinds, _, fun_mk (st := s_is_kinds) lisqkinds cisqkinds kisqkinds, PySem.W.mg_of X G aisqkinds, (fun_mk (st := s_is_kinds) lisqkinds cisqkinds kisqkinds).binds (fun _ _ _ _ _ _ us hl => match us, hl with | [_, _, _, _], _ => rfl)⟩
    _law_pool := ⟨fqlawqpool, _, fun_mk (st := s_law_pool) lqlawqpool cqlawqpool kqlawqpool, PySem.W.mg_of X G aqlawqpool, (fun_mk (st := s_law_pool) lqlawqpool cqlawqpool kqlawqpool).binds (fun _ _ _ _ _ _ us hl => match us, hl with | [_], _ => rfl)⟩
    _law_draw := ⟨fqlawqdraw, _, fun_mk (st := s_law_draw) lqlawqdraw cqlawqdraw kqlawqdraw, PySem.W.mg_of X G aqlawqdraw, (fun_mk (st := s_law_draw) lqlawqdraw cqlawqdraw kqlawqdraw).binds (fun _ _ _ _ _ _ us hl => match us, hl with | [_, _], _ => rfl)⟩
    _law_some := ⟨fqlawqsome, _, fun_mk (st := s_law_some) lqlawqsome cqlawqsome kqlawqsome, PySem.W.mg_of X G aqlawqsome, (fun_mk (st := s_law_some) lqlawqsome cqlawqsome kqlawqsome).binds (fun _ _ _ _ _ _ us hl => match us, hl with | [_, _], _ => rfl)⟩
    _law_free_roads := ⟨fqlawqfreeqroads, _, fun_mk (st := s_law_free_roads) lqlawqfreeqroads cqlawqfreeqroads kqlawqfreeqroads, PySem.W.mg_of X G aqlawqfreeqroads, (fun_mk (st := s_law_free_roads) lqlawqfreeqroads cqlawqfreeqroads kqlawqfreeqroads).binds (fun _ _ _ _ _ _ us hl => match us, hl with | [_, _, _], _ => rfl)⟩
    _law_tree_roads := ⟨fqlawqtreeqroads, _, fun_mk (st := s_law_tree_roads) lqlawqtreeqroads cqlawqtreeqroads kqlawqtreeqroads, PySem.W.mg_of X G aqlawqtreeqroads, (fun_mk (st := s_law_tree_roads) lqlawqtreeqroads cqlawqtreeqroads kqlawqtreeqroads).binds (fun _ _ _ _ _ _ us hl => match us, hl with | [_, _], _ => rfl)⟩
    _law_ring_roads := ⟨fqlawqringqroads, _, fun_mk (st := s_law_ring_roads) lqlawqringqroads cqlawqringqroads kqlawqringqroads, PySem.W.mg_of X G aqlawqringqroads, (fun_mk (st := s_law_ring_roads) lqlawqringqroads cqlawqringqroads kqlawqringqroads).binds (fun _ _ _ _ _ _ us hl => match us, hl with | [_], _ => rfl)⟩
    _law_web := ⟨fqlawqweb, _, fun_mk (st := s_law_web) lqlawqweb cqlawqweb kqlawqweb, PySem.W.mg_of X G aqlawqweb, (fun_mk (st := s_law_web) lqlawqweb cqlawqweb kqlawqweb).binds (fun _ _ _ _ _ _ us hl => match us, hl with | [_, _], _ => rfl)⟩
    _law_great_web := ⟨fqlawqgreatqweb, _, fun_mk (st := s_law_great_web) lqlawqgreatqweb cqlawqgreatqweb kqlawqgreatqweb, PySem.W.mg_of X G aqlawqgreatqweb, (fun_mk (st := s_law_great_web) lqlawqgreatqweb cqlawqgreatqweb kqlawqgreatqweb).binds (fun _ _ _ _ _ _ us hl => match us, hl with | [_], _ => rfl)⟩
    _law_nexts := ⟨fqlawqnexts, _, fun_mk (st := s_law_nexts) lqlawqnexts cqlawqnexts kqlawqnexts, PySem.W.mg_of X G aqlawqnexts, (fun_mk (st := s_law_nexts) lqlawqnexts cqlawqnexts kqlawqnexts).binds (fun _ _ _ _ _ _ us hl => match us, hl with | [_], _ => rfl)⟩
    _law_may_end := ⟨fqlawqmayqend, _, fun_mk (st := s_law_may_end) lqlawqmayqend cqlawqmayqend kqlawqmayqend, PySem.W.mg_of X G aqlawqmayqend, (fun_mk (st := s_law_may_end) lqlawqmayqend cqlawqmayqend kqlawqmayqend).binds (fun _ _ _ _ _ _ us hl => match us, hl with | [_, _, _, _], _ => rfl)⟩
    _law_bad := ⟨fqlawqbad, _, fun_mk (st := s_law_bad) lqlawqbad cqlawqbad kqlawqbad, PySem.W.mg_of X G aqlawqbad, (fun_mk (st := s_law_bad) lqlawqbad cqlawqbad kqlawqbad).binds (fun _ _ _ _ _ _ us hl => match us, hl with | [_, _, _], _ => rfl)⟩
    _law_lot := ⟨fqlawqlot, _, fun_mk (st := s_law_lot) lqlawqlot cqlawqlot kqlawqlot, PySem.W.mg_of X G aqlawqlot, (fun_mk (st := s_law_lot) lqlawqlot cqlawqlot kqlawqlot).binds (fun _ _ _ _ _ _ us hl => match us, hl with | [_, _], _ => rfl)⟩
    _law_enough_lot := ⟨fqlawqenoughqlot, _, fun_mk (st := s_law_enough_lot) lqlawqenoughqlot cqlawqenoughqlot kqlawqenoughqlot, PySem.W.mg_of X G aqlawqenoughqlot, (fun_mk (st := s_law_enough_lot) lqlawqenoughqlot cqlawqenoughqlot kqlawqenoughqlot).binds (fun _ _ _ _ _ _ us hl => match us, hl with | [_, _, _], _ => rfl)⟩
    _law_made := ⟨fqlawqmade, _, fun_mk (st := s_law_made) lqlawqmade cqlawqmade kqlawqmade, PySem.W.mg_of X G aqlawqmade, (fun_mk (st := s_law_made) lqlawqmade cqlawqmade kqlawqmade).binds (fun _ _ _ _ _ _ us hl => match us, hl with | [_], _ => rfl)⟩
    _law_kind := ⟨fqlawqkind, _, fun_mk (st := s_law_kind) lqlawqkind cqlawqkind kqlawqkind, PySem.W.mg_of X G aqlawqkind, (fun_mk (st := s_law_kind) lqlawqkind cqlawqkind kqlawqkind).binds (fun _ _ _ _ _ _ us hl => match us, hl with | [_, _, _, _], _ => rfl)⟩
    _law_kinds := ⟨fqlawqkinds, _, fun_mk (st := s_law_kinds) lqlawqkinds cqlawqkinds kqlawqkinds, PySem.W.mg_of X G aqlawqkinds, (fun_mk (st := s_law_kinds) lqlawqkinds cqlawqkinds kqlawqkinds).binds (fun _ _ _ _ _ _ us hl => match us, hl with | [_, _, _], _ => rfl)⟩
    _law_is_right := ⟨fqlawqisqright, _, fun_mk (st := s_law_is_right) lqlawqisqright cqlawqisqright kqlawqisqright, PySem.W.mg_of X G aqlawqisqright, (fun_mk (st := s_law_is_right) lqlawqisqright cqlawqisqright kqlawqisqright).binds (fun _ _ _ _ _ _ us hl => match us, hl with | [_, _, _, _], _ => rfl)⟩
    law := ⟨flaw, _, fun_mk (st := s_law) llaw claw klaw, PySem.W.mg_of X G alaw, (fun_mk (st := s_law) llaw claw klaw).binds (fun _ _ _ _ _ _ us hl => match us, hl with | [_], _ => rfl)⟩
    c_MOST_HOUSES := ⟨_, PySem.W.mg_of X G aMOSTqHOUSES⟩
    c_MOST_ROADS := ⟨_, PySem.W.mg_of X G aMOSTqROADS⟩
    c_MOST_ROOMS := ⟨_, PySem.W.mg_of X G aMOSTqROOMS⟩
    c_LONGEST_TIME := ⟨_, PySem.W.mg_of X G aLONGESTqTIME⟩
    c_SORTS := ⟨SSORTS, PySem.W.mg_of X G aSORTS, fun H => .inr ⟨_, _, _, lSORTS, rfl, rfl, (by show 2 ≤ sizeLine; decide), (.cons ⟨_, rfl⟩ (.cons ⟨_, rfl⟩ .nil))⟩⟩
    Web := ⟨CWWeb, fWWeb, _, fun_mk (st := s_Web___init) lWWeb cWWeb kWWeb, PySem.W.mg_of X G aWWeb, (fun_mk (st := s_Web___init) lWWeb cWWeb kWWeb).binds (fun _ _ _ _ _ _ us hl => match us, hl with | [_, _, _, _, _], _ => rfl), ⟨mkWWeb, iWWeb, yWWeb, kcWWeb⟩, ⟨pgWWeb, hdWWeb, poWWeb, saWWeb⟩, by intro x hx; simp only [List.mem_cons, List.not_mem_nil, or_false] at hx; rcases hx with rfl | rfl | rfl | rfl <;> assumption⟩
    x_BadWeb := ⟨CXBadWeb, fXBadWeb, _, fun_mk (st := s_BadWeb___init) lXBadWeb cXBadWeb kXBadWeb, PySem.W.mg_of X G aXBadWeb, (fun_mk (st := s_BadWeb___init) lXBadWeb cXBadWeb kXBadWeb).binds (fun _ _ _ _ _ _ us hl => match us, hl with | [_, _], _ => rfl), ⟨⟨_, _, _, _, _, _, _, _, _, _, _, _, _, _, _, xXBadWeb, bmXBadWebo⟩, saXBadWeb, exXBadWeb, tyXBadWeb, kcXBadWeb⟩, iXBadWeb, yXBadWeb, ⟨gaXBadWeb, ggXBadWeb, exXBadWeb, hdXBadWeb⟩, exm_self exXBadWeb icXBadWeb tyXBadWeb suXBadWeb, (fun x hx => by simp only [List.mem_cons, List.not_mem_nil, or_false] at hx; rcases hx with rfl <;> assumption)⟩
    x_NoRoad := ⟨CXNoRoad, fXNoRoad, _, fun_mk (st := s_NoRoad___init) lXNoRoad cXNoRoad kXNoRoad, PySem.W.mg_of X G aXNoRoad, (fun_mk (st := s_NoRoad___init) lXNoRoad cXNoRoad kXNoRoad).binds (fun _ _ _ _ _ _ us hl => match us, hl with | [_], _ => rfl), ⟨⟨_, _, _, _, _, _, _, _, _, _, _, _, _, _, _, xXNoRoad, bmXNoRoado⟩, saXNoRoad, exXNoRoad, tyXNoRoad, kcXNoRoad⟩, iXNoRoad, yXNoRoad, ⟨gaXNoRoad, ggXNoRoad, exXNoRoad, hdXNoRoad⟩, exm_self exXNoRoad icXNoRoad tyXNoRoad suXNoRoad, (fun x hx => nomatch hx)⟩
    x_NoLot := ⟨CXNoLot, fXNoLot, _, fun_mk (st := s_NoLot___init) lXNoLot cXNoLot kXNoLot, PySem.W.mg_of X G aXNoLot, (fun_mk (st := s_NoLot___init) lXNoLot cXNoLot kXNoLot).binds (fun _ _ _ _ _ _ us hl => match us, hl with | [_], _ => rfl), ⟨⟨_, _, _, _, _, _, _, _, _, _, _, _, _, _, _, xXNoLot, bmXNoLoto⟩, saXNoLot, exXNoLot, tyXNoLot, kcXNoLot⟩, iXNoLot, yXNoLot, ⟨gaXNoLot, ggXNoLot, exXNoLot, hdXNoLot⟩, exm_self exXNoLot icXNoLot tyXNoLot suXNoLot, (fun x hx => nomatch hx)⟩
    x_NoSort := ⟨CXNoSort, fXNoSort, _, fun_mk (st := s_NoSort___init) lXNoSort cXNoSort kXNoSort, PySem.W.mg_of X G aXNoSort, (fun_mk (st := s_NoSort___init) lXNoSort cXNoSort kXNoSort).binds (fun _ _ _ _ _ _ us hl => match us, hl with | [_], _ => rfl), ⟨⟨_, _, _, _, _, _, _, _, _, _, _, _, _, _, _, xXNoSort, bmXNoSorto⟩, saXNoSort, exXNoSort, tyXNoSort, kcXNoSort⟩, iXNoSort, yXNoSort, ⟨gaXNoSort, ggXNoSort, exXNoSort, hdXNoSort⟩, exm_self exXNoSort icXNoSort tyXNoSort suXNoSort, (fun x hx => nomatch hx)⟩
    n_isinstance := PySem.W.mg_none_of X G anqisinstance
    n_int := PySem.W.mg_none_of X G anqint
    n_bool := PySem.W.mg_none_of X G anqbool
    n_str := PySem.W.mg_none_of X G anqstr
    n_tuple := PySem.W.mg_none_of X G anqtuple
    n_list := PySem.W.mg_none_of X G anqlist
    n_len := PySem.W.mg_none_of X G anqlen
    n_all := PySem.W.mg_none_of X G anqall
    n_any := PySem.W.mg_none_of X G anqany
    n_abs := PySem.W.mg_none_of X G anqabs
    n_range := PySem.W.mg_none_of X G anqrange
    n_zip := PySem.W.mg_none_of X G anqzip
    n_enumerate := PySem.W.mg_none_of X G anqenumerate
    n_sorted := PySem.W.mg_none_of X G anqsorted
  }, fun s v => .of_eq rfl⟩

theorem fin {l : PySem.W.OpenLaw} {w : World} {K : PySem.W.Frag} {mg : Str → Option Value} {fa : Addr} (hfa : mg "law" = some (.ref fa)) (h : ∃ T : Tx K mg, ∀ (s : Shared) (v : Value), BindsTo s T.law.fd ⟨[v], []⟩ [("_law_script", v)]) :
    ∃ fd : FuncData, (∀ (s : Shared) (v : Value), BindsTo s fd ⟨[v], []⟩ [("_law_script", v)]) ∧ ∀ base : Heap, K.In base → base.Ns mainGlobals mg → FnOk l.prog w K mg base CX0 10 fa fd ["_law_script"] (spLaw K) := by
  obtain ⟨T, b⟩ := h
  have e := hfa.symm.trans T.law.g
  cases e
  exact ⟨T.law.fd, b, fun base _ _ => ok_law T⟩
theorem walk {l : PySem.W.OpenLaw} {q : Program} {loose : List Str} {XP : (Str → Option Value) → Heap → Prop} {YP : World → Heap → Prop} {d : DefRec} {K : Params → PySem.W.Frag} (hn : l.most = some 63) (hdf : d.params.defaults = [])
    (hY : ∀ (w : World) (h : Heap), YP w h → (K w.params).In h)
    (F : ∀ (w : World) (mg : Str → Option Value) (fa : Addr) (h : Heap), (K w.params).In h → h.Ns mainGlobals mg → mg d.name = some (.ref fa) →
      ∃ fd : FuncData, (∀ (s : Shared) (u : Value), BindsTo s fd ⟨[u], []⟩ [("_law_script", u)]) ∧ ∀ base : Heap, (K w.params).In base → base.Ns mainGlobals mg → FnOk l.prog w (K w.params) mg base CX0 10 fa fd ["_law_script"] (spLaw (K w.params))) :
    PySem.W.WalkO q loose XP YP l.row.toRowW d [] (fun f vs => PySem.call f vs) :=
  L2.walk_of (n := 63) (k := 10) (x := "_law_script") (CX := fun _ => CX0) (sp := fun w => spLaw (K w.params)) hn (by decide) hdf ⟨rfl, by decide, by decide⟩ hY F (fun _ _ a ns hl _ hS => ⟨a, ns, rfl, hS, hl, fun _ => rfl⟩) fun _ _ _ _ _ z => z
end Hc

set_option Elab.async false
set_option linter.all false
open PySem PySem.W PyProof.Rows
set_option maxRecDepth 100000 in
set_option maxHeartbeats 0 in
theorem PySem.Challenge.cw_hourcards_k26_whole_kinds_or_a_bad_place_holds : PySem.Challenge.rw_hourcards_k26_whole_kinds_or_a_bad_place.Holds := by
  w_on; o_law; k_head; (case hw => w_witness2)
  k_fill
  refine Hc.walk (l := PySem.Challenge.rw_hourcards_k26_whole_kinds_or_a_bad_place) rfl rfl (fun w h Y => PySem.W.kIn_of Y) ?F
  case F =>
    intro w mg fa h KX G hmg
    refine Hc.fin hmg ?T
    refine' Hc.tx_mk KX G ?aisqinteger ?lisqinteger ?cisqinteger ?kisqinteger ?aisqbetween ?lisqbetween ?cisqbetween ?kisqbetween ?aisqtuple ?lisqtuple ?cisqtuple ?kisqtuple ?aareqintegers ?lareqintegers ?careqintegers ?kareqintegers ?aareqbetween ?lareqbetween ?careqbetween ?kareqbetween ?aareqroads ?lareqroads ?careqroads ?kareqroads ?aisqbeginqandqend ?lisqbeginqandqend ?cisqbeginqandqend ?kisqbeginqandqend ?aisqroad ?lisqroad ?cisqroad ?kisqroad ?anextqroads ?lnextqroads ?cnextqroads ?knextqroads ?aisqlot ?lisqlot ?cisqlot ?kisqlot ?aisqsort ?lisqsort ?cisqsort ?kisqsort ?acheckqlotqandqsort ?lcheckqlotqandqsort ?ccheckqlotqandqsort ?kcheckqlotqandqsort ?abadqplaces ?lbadqplaces ?cbadqplaces ?kbadqplaces ?aallqnext ?lallqnext ?callqnext ?kallqnext ?aforks ?lforks ?cforks ?kforks ?arows ?lrows ?crows ?krows ?aisqbadqend ?lisqbadqend ?cisqbadqend ?kisqbadqend ?aisqenough ?lisqenough ?cisqenough ?kisqenough ?akinds ?lkinds ?ckinds ?kkinds ?akindqof ?lkindqof ?ckindqof ?kkindqof ?aisqkinds ?lisqkinds ?cisqkinds ?kisqkinds ?aqlawqpool ?lqlawqpool ?cqlawqpool ?kqlawqpool ?aqlawqdraw ?lqlawqdraw ?cqlawqdraw ?kqlawqdraw ?aqlawqsome ?lqlawqsome ?cqlawqsome ?kqlawqsome ?aqlawqfreeqroads ?lqlawqfreeqroads ?cqlawqfreeqroads ?kqlawqfreeqroads ?aqlawqtreeqroads ?lqlawqtreeqroads ?cqlawqtreeqroads ?kqlawqtreeqroads ?aqlawqringqroads ?lqlawqringqroads ?cqlawqringqroads ?kqlawqringqroads ?aqlawqweb ?lqlawqweb ?cqlawqweb ?kqlawqweb ?aqlawqgreatqweb ?lqlawqgreatqweb ?cqlawqgreatqweb ?kqlawqgreatqweb ?aqlawqnexts ?lqlawqnexts ?cqlawqnexts ?kqlawqnexts ?aqlawqmayqend ?lqlawqmayqend ?cqlawqmayqend ?kqlawqmayqend ?aqlawqbad ?lqlawqbad ?cqlawqbad ?kqlawqbad ?aqlawqlot ?lqlawqlot ?cqlawqlot ?kqlawqlot ?aqlawqenoughqlot ?lqlawqenoughqlot ?cqlawqenoughqlot ?kqlawqenoughqlot ?aqlawqmade ?lqlawqmade ?cqlawqmade ?kqlawqmade ?aqlawqkind ?lqlawqkind ?cqlawqkind ?kqlawqkind ?aqlawqkinds ?lqlawqkinds ?cqlawqkinds ?kqlawqkinds ?aqlawqisqright ?lqlawqisqright ?cqlawqisqright ?kqlawqisqright ?alaw ?llaw ?claw ?klaw ?aMOSTqHOUSES ?aMOSTqROADS ?aMOSTqROOMS ?aLONGESTqTIME ?aSORTS ?lSORTS ?aWWeb ?iWWeb ?yWWeb ?lWWeb ?cWWeb ?kWWeb ?pgWWeb ?hdWWeb ?poWWeb ?saWWeb ?mkWWeb ?kcWWeb ?naWWebhouses ?naWWebroads ?naWWebrooms ?naWWebtimes ?aXBadWeb ?xXBadWeb ?bmXBadWebo ?saXBadWeb ?gaXBadWeb ?ggXBadWeb ?iXBadWeb ?yXBadWeb ?lXBadWeb ?cXBadWeb ?kXBadWeb ?kcXBadWeb ?exXBadWeb ?tyXBadWeb ?hdXBadWeb ?icXBadWeb ?suXBadWeb ?naXBadWebpart ?aXNoRoad ?xXNoRoad ?bmXNoRoado ?saXNoRoad ?gaXNoRoad ?ggXNoRoad ?iXNoRoad ?yXNoRoad ?lXNoRoad ?cXNoRoad ?kXNoRoad ?kcXNoRoad ?exXNoRoad ?tyXNoRoad ?hdXNoRoad ?icXNoRoad ?suXNoRoad ?aXNoLot ?xXNoLot ?bmXNoLoto ?saXNoLot ?gaXNoLot ?ggXNoLot ?iXNoLot ?yXNoLot ?lXNoLot ?cXNoLot ?kXNoLot ?kcXNoLot ?exXNoLot ?tyXNoLot ?hdXNoLot ?icXNoLot ?suXNoLot ?aXNoSort ?xXNoSort ?bmXNoSorto ?saXNoSort ?gaXNoSort ?ggXNoSort ?iXNoSort ?yXNoSort ?lXNoSort ?cXNoSort ?kXNoSort ?kcXNoSort ?exXNoSort ?tyXNoSort ?hdXNoSort ?icXNoSort ?suXNoSort ?anqisinstance ?anqint ?anqbool ?anqstr ?anqtuple ?anqlist ?anqlen ?anqall ?anqany ?anqabs ?anqrange ?anqzip ?anqenumerate ?anqsorted
    (case aisqinteger => k_is)
    (case lisqinteger => k_is)
    (case cisqinteger => k_is)
    (case kisqinteger => k_is)
    (case aisqbetween => k_is)
    (case lisqbetween => k_is)
    (case cisqbetween => k_is)
    (case kisqbetween => k_is)
    (case aisqtuple => k_is)
    (case lisqtuple => k_is)
    (case cisqtuple => k_is)
    (case kisqtuple => k_is)
    (case aareqintegers => k_is)
    (case lareqintegers => k_is)
    (case careqintegers => k_is)
    (case kareqintegers => k_is)
    (case aareqbetween => k_is)
    (case lareqbetween => k_is)
    (case careqbetween => k_is)
    (case kareqbetween => k_is)
    (case aareqroads => k_is)
    (case lareqroads => k_is)
    (case careqroads => k_is)
    (case kareqroads => k_is)
    (case aisqbeginqandqend => k_is)
    (case lisqbeginqandqend => k_is)
    (case cisqbeginqandqend => k_is)
    (case kisqbeginqandqend => k_is)
    (case aisqroad => k_is)
    (case lisqroad => k_is)
    (case cisqroad => k_is)
    (case kisqroad => k_is)
    (case anextqroads => k_is)
    (case lnextqroads => k_is)
    (case cnextqroads => k_is)
    (case knextqroads => k_is)
    (case aisqlot => k_is)
    (case lisqlot => k_is)
    (case cisqlot => k_is)
    (case kisqlot => k_is)
    (case aisqsort => k_is)
    (case lisqsort => k_is)
    (case cisqsort => k_is)
    (case kisqsort => k_is)
    (case acheckqlotqandqsort => k_is)
    (case lcheckqlotqandqsort => k_is)
    (case ccheckqlotqandqsort => k_is)
    (case kcheckqlotqandqsort => k_is)
    (case abadqplaces => k_is)
    (case lbadqplaces => k_is)
    (case cbadqplaces => k_is)
    (case kbadqplaces => k_is)
    (case aallqnext => k_is)
    (case lallqnext => k_is)
    (case callqnext => k_is)
    (case kallqnext => k_is)
    (case aforks => k_is)
    (case lforks => k_is)
    (case cforks => k_is)
    (case kforks => k_is)
    (case arows => k_is)
    (case lrows => k_is)
    (case crows => k_is)
    (case krows => k_is)
    (case aisqbadqend => k_is)
    (case lisqbadqend => k_is)
    (case cisqbadqend => k_is)
    (case kisqbadqend => k_is)
    (case aisqenough => k_is)
    (case lisqenough => k_is)
    (case cisqenough => k_is)
    (case kisqenough => k_is)
    (case akinds => k_is)
    (case lkinds => k_is)
    (case ckinds => k_is)
    (case kkinds => k_is)
    (case akindqof => k_is)
    (case lkindqof => k_is)
    (case ckindqof => k_is)
    (case kkindqof => k_is)
    (case aisqkinds => k_is)
    (case lisqkinds => k_is)
    (case cisqkinds => k_is)
    (case kisqkinds => k_is)
    (case aqlawqpool => k_is)
    (case lqlawqpool => k_is)
    (case cqlawqpool => k_is)
    (case kqlawqpool => k_is)
    (case aqlawqdraw => k_is)
    (case lqlawqdraw => k_is)
    (case cqlawqdraw => k_is)
    (case kqlawqdraw => k_is)
    (case aqlawqsome => k_is)
    (case lqlawqsome => k_is)
    (case cqlawqsome => k_is)
    (case kqlawqsome => k_is)
    (case aqlawqfreeqroads => k_is)
    (case lqlawqfreeqroads => k_is)
    (case cqlawqfreeqroads => k_is)
    (case kqlawqfreeqroads => k_is)
    (case aqlawqtreeqroads => k_is)
    (case lqlawqtreeqroads => k_is)
    (case cqlawqtreeqroads => k_is)
    (case kqlawqtreeqroads => k_is)
    (case aqlawqringqroads => k_is)
    (case lqlawqringqroads => k_is)
    (case cqlawqringqroads => k_is)
    (case kqlawqringqroads => k_is)
    (case aqlawqweb => k_is)
    (case lqlawqweb => k_is)
    (case cqlawqweb => k_is)
    (case kqlawqweb => k_is)
    (case aqlawqgreatqweb => k_is)
    (case lqlawqgreatqweb => k_is)
    (case cqlawqgreatqweb => k_is)
    (case kqlawqgreatqweb => k_is)
    (case aqlawqnexts => k_is)
    (case lqlawqnexts => k_is)
    (case cqlawqnexts => k_is)
    (case kqlawqnexts => k_is)
    (case aqlawqmayqend => k_is)
    (case lqlawqmayqend => k_is)
    (case cqlawqmayqend => k_is)
    (case kqlawqmayqend => k_is)
    (case aqlawqbad => k_is)
    (case lqlawqbad => k_is)
    (case cqlawqbad => k_is)
    (case kqlawqbad => k_is)
    (case aqlawqlot => k_is)
    (case lqlawqlot => k_is)
    (case cqlawqlot => k_is)
    (case kqlawqlot => k_is)
    (case aqlawqenoughqlot => k_is)
    (case lqlawqenoughqlot => k_is)
    (case cqlawqenoughqlot => k_is)
    (case kqlawqenoughqlot => k_is)
    (case aqlawqmade => k_is)
    (case lqlawqmade => k_is)
    (case cqlawqmade => k_is)
    (case kqlawqmade => k_is)
    (case aqlawqkind => k_is)
    (case lqlawqkind => k_is)
    (case cqlawqkind => k_is)
    (case kqlawqkind => k_is)
    (case aqlawqkinds => k_is)
    (case lqlawqkinds => k_is)
    (case cqlawqkinds => k_is)
    (case kqlawqkinds => k_is)
    (case aqlawqisqright => k_is)
    (case lqlawqisqright => k_is)
    (case cqlawqisqright => k_is)
    (case kqlawqisqright => k_is)
    (case alaw => k_is)
    (case llaw => k_is)
    (case claw => k_is)
    (case klaw => k_is)
    (case aMOSTqHOUSES => k_is)
    (case aMOSTqROADS => k_is)
    (case aMOSTqROOMS => k_is)
    (case aLONGESTqTIME => k_is)
    (case aSORTS => k_is)
    (case lSORTS => k_is)
    (case aWWeb => k_is)
    (case iWWeb => k_is)
    (case yWWeb => k_is)
    (case lWWeb => k_is)
    (case cWWeb => k_is)
    (case kWWeb => k_is)
    (case pgWWeb => k_is)
    (case hdWWeb => k_is)
    (case poWWeb => k_is)
    (case saWWeb => k_is)
    (case mkWWeb => k_is)
    (case kcWWeb => k_is)
    (case naWWebhouses => k_is)
    (case naWWebroads => k_is)
    (case naWWebrooms => k_is)
    (case naWWebtimes => k_is)
    (case aXBadWeb => k_is)
    (case xXBadWeb => k_is)
    (case bmXBadWebo => decide +kernel)
    (case saXBadWeb => k_is)
    (case gaXBadWeb => k_is)
    (case ggXBadWeb => k_is)
    (case iXBadWeb => k_is)
    (case yXBadWeb => k_is)
    (case lXBadWeb => k_is)
    (case cXBadWeb => k_is)
    (case kXBadWeb => k_is)
    (case kcXBadWeb => k_is)
    (case exXBadWeb => k_is)
    (case tyXBadWeb => k_is)
    (case hdXBadWeb => k_is)
    (case icXBadWeb => k_is)
    (case suXBadWeb => first | rfl | k_is)
    (case naXBadWebpart => k_is)
    (case aXNoRoad => k_is)
    (case xXNoRoad => k_is)
    (case bmXNoRoado => decide +kernel)
    (case saXNoRoad => k_is)
    (case gaXNoRoad => k_is)
    (case ggXNoRoad => k_is)
    (case iXNoRoad => k_is)
    (case yXNoRoad => k_is)
    (case lXNoRoad => k_is)
    (case cXNoRoad => k_is)
    (case kXNoRoad => k_is)
    (case kcXNoRoad => k_is)
    (case exXNoRoad => k_is)
    (case tyXNoRoad => k_is)
    (case hdXNoRoad => k_is)
    (case icXNoRoad => k_is)
    (case suXNoRoad => first | rfl | k_is)
    (case aXNoLot => k_is)
    (case xXNoLot => k_is)
    (case bmXNoLoto => decide +kernel)
    (case saXNoLot => k_is)
    (case gaXNoLot => k_is)
    (case ggXNoLot => k_is)
    (case iXNoLot => k_is)
    (case yXNoLot => k_is)
    (case lXNoLot => k_is)
    (case cXNoLot => k_is)
    (case kXNoLot => k_is)
    (case kcXNoLot => k_is)
    (case exXNoLot => k_is)
    (case tyXNoLot => k_is)
    (case hdXNoLot => k_is)
    (case icXNoLot => k_is)
    (case suXNoLot => first | rfl | k_is)
    (case aXNoSort => k_is)
    (case xXNoSort => k_is)
    (case bmXNoSorto => decide +kernel)
    (case saXNoSort => k_is)
    (case gaXNoSort => k_is)
    (case ggXNoSort => k_is)
    (case iXNoSort => k_is)
    (case yXNoSort => k_is)
    (case lXNoSort => k_is)
    (case cXNoSort => k_is)
    (case kXNoSort => k_is)
    (case kcXNoSort => k_is)
    (case exXNoSort => k_is)
    (case tyXNoSort => k_is)
    (case hdXNoSort => k_is)
    (case icXNoSort => k_is)
    (case suXNoSort => first | rfl | k_is)
    (case anqisinstance => k_is)
    (case anqint => k_is)
    (case anqbool => k_is)
    (case anqstr => k_is)
    (case anqtuple => k_is)
    (case anqlist => k_is)
    (case anqlen => k_is)
    (case anqall => k_is)
    (case anqany => k_is)
    (case anqabs => k_is)
    (case anqrange => k_is)
    (case anqzip => k_is)
    (case anqenumerate => k_is)
    (case anqsorted => k_is)

