import PyProof.Rows.All
import Wide.All
import OpenK.AllK
import Wide.FinOn
import HandS.ForMost
import HandS.Rev
import PyProof.JoinWalk
import HandS.Exc
import HandS.ExcOwn
import HandS.ExcIs
import HandS.ExcField
import HandS.ExcInit
import HandS.HotCalls
import HandS.WordsExc
import HandS.IsInst
import HandS.List
import KE.KExcIs
import PyProof.Rows.CountFlat
import HandS.OwnEq
import PyProof.InstEq
import KE.KCallOwn
import HandS.Text
import HandS.Codes
import HandS.Iter
import HandS.Comp
import HandS.Gcd
import HandS.Wide
import HandS.FStr
import HandS.StrMore
import HandS.Style
import HandS.NoneIn
import HandS.Defaults
import HandS.Spec
import HandS.TryOnly
import PySem.Challenge.RW_casknotes_k07_weights_read
set_option Elab.async false
set_option linter.all false
set_option maxRecDepth 100000
set_option maxHeartbeats 4000000
/-! repr of things, by the abstract heap: what is told of a value, beneath a running body whose guards are known -/
namespace Rp
open PySem PySem.Spec PyProof.Rows L2

/-- beneath X: room for n calls, X's frames, the guards that run -/
structure Low (X : Cx) (n : Nat) (g : List Code) (A : Around) : Prop where
  rm : Room n A
  fr : A.frames = X.A.frames
  gd : A.guards = some g
section
variable {X : Cx} {n m : Nat} {g : List Code} {A : Around} {a : Addr}
theorem Low.in1 (s : Low X (n + 1) g A) : Low X n g A.in1 := ⟨s.rm.in1, s.fr, s.gd⟩
theorem Low.mono (s : Low X n g A) (h : m ≤ n) : Low X m g A := ⟨s.rm.mono h, s.fr, s.gd⟩
theorem Low.guard {id : String} {v : Value} {us : List Value} (s : Low X (n + 1) g A)
    (hg : (Code.builtin id ⟨v :: us, []⟩).guards = [Code.builtin id ⟨v :: us, []⟩]) (hw : (Code.builtin id ⟨v :: us, []⟩).weight = 1) (hu : (Code.builtin id ⟨v :: us, []⟩).cUnits = 1)
    (he : (Code.builtin id ⟨v :: us, []⟩).envs = []) :
    Low X n (Code.builtin id ⟨v :: us, []⟩ :: g) (A.under (Code.builtin id ⟨v :: us, []⟩)) := by
  obtain ⟨⟨r1, r2, r3⟩, f, gd⟩ := s
  refine ⟨⟨r1, ?_, ?_⟩, ?_, ?_⟩
  · show A.depth + (Code.builtin id ⟨v :: us, []⟩).weight + 3 * n + 5 < _
    rw [hw]; omega
  · show A.units + (Code.builtin id ⟨v :: us, []⟩).cUnits + 16 * n + 200 < _
    rw [hu]; omega
  · show pushEnvs (Code.builtin id ⟨v :: us, []⟩).envs A.frames = _
    rw [he]; exact f
  · show pushGuards (Code.builtin id ⟨v :: us, []⟩).guards A.guards = _
    rw [hg, gd]; rfl
end

/-- what repr tells of v, at any heap grown from H -/
structure Says (X : Cx) (n : Nat) (as : List Addr) (H : Hp) (v : V) (t : Str) : Prop where
  und : ∀ (A : Around) (g : List Code) (base : Nat) (pins : List (Addr × Obj)) (s : Shared) (σ : L2.St) (H1 : Hp) (u : Value), Low X n g A → (∀ b ∈ as, Clear g b) → Inv X pins σ H1 s → Same H H1 → RelV v u → base + t.length ≤ sizeLine →
    wpAny (model X.prog X.w) A (pyReprUnder base u) (fun r s' => r = t ∧ ∃ H2, Inv X pins σ H2 s' ∧ Same H1 H2) X.xe s
  top : ∀ (A : Around) (g : List Code) (pins : List (Addr × Obj)) (s : Shared) (σ : L2.St) (H1 : Hp) (u : Value), Low X n g A → (∀ b ∈ as, Clear g b) → Inv X pins σ H1 s → Same H H1 → RelV v u → t.length ≤ sizeLine →
    wpAny (model X.prog X.w) A (call (.builtin "repr") [u]) (fun r s' => (∃ tk, r = .str t tk) ∧ ∃ H2, Inv X pins σ H2 s' ∧ Same H1 H2) X.xe s

section
variable {X : Cx} {n m : Nat} {as as' : List Addr} {H H' : Hp} {v : V} {t : Str} {a : Addr}
theorem Says.grow (h : Says X n as H v t) (e : Same H H') : Says X n as H' v t :=
  ⟨fun A g base pins s σ H1 u lo cl I x => h.und A g base pins s σ H1 u lo cl I (e.trans x), fun A g pins s σ H1 u lo cl I x => h.top A g pins s σ H1 u lo cl I (e.trans x)⟩
theorem Says.mono (h : Says X n as H v t) (hn : n ≤ m) (hs : ∀ b ∈ as, b ∈ as') : Says X m as' H v t :=
  ⟨fun A g base pins s σ H1 u lo cl => h.und A g base pins s σ H1 u (lo.mono hn) fun b hb => cl b (hs b hb), fun A g pins s σ H1 u lo cl => h.top A g pins s σ H1 u (lo.mono hn) fun b hb => cl b (hs b hb)⟩
theorem says_leaf (hi : ∀ u, RelV v u → ReprIs X.prog X.w u t) (ht : ∀ (A : Around) (E : Value → Shared → Prop) (s : Shared) (u : Value) (Q : Value → Shared → Prop), RelV v u → t.length ≤ sizeLine → Q (.str t s.toks) { s with toks := s.toks + 1 } → wpAny (model X.prog X.w) A (call (.builtin "repr") [u]) Q E s) :
    Says X 0 [] H v t :=
  ⟨fun A g base pins s σ H1 u _ _ I _ r hz => hi u r base hz A X.xe s _ fun tk => ⟨rfl, H1, I.tok tk, Same.refl H1⟩,
   fun A g pins s σ H1 u _ _ I _ r hz => ht A X.xe s u _ r hz ⟨⟨_, rfl⟩, H1, I.tok _, Same.refl H1⟩⟩
theorem says_bl (b : Bool) : Says X 0 [] H (.bl b) (if b then "True" else "False" : String) := by
  refine says_leaf (fun u r => ?_) fun A E s u Q r _ q => ?_
  · cases r
    have h := ReprIs.bool (prog := X.prog) (w := X.w) b
    cases b <;> exact h
  · cases r
    refine PySem.P.repr_of_bool ?_
    cases b <;> exact q
theorem says_non : Says X 0 [] H .non ("None" : String) := by
  refine says_leaf (fun u r => ?_) fun A E s u Q r _ q => ?_
  · cases r; exact ReprIs.none
  · cases r; exact PySem.P.repr_of_none q
theorem says_int {i : Int} (hi : i.natAbs.log2 < 1920) : Says X 0 [] H (.int i) (toString i) := by
  refine says_leaf (fun u r => ?_) fun A E s u Q r _ q => ?_
  · obtain ⟨tk, rfl⟩ := r; exact ReprIs.int tk hi
  · obtain ⟨tk, rfl⟩ := r; exact PySem.P.repr_of_int hi q
theorem says_str {x : Str} (hx : (reprText x).length ≤ sizeLine) : Says X 0 [] H (.str x) (reprText x) := by
  refine says_leaf (fun u r => ?_) fun A E s u Q r hz q => ?_
  · obtain ⟨tk, rfl⟩ := r; exact ReprIs.str x tk hx
  · obtain ⟨tk, rfl⟩ := r; exact PySem.P.repr_of_str q hz
end

/-! ### lists -/
section
variable {X : Cx} {n : Nat} {as : List Addr} {H : Hp} {a P : Addr} {xs : List V} {ts : List Str} {base : Nat} {g : List Code} {A : Around} {pins : List (Addr × Obj)} {σ : L2.St}
abbrev loopC (a P : Addr) (i k : Nat) : Code := .builtin "list.__repr__.loop" ⟨[.ref a, rawInt i, .ref P, rawInt (k : Int)], []⟩
theorem low_loop (lo : Low X (n + 1) g A) (i k : Nat) : Low X n (loopC a P i k :: g) (A.under (loopC a P i k)) :=
  lo.guard (by show (if Code.isGuard _ then _ else _) = _; rw [isGuard_list_loop]; rfl)
    (by simp only [Code.weight, isGuard_list_loop]; rfl)
    (by rfl) (by first | rfl | simp [Code.envs, Code.isFrame])
theorem lst_turns (lo : Low X (n + 1) g A) (hcl : ∀ b ∈ as, Clear g b) (hna : a ∉ as) (hit : ∀ (i : Nat) (x : V), xs[i]? = some x → ∃ t, ts[i]? = some t ∧ Says X n as H x t) (hl : ts.length = xs.length)
    (hsz : base + (listText ts).length ≤ sizeLine) (hq : SqL X.K H a xs) (haP : a ≠ P) {R : Result → Shared → Prop}
    (fin : ∀ s H2 u, Inv X pins σ H2 s → Same H H2 → R (.ok (.ret (.str (listText ts) u))) s) (bad : ∀ e s, X.xe e s → R (.error e) s) :
    ∀ (k i : Nat) (s : Shared) (H1 : Hp) (acc : Array Value) (c : Nat) (done : List (Str × Tok)), xs.length - i = k → i ≤ xs.length → Inv X pins σ H1 s → Same H H1 → FpOk X pins H1 P →
      s.heap.get? P = some { cls := .type "list", dict := none, data := .seq acc c, slots := #[] } → acc.toList = strValues done → done.map (·.1) = ts.take i →
      codeAny (model X.prog X.w) A (loopC a P i (base + piled (ts.take i))) R s := by
  have hL := textFrom_len ts 0 "["
  have hX : (listText ts).length = (textFrom 0 "[" ts).length + 1 := by
    unfold listText
    rw [strLen_append]; rfl
  have hsz0 : (listText ts).length ≤ sizeLine := by omega
  have small : ∀ t ∈ ts, t.length ≤ sizeLine := fun t ht => by
    have h2 := hL.2.1 t ht
    omega
  have hp3 := piled_le_listText ts
  have hn1 : xs.length ≤ sizeLine := by
    have h1 := hL.1
    rw [if_neg (Nat.lt_irrefl 0)] at h1
    omega
  intro k
  induction k with
  | zero =>
    intro i s H1 acc c done hk hi I hs fp hP hacc hdone
    have hin : i = xs.length := by omega
    obtain ⟨its, rv, pl, _⟩ := I.list (hs.seq hq)
    obtain ⟨oa, na, ho, _, _, hd⟩ := pl
    refine codeAny_builtin PySem.F.entry_list_repr_loop ?_
    show wpAny _ _ (Builtin.«list.__repr__.loop» ⟨[.ref a, .int i 0, .ref P, .int ((base + piled (ts.take i) : Nat) : Int) 0], []⟩) _ _ s
    rw [repr_loop_tree]
    refine wpAny_bind (wpAny_listItems ho hd ?_)
    have none_ : its.toArray[((i : Int)).toNat]? = none := by
      have := rv.length
      simp; omega
    simp only [none_]
    unfold reprEnd
    refine wpAny_bind (wpAny_listItems hP rfl ?_)
    rw [hacc, repr_fold]
    have hall : done.map (·.1) = ts := by rw [hdone, hin, ← hl, List.take_length]
    refine wpAny_bind (wpAny_pure ?_)
    rw [hall]
    exact wpAny_bind (wpAny_mkStr (wpAny_pure (fin _ H1 _ (I.tok _) hs)) hsz0)
  | succ k ih =>
    intro i s H1 acc c done hk hi I hs fp hP hacc hdone
    have hlt : i < xs.length := by omega
    obtain ⟨its, rv, pl, _⟩ := I.list (hs.seq hq)
    obtain ⟨oa, na, ho, _, _, hd⟩ := pl
    have hlt2 : i < its.length := by rw [← rv.length]; exact hlt
    obtain ⟨t, ht, hsay⟩ := hit i xs[i] (List.getElem?_eq_getElem hlt)
    obtain ⟨u, hu, ru⟩ := rv.get (List.getElem?_eq_getElem hlt)
    have hp1 := piled_take_succ ht
    have hp2 := piled_take_le ts (i + 1)
    refine codeAny_builtin PySem.F.entry_list_repr_loop ?_
    show wpAny _ _ (Builtin.«list.__repr__.loop» ⟨[.ref a, .int i 0, .ref P, .int ((base + piled (ts.take i) : Nat) : Int) 0], []⟩) _ _ s
    rw [repr_loop_tree]
    refine wpAny_bind (wpAny_listItems ho hd ?_)
    have some_ : its.toArray[i]? = some u := by simpa using hu
    simp only [Int.toNat_natCast, some_]
    obtain ⟨f0, f1, f2, f3, f4, f5⟩ := id fp
    have Ip : Inv X ((P, { cls := .type "list", dict := none, data := .seq acc c, slots := #[] }) :: pins) σ H1 s := I.pins_of fun p hp => by
      rcases List.mem_cons.mp hp with e | hp
      · rw [e]
        exact ⟨hP, f0, f1, f2, fun v z => by cases z⟩
      · exact I.pin p (List.mem_append_right _ hp)
    refine wpAny_bind (wpAny_holding (wpAny_mono (hsay.und (A.under (loopC a P i (base + piled (ts.take i)))) (loopC a P i (base + piled (ts.take i)) :: g) (base + piled (ts.take i) + 1) _ s σ H1 u (low_loop lo i _)
      (fun b hb => (hcl b hb).cons (a := a) fun e => hna (e ▸ hb)) Ip hs ru (by omega)) (fun r s2 hr => ?_) fun e s2 he => bad e s2 he))
    obtain ⟨er, H2, I2, e2⟩ := hr
    subst er
    obtain ⟨hP2, n2, _⟩ := I2.pin _ (List.mem_append_right _ List.mem_cons_self)
    have I3 : Inv X pins σ H2 s2 := I2.pins_of fun p hp => I2.pin p (List.mem_append_right _ (List.mem_cons_of_mem _ hp))
    refine wpAny_bind (wpAny_mkStr ?_ (small r (List.mem_of_getElem? ht)))
    refine wpAny_bind ?_
    show wpAny _ _ (updateSeq P _) _ _ _
    have hasz : acc.size ≤ sizeLine := by
      have e1 : acc.toList.length = acc.size := by simp
      have e3 : done.length = (ts.take i).length := by rw [← hdone, List.length_map]
      have e4 : (ts.take i).length ≤ i := by rw [List.length_take]; omega
      have e5 : (strValues done).length = done.length := by simp [strValues]
      rw [hacc] at e1; omega
    refine wpAny_updateSeq hP2 rfl (wpAny_pure ⟨PySem.F.quiet_list_repr_loop _, ?_⟩) hasz
    have e1 : ((i : Int) + 1) = ((i + 1 : Nat) : Int) := by omega
    have e3 : base + piled (ts.take i) + (r.length + 2) = base + piled (ts.take (i + 1)) := by omega
    rw [e1, e3]
    have fp2 : FpOk X pins H2 P := ⟨n2, f1, f2, f3, f4, f5⟩
    refine ih (i + 1) _ H2 (acc.push (.str r s2.toks)) _ (done ++ [(r, s2.toks)]) (by omega) hlt ((I3.tok (s2.toks + 1)).turned (t' := s2.toks + 1) (it := P) (fun b o hb e => ?_) n2 f1 f3 f4 f5) (hs.trans e2) fp2 (Heap.get?_update_self _ hP2 rfl) ?_ ?_
    · exact (Heap.get?_update_other _ _ (fun z : P = b => hb z.symm)).trans e
    · simp [hacc, strValues]
    · rw [List.map_append, hdone, List.take_add_one, ht]
      rfl

/-- the body of list.__repr__, of any base -/
theorem lst_body (lo : Low X (n + 1) g A) (hcl : ∀ b ∈ a :: as, Clear g b) (hna : a ∉ as) (hit : ∀ (i : Nat) (x : V), xs[i]? = some x → ∃ t, ts[i]? = some t ∧ Says X n as H x t) (hl : ts.length = xs.length)
    (hsz : base + (listText ts).length ≤ sizeLine) (hq : SqL X.K H a xs) {s : Shared} {H1 : Hp} (I : Inv X pins σ H1 s) (hs : Same H H1) {R : Result → Shared → Prop}
    (fin : ∀ s H2 u, Inv X pins σ H2 s → Same H1 H2 → R (.ok (.ret (.str (listText ts) u))) s) (bad : ∀ e s, X.xe e s → R (.error e) s) :
    wpAny (model X.prog X.w) A.in1 (Builtin.listReprAt base ⟨[.ref a], []⟩) (fun fin s' => match fin with | .done f => R (.ok f) s' | .again c' => c'.quiet = true ∧ codeAny (model X.prog X.w) A c' R s') (fun e s' => R (.error e) s') s := by
  obtain ⟨its, rv, pl, _⟩ := I.list (hs.seq hq)
  obtain ⟨oa, na, ho, hc, _, hd⟩ := id pl
  have hca : Clear g a := hcl a List.mem_cons_self
  cases its with
  | nil =>
    cases rv
    have e : ts = [] := List.length_eq_zero_iff.mp hl
    subst e
    refine wpAny_list_repr_empty ho hd ?_
    have q := fin _ H1 s.toks (I.tok (s.toks + 1)) (Same.refl H1)
    rw [listText_nil] at q
    exact q
  | cons y its =>
    refine wpAny_list_repr_head (A := A.in1) lo.gd (fun v rest kw hm => listSameRef_of_ne (hca _ _ _ _ hm)) ho hd ?_
    refine wpAny_bind (m := newList []) (wpAny_newObj_type ?_)
    refine wpAny_pure ⟨PySem.F.quiet_list_repr_loop _, ?_⟩
    have fp := I.fpOk (H' := H1) (Nat.le_refl _) (I.hok.fresh (Nat.le_refl _))
    have q := lst_turns (P := s.heap.objs.size) (R := R) lo (fun b hb => hcl b (List.mem_cons_of_mem _ hb)) hna (fun i x h => let ⟨t, h1, h2⟩ := hit i x h; ⟨t, h1, h2.grow hs⟩) hl hsz (hs.seq hq) (Nat.ne_of_lt (Heap.lt_size ho)) fin bad
      xs.length 0 { s with heap := s.heap.push { cls := .type "list", dict := none, data := .seq [].toArray } } H1 #[] _ [] rfl (Nat.zero_le _) (I.kept (t' := s.toks) fun b o e => Heap.get?_push_of_some _ e) (Same.refl H1) fp (Heap.get?_push_size _ rfl) rfl rfl
    rw [show base + piled (List.take 0 ts) = base by simp [piled]] at q
    exact q
theorem says_lst (hq : SqL X.K H a xs) (hna : a ∉ as) (hl : ts.length = xs.length) (hit : ∀ (i : Nat) (x : V), xs[i]? = some x → ∃ t, ts[i]? = some t ∧ Says X n as H x t) : Says X (n + 2) (a :: as) H (.ref a) (listText ts) := by
  refine ⟨fun A g base pins s σ H1 u lo cl I hs ru hz => ?_, fun A g pins s σ H1 u lo cl I hs ru hz => ?_⟩
  · cases ru
    obtain ⟨its, rv, ⟨oa, na, ho, hc, _, hd⟩, _⟩ := I.list (hs.seq hq)
    refine wpAny_pyReprUnder_ref (by omega) (wpAny_pyReprObjUnder_twin (twin := "list.__repr__.under") ⟨oa, ho, hc⟩ PySem.F.slot_list_repr.toG rfl lo.rm.units0
      (call_twin_plain PySem.F.plain_list_repr_under PySem.F.entry_list_repr_under PySem.F.check_list_repr_under ⟨oa, ho, hc⟩ PySem.F.slot_list_repr.toG (PySem.F.args_list_repr_1 _) ?_))
    exact lst_body (R := callEnd _ _) (lo.mono (by omega)) cl hna hit hl hz hq I hs (fun s2 H2 tk I2 e2 => ⟨⟨_, _, rfl⟩, _, _, rfl, rfl, H2, I2, e2⟩) fun e s2 he => he
  · cases ru
    obtain ⟨its, rv, ⟨oa, na, ho, hc, _, hd⟩, _⟩ := I.list (hs.seq hq)
    have h1 := lo.rm.units
    refine call_repr_slot (by omega) ⟨oa, ho, hc⟩ PySem.F.slot_list_repr.toG (wpAny_call (codeAny_call_builtin PySem.F.slot_list_repr.plain PySem.F.entry_list_repr (PySem.F.slot_list_repr.check _ _ _ _ _ _ _ _ ⟨oa, ho, hc⟩ (PySem.F.args_list_repr_1 _) ?_)))
    exact lst_body (A := A.in1) (base := 0) (R := callEnd _ _) lo.in1 cl hna hit hl (by omega) hq I hs (fun s2 H2 tk I2 e2 => ⟨_, _, rfl, ⟨_, rfl⟩, H2, I2, e2⟩) fun e s2 he => he
end

/-! ### instances of an own class with an own __repr__ -/
section
variable {X : Cx} {n : Nat} {H : Hp} {a C dx f : Addr} {fs : List (Str × V)} {fd : FuncData} {ps : List Str} {sp : Sp} {CX : CXT} {E : XK} {t : Str} {g : List Code} {A : Around} {pins : List (Addr × Obj)} {σ : L2.St} {s : Shared}
/-- a method of one argument, called from beneath X -/
theorem own_run (F : FnOk X.prog X.w X.K X.mg X.base CX n f fd ps sp) (hb : Binds X.K fd ps []) (hx : Passes CX X E) (lo : Low X n g A) (I : Inv X pins σ H s) {Q : VK} (hsp : sp [.ref a] H Q E) :
    wpAny (model X.prog X.w) A (call (.ref f) [.ref a]) (EP X pins σ Q) X.xe s := by
  have e := I.env0
  have e0 : Env0 X.prog X.w X.K X.mg X.base A X.stack s H := ⟨lo.fr.trans e.frames, e.mod, e.bs, e.bsz, e.funs, e.frf, e.hok, e.bare⟩
  have hl := F.len _ _ _ _ hsp
  have bt := hb s [.ref a] I.kIn (by simpa using hl)
  rw [List.append_nil] at bt
  refine wpAny_call (codeAny_mono (F.run A X.stack s H ⟨[.ref a], []⟩ [.ref a] [.ref a] Q E lo.rm e0 bt (.cons rfl .nil) hsp) fun r s' hq => ?_)
  match r, hq with
  | .error e, hq => exact hx pins σ H s e s' I hq
  | .ok (.ret w), hq => exact I.after hq
theorem own_by {M : Model} {last : Value → List Value → Sem Value} {Q : Option Value → Shared → Prop} {E : Value → Shared → Prop} {K : PySem.W.Frag} {x : Addr} {ox : Obj} {od : Option Obj} {name : Str} (kx : K.In s.heap) (J : PySem.W.InstAt s.heap x ox C od)
    (hs : PySem.W.findIn K (.ref C) name = some (some (.ref f))) (hf : PySem.W.isFn K (.ref f) = true) (h : wpAny M A (last (.ref f) [.ref x]) (fun v => Q (some v)) E s) : wpAny M A (callSpecialIfBoundBy? last (.ref x) name) Q E s := by
  have done : wpAny M A (last (.ref f) [.ref x] >>= fun v => pure (some v)) Q E s := wpAny_bind (wpAny_mono h (fun _ _ q => wpAny_pure q) fun _ _ q => q)
  have bd := PySem.W.bind_fn (M := M) kx (.ref x) (beq_iff_eq.mp hf)
  simp only [callSpecialIfBoundBy?, bindSpecialIfBound?]
  refine wpAny_holding (wpAny_bind (wpAny_bind (wpAny_bind (J.type.here ((PySem.W.looks_findIn kx hs).here (wpAny_bind (wpAny_askSetting (wpAny_ite ?_))))))))
  split
  · exact wpAny_bind (bd.here (wpAny_pure done))
  · exact wpAny_tryCatch (wpAny_bind (bd.here (wpAny_pure done)))
theorem says_own (F : FnOk X.prog X.w X.K X.mg X.base CX n f fd ps sp) (hs : PySem.W.findIn X.K (.ref C) "__repr__" = some (some (.ref f))) (hf : PySem.W.isFn X.K (.ref f) = true) (hb : Binds X.K fd ps []) (hx : Passes CX X E)
    (ha : H a = some (.ins C dx fs)) (hsp : ∀ H1, Same H H1 → sp [.ref a] H1 (fun v H2 => v = .str t ∧ Same H1 H2) E) : Says X (n + 1) [] H (.ref a) t := by
  have turn : ∀ {A : Around} {g : List Code} {pins : List (Addr × Obj)} {s : Shared} {σ : L2.St} {H1 : Hp}, Low X n g A → Inv X pins σ H1 s → Same H H1 →
      wpAny (model X.prog X.w) A (call (.ref f) [.ref a]) (fun r s' => ∃ tk, r = .str t tk ∧ ∃ H2, Inv X pins σ H2 s' ∧ Same H1 H2) X.xe s := fun lo I e =>
    wpAny_mono (own_run F hb hx lo I (hsp _ e)) (fun r s' q => by
      obtain ⟨v, H2, I2, r2, ev, e2⟩ := q
      subst ev
      obtain ⟨tk, rfl⟩ := r2
      exact ⟨tk, rfl, H2, I2, e2⟩) fun _ _ q => q
  refine ⟨fun A g base pins s σ H1 u lo cl I e ru hz => ?_, fun A g pins s σ H1 u lo cl I e ru hz => ?_⟩
  · cases ru
    obtain ⟨mA, O, _⟩ := ins_get I.hok (e _ _ ha)
    obtain ⟨od, J, _⟩ := O.look
    have hu := lo.rm.units0
    refine wpAny_pyReprUnder_ref (by omega) ?_
    unfold pyReprObjUnder pyReprObjBy
    refine wpAny_bind (wpAny_cRoomFor hu (wpAny_bind (wpAny_bind (J.type.here ((PySem.W.looks_findIn I.kIn hs).here ?_)))))
    show wpAny _ _ (if (some (Value.ref f)).isNone = true then _ else _) _ _ _
    rw [if_neg (by simp)]
    refine wpAny_bind (own_by I.kIn J hs hf ?_)
    show wpAny _ _ (call (.ref f) [.ref a]) _ _ _
    refine wpAny_mono (turn (lo.mono (Nat.le_succ n)) I e) (fun r s2 q => ?_) fun _ _ q => q
    obtain ⟨tk, rfl, q⟩ := q
    exact wpAny_bind (wpAny_isInstance (typeIs_str _ _ _) isSubtype_str_str (wpAny_pure ⟨t, tk, rfl, rfl, q⟩))
  · cases ru
    obtain ⟨mA, O, _⟩ := ins_get I.hok (e _ _ ha)
    obtain ⟨od, J, _⟩ := O.look
    obtain ⟨m, hF⟩ := I.fr
    refine PySem.W.repr_K lo.in1.rm.units0 hF I.ok.mod.kin J hs hf (wpAny_mono (turn lo.in1 I e) (fun r s2 q => ?_) fun _ _ q => q)
    obtain ⟨tk, rfl, q⟩ := q
    exact ⟨⟨tk, rfl⟩, q⟩
end

/-! ### repr(x) in a body whose guards are known to be none -/
section
variable {X : Cx}
def rRepr (X : Cx) (n : Nat) : List V → Hp → VK → Prop := fun vs H Q => ∃ (v : V) (t : Str) (as : List Addr), vs = [v] ∧ Says X n as H v t ∧ t.length ≤ sizeLine ∧ ∀ H2, Same H H2 → Q (.str t) H2
theorem cr_repr {n : Nat} (hr : Room n X.A) (hg : X.A.guards = some []) : CallR X (.builtin "repr") (rRepr X n) := by
  intro pins s σ H vs us Q I r h
  obtain ⟨v, t, as, rfl, hv, hz, q⟩ := h
  obtain ⟨u, rfl, ru⟩ := vals1 r
  refine wpAny_mono (hv.top X.A [] pins s σ H u ⟨hr, rfl, hg⟩ (fun b _ => Clear.nil b) I (Same.refl H) ru hz) (fun w s2 k => ?_) fun _ _ k => k
  obtain ⟨⟨tk, rfl⟩, H2, I2, e2⟩ := k
  exact ⟨.str t, H2, I2, ⟨tk, rfl⟩, q H2 e2⟩
/-- repr(True), repr(False): whatever guards run -/
theorem cr_reprB : CallR X (.builtin "repr") (fun vs H Q => ∃ b : Bool, vs = [.bl b] ∧ Q (.str (if b then "True" else "False" : String)) H) := by
  intro pins s σ H vs us Q I r h
  obtain ⟨b, rfl, q⟩ := h
  obtain ⟨u, rfl, ru⟩ := vals1 r
  cases ru
  refine PySem.P.repr_of_bool ⟨.str (if b then "True" else "False" : String), H, I.tok _, ⟨s.toks, ?_⟩, q⟩
  cases b <;> rfl
end
end Rp
/-! defs that know that no guard runs around them, and the law's end for such a def -/
namespace Rp
open PySem PySem.Spec PyProof.Rows L2
/-- the promise of a def, where no guard runs around the call -/
structure FnG (P : Program) (w : World) (K : PySem.W.Frag) (mg : Str → Option Value) (base : Heap) (CX : CXT) (k : Nat) (f : Addr) (fd : FuncData) (ps : List Str) (sp : Sp) : Prop where
  len : ∀ vs H Q E, sp vs H Q E → vs.length = ps.length
  go : ∀ (A : Around) (outer : List Env) (s : Shared) (H : Hp) (args : Args) (us : List Value) (vs : List V) (Q : VK) (E : XK), A.guards = some [] → Room k A →
    Env0 P w K mg base A outer s H → BindsTo s fd args (ps.zip us) → Vals vs us → sp vs H Q E → codeAny (model P w) A (.call (.ref f) args) (CR CX outer P w H s Q E) s
section
variable {P : Program} {w : World} {K : PySem.W.Frag} {mg : Str → Option Value} {base : Heap} {CX : CXT} {k : Nat} {f : Addr} {fd : FuncData} {ps : List Str} {sp : Sp}
theorem FnG.of (F : FnOk P w K mg base CX k f fd ps sp) : FnG P w K mg base CX k f fd ps sp := ⟨F.len, fun A outer s H args us vs Q E _ => F.run A outer s H args us vs Q E⟩
/-- a def by its body; the body may use that no guard runs -/
theorem fn_bodyG {name qual : Str} {params : Arguments} {body : List Stmt} {scope : Scope} {dV kV doc pm cdv ct oc : Value} {an od : Option Addr} {osl : Array (Option Value)} {N : List Str}
    (lk : K.lookup f = some ⟨oc, od, .func (PySem.W.fnOf name qual params body scope dV kV doc pm an cdv ct), osl⟩) (hcd : PySem.W.codeIn K cdv qual = true) (S : FnScope N ps scope) (len : ∀ vs H Q E, sp vs H Q E → vs.length = ps.length)
    (hbody : ∀ (A : Around) (outer : List Env) (s : Shared) (H : Hp) (vs : List V) (Q : VK) (E : XK), A.guards = some [] → Room k (A.deeper (envOfC qual scope s.heap.objs.size f cdv)) → sp vs H Q E →
      ∃ t, PSs (cxOf CX P w K mg base N qual scope f cdv A outer s H E) body t ∧ t { nx := fun _ H' => Q .non H', rt := Q } (start N vs) H) :
    FnG P w K mg base CX (k + 1) f (PySem.W.fnOf name qual params body scope dV kV doc pm an cdv ct) ps sp := by
  refine ⟨len, fun A outer s H args us vs Q E gd hr e0 hb rv hsp => ?_⟩
  have here : ∀ b o, base.get? b = some o → s.heap.get? b = some o := fun b o e => (e0.bs b o e).1
  have kx : K.In s.heap := e0.mod.kin.keeps here
  have lim : s.heap.NoLimit := e0.mod.nolimit.keeps here
  have kinds : ∀ y ∈ ps.zip us, scope.names.lookup y.1 = some .local ∨ (scope.names.lookup y.1 = some .cell ∧ ((cellsFrom (s.heap.objs.size + 1) scope.names []).lookup y.1).isSome = true) := by
    rintro ⟨n, v⟩ hy
    exact (S.par n (List.of_mem_zip hy).1).imp id fun q => ⟨q, PySem.W.cellsFrom_some _ _ _ (.inl q)⟩
  refine codeAny_call_function hr.depth (kx _ _ lk) rfl S.co S.gen rfl (PySem.W.codeRec_of kx hcd) (hb _ _ _ _ (wpAny_newFunctionEnv_cells S.kind kinds fun env he s1 ic => ?_))
  subst he
  refine ⟨lim.keeps ic.toInCall.keep, codeAny_func ?_⟩
  obtain ⟨t, ht, hq⟩ := hbody A outer s H vs Q E gd (hr.deeper _) hsp
  have I : L2.Inv (cxOf CX P w K mg base N qual scope f cdv A outer s H E) [] (start N vs) H s1 := inv_start S hr.hd e0 (len _ _ _ _ hsp) rv ic
  refine wpAny_mono (ht.run [] s1 (start N vs) H _ I hq) (fun fl s' hs => ?_) fun e s' hs => hs
  cases fl with
  | next =>
    obtain ⟨σ', H', J, q⟩ := hs
    exact ⟨V.non, H', J.os, J.bare, J.base, J.hok, (rfl : RelV .non Value.none), q⟩
  | ret u =>
    obtain ⟨v, σ', H', J, rv, q⟩ := hs
    exact ⟨v, H', J.os, J.bare, J.base, J.hok, rv, q⟩
  | brk => exact hs.elim fun _ z => z.elim fun _ z => z.2.elim
  | cont => exact hs.elim fun _ z => z.elim fun _ z => z.2.elim
theorem Fun_okG {x qual : Str} {st : Stmt} {N : List Str} (F : Fun K x qual st f fd) (S : FnScope N ps (defScope st)) (len : ∀ vs H Q E, sp vs H Q E → vs.length = ps.length)
    (body : ∀ (cdv : Value) (A : Around) (outer : List Env) (s : Shared) (H : Hp) (vs : List V) (Q : VK) (E : XK), A.guards = some [] →
      Room k (A.deeper (envOfC qual (defScope st) s.heap.objs.size f cdv)) → sp vs H Q E →
      ∃ t, PSs (cxOf CX P w K mg base N qual (defScope st) f cdv A outer s H E) (defBody st) t ∧ t { nx := fun _ H' => Q .non H', rt := Q } (start N vs) H) : FnG P w K mg base CX (k + 1) f fd ps sp := by
  obtain ⟨oc, od, kV, doc, pm, an, cdv, ct, osl, rfl, lk, hcd⟩ := F.ex
  exact fn_bodyG lk hcd S len fun A outer s H vs Q E gd hr hsp => body cdv A outer s H vs Q E gd hr hsp
theorem Fun_okG0 {x qual : Str} {st : Stmt} {N : List Str} (F : Fun K x qual st f fd) (S : FnScope N ps (defScope st)) (len : ∀ vs H Q E, sp vs H Q E → vs.length = ps.length)
    (body : ∀ (cdv : Value) (A : Around) (outer : List Env) (s : Shared) (H : Hp) (vs : List V) (Q : VK) (E : XK), A.guards = some [] →
      Room k (A.deeper (envOfC qual (defScope st) s.heap.objs.size f cdv)) → sp vs H Q E →
      ∃ t, PSs (cxOf CX0 P w K mg base N qual (defScope st) f cdv A outer s H E).nox (defBody st) t ∧ t { nx := fun _ H' => Q .non H', rt := Q } (start N vs) H) : FnG P w K mg base CX0 (k + 1) f fd ps sp :=
  Fun_okG F S len fun cdv A outer s H vs Q E gd hr hsp => let ⟨t, h, q⟩ := body cdv A outer s H vs Q E gd hr hsp; ⟨t, h.nox, q⟩
end

/-! ### the call of such a def -/
section
variable {X : Cx} {CX : CXT} {k : Nat} {f : Addr} {fd : FuncData} {ps : List Str} {sp : Sp} {dvs : List V} {ds : List Value} {E : XK} {x : Str} {p pos : Pos} {e : Expr} {es : List Expr} {t : TA}
theorem run_fnG {pins : List (Addr × Obj)} {σ : L2.St} {H : Hp} {s : Shared} {Q : VK} {us : List Value} {vs : List V} (F : FnG X.prog X.w X.K X.mg X.base CX k f fd ps sp) (hg : X.A.guards = some []) (hr : Room k X.A) (hb : Binds X.K fd ps ds) (hd : Vals dvs ds)
    (hx : Passes CX X E) (I : Inv X pins σ H s) (r : Vals vs us) (h : sp (vs ++ dvs) H Q E) : wpAny (model X.prog X.w) X.A (call (.ref f) us) (EP X pins σ Q) X.xe s := by
  have all := r.append hd
  have hl := all.length.symm.trans (F.len _ _ _ _ h)
  refine wpAny_call (codeAny_mono (F.go X.A X.stack s H ⟨us, []⟩ (us ++ ds) (vs ++ dvs) Q E hg hr I.env0 (hb s us I.kIn hl) all h) fun r s' hq => ?_)
  match r, hq with
  | .error e, hq => exact hx pins σ H s e s' I hq
  | .ok (.ret u), hq => exact I.after hq
theorem pe_callG (F : FnG X.prog X.w X.K X.mg X.base CX k f fd ps sp) (hgd : X.A.guards = some []) (hr : Room k X.A) (hg : Gl X x) (hm : X.mg x = some (.ref f)) (hk : PySem.W.keepIn X.K (.ref f) = true) (hb : Binds X.K fd ps ds) (hd : Vals dvs ds) (hx : Passes CX X E)
    (ha : PA X (e :: es) t) (hdb : (x == ("__debug__" : Str)) = false := by decide) (he : starEach (e :: es) X.env = (false, eval e X.env) :: starEach es X.env := by rfl) (hpl : (backTo pos (starEach es X.env)).any (·.1) = false := by rfl) :
    PE X (.Call (.Name x p) (e :: es) [] pos) (tCall sp dvs E t) :=
  ⟨fun pins s σ H Q I h => wpAny_Call_Name_kw (ld_glob I hg hm (PySem.W.callWith_K (h₀ := X.base) I.ok.mod.kin hk (thn (ha.run pos pins s σ H _ I h) fun us s1 ⟨vs, H1, I1, r, q⟩ => ⟨I1.kIn, run_fnG F hgd hr hb hd hx I1 r q⟩) he hpl) hdb)⟩
end

/-! ### the law's end -/
/-- what stands tracked at the law's entry: the script alone, or nothing -/
def atScript (a : Addr) (u : HO) : Hp := fun b => if b = a then some u else none
theorem law_atG {P : Program} {w : World} {K : PySem.W.Frag} {mg mb : Str → Option Value} {CX : CXT} {k : Nat} {fa a : Addr} {fd : FuncData} {x : Str} {sp : Sp} {s₁ : Shared} {vs : List Value} {ns : List Int}
    (KX : K.In s₁.heap) (hns : s₁.heap.Ns mainGlobals mg) (hb : s₁.heap.Ns builtinsNs mb) (hbb : ∀ x : Str, x ≠ "__name__" → mb x = bootBuiltins x) (hlim : s₁.heap.NoLimit) (hg : s₁.gens = #[])
    (ha : s₁.heap.get? a = some { cls := .type "list", data := .seq vs.toArray }) (hr : Room k callerA)
    (F : ∀ base : Heap, K.In base → base.Ns mainGlobals mg → FnG P w K mg base CX k fa fd [x] sp) (hbind : ∀ (s : Shared) (u : Value), BindsTo s fd ⟨[u], []⟩ [(x, u)])
    (hCX : ∀ H e s', CX [] H s₁ (fun _ _ _ => False) e s' → False) (H : Hp) (hA : ∀ b, H b ≠ none → b = a) (hF : ∀ u, H a = some u → ∃ o xs, u = .frz o (.lst xs)) (hok : HOk P w H s₁.heap) (hK : H a ≠ none → K.lookup a = none)
    (hsp : sp [.ref a] H (fun v _ => v = .bl true) fun _ _ _ => False) :
    codeAny (model P w) callerA (.call (.ref fa) ⟨[.ref a], []⟩) (fun r s' => r = .ok (.ret (.bool true)) ∧ OldK s₁.heap s'.heap ∧ s'.os = s₁.os ∧ AllBare s'.gens) s₁ := by
  have split : ∀ b u, H b = some u → b = a := fun b u e => hA b fun z => by rw [z] at e; cases e
  have dictless : ∀ {b : Addr} {o : Obj} {es : Array DictEntry} {ep : Nat}, s₁.heap.get? b = some o → o.data = .dict es ep → H b = none := fun {b o es ep} e d => by
    cases q : H b with
    | none => rfl
    | some u =>
      have z := split b u q
      subst z
      rw [ha] at e
      cases e
      cases (show Data.seq vs.toArray _ = Data.dict es ep from d)
  have names : ∀ {b : Addr} {m : Str → Option Value}, s₁.heap.Ns b m → (hidT s₁.heap H).Ns b m := fun {b m} h => by
    obtain ⟨o, es, ep, e, d, r⟩ := h
    exact ⟨o, es, ep, hidT_get e (dictless e d), d, r⟩
  have kb : K.In (hidT s₁.heap H) := fun b o e => hidT_get (KX b o e) (by
    cases q : H b with
    | none => rfl
    | some u =>
      have z := split b u q
      subst z
      rw [hK fun z => by rw [q] at z; cases z] at e
      cases e)
  have M : Mod K mg (hidT s₁.heap H) := by
    obtain ⟨mc, h1, h2⟩ := hlim
    exact ⟨kb, names hns, ⟨mb, names hb, hbb⟩, ⟨mc, names h1, h2⟩⟩
  have e0 : Env0 P w K mg (hidT s₁.heap H) callerA [] s₁ H :=
    { frames := rfl, mod := M, bs := fun b o e => of_hidT e, bsz := Nat.le_of_eq (hidT_size _ _), funs := trivial, frf := fun b hb => (by simp [frs] at hb), hok := hok, bare := .of_eq hg }
  refine codeAny_mono ((F _ kb (names hns)).go callerA [] s₁ H ⟨[.ref a], []⟩ [.ref a] [.ref a] _ _ rfl hr e0 (hbind s₁ (.ref a)) (.cons rfl .nil) hsp) fun r s' h => ?_
  match r, h with
  | .error e, h => exact (hCX H e s' h).elim
  | .ok (.ret u), ⟨v, H', os, bare, un, hok', rv, q⟩ =>
    have ev : v = .bl true := q
    subst ev
    have eu : u = Value.bool true := rv
    subst eu
    refine ⟨rfl, OldK.of_keep fun b o e => ?_, os, bare⟩
    cases z : H b with
    | none => exact un.keep b o e z (by simp [frs]) (by simp)
    | some u =>
      have eb := split b u z
      subst eb
      obtain ⟨ob, xs, eu⟩ := hF u z
      subst eu
      obtain ⟨e1, _⟩ := hok b _ z
      obtain ⟨e2, _⟩ := hok' b _ (un.frzs b ob _ z)
      rw [e] at e1
      cases e1
      exact e2
theorem law_callG {P : Program} {w : World} {K : PySem.W.Frag} {mg mb : Str → Option Value} {CX : CXT} {k : Nat} {fa a : Addr} {fd : FuncData} {x : Str} {sp : Sp} {s₁ : Shared} {vs : List Value} {ns : List Int}
    (KX : K.In s₁.heap) (hns : s₁.heap.Ns mainGlobals mg) (hb : s₁.heap.Ns builtinsNs mb) (hbb : ∀ x : Str, x ≠ "__name__" → mb x = bootBuiltins x) (hlim : s₁.heap.NoLimit) (hg : s₁.gens = #[])
    (ha : s₁.heap.get? a = some { cls := .type "list", data := .seq vs.toArray }) (hi : IntsAre vs ns) (hl : ns.length ≤ sizeLine) (hr : Room k callerA)
    (F : ∀ base : Heap, K.In base → base.Ns mainGlobals mg → FnG P w K mg base CX k fa fd [x] sp) (hbind : ∀ (s : Shared) (u : Value), BindsTo s fd ⟨[u], []⟩ [(x, u)])
    (hsp : ∀ H : Hp, Only H → SqL K H a (ns.map V.int) → sp [.ref a] H (fun v _ => v = .bl true) fun _ _ _ => False)
    (hCX : ∀ H e s', CX [] H s₁ (fun _ _ _ => False) e s' → False) :
    codeAny (model P w) callerA (.call (.ref fa) ⟨[.ref a], []⟩) (fun r s' => r = .ok (.ret (.bool true)) ∧ OldK s₁.heap s'.heap ∧ s'.os = s₁.os ∧ AllBare s'.gens) s₁ := by
  have rv := vals_ints hi
  have lenV := hi.length
  have main := law_atG (ns := ns) KX hns hb hbb hlim hg ha hr F hbind hCX
  cases hk : K.lookup a with
  | some o =>
    have e := KX a o hk
    rw [ha] at e
    cases e
    have nothing : Only fun _ => none := fun b => .inl rfl
    exact main (fun _ => none) (fun b z => absurd rfl z) (fun u z => by cases z) (fun b u z => by cases z) (fun z => absurd rfl z)
      (hsp _ nothing (.inr ⟨_, vs.toArray, _, hk, rfl, rfl, rfl, by rw [List.size_toArray, lenV]; exact hl, by simpa using rv⟩))
  | none =>
    have at_ : atScript a (.frz { cls := .type "list", data := .seq vs.toArray } (.lst (ns.map V.int))) a = some (.frz { cls := .type "list", data := .seq vs.toArray } (.lst (ns.map V.int))) := if_pos rfl
    have off : ∀ b, b ≠ a → atScript a (.frz { cls := .type "list", data := .seq vs.toArray } (.lst (ns.map V.int))) b = none := fun b hb => if_neg hb
    refine main (atScript a (.frz { cls := .type "list", data := .seq vs.toArray } (.lst (ns.map V.int)))) (fun b z => Classical.byContradiction fun hb => z (off b hb)) (fun u z => ?_) (fun b u z => ?_) (fun _ => hk)
      (hsp _ (fun b => ?_) (.inl (.inr ⟨_, at_⟩)))
    · rw [at_] at z
      cases z
      exact ⟨_, _, rfl⟩
    · by_cases hb : b = a
      · subst hb
        rw [at_] at z
        cases z
        exact ⟨ha, by rw [List.length_map]; exact hl, vs, _, rv, ha⟩
      · rw [off b hb] at z
        cases z
    · by_cases hb : b = a
      · subst hb
        exact .inr ⟨_, _, at_⟩
      · exact .inl (off b hb)
/-- the goal that k_head leaves, from the law's promise where no guard runs -/
theorem walk_ofG {l : PySem.W.OpenLaw} {n k : Nat} {q : Program} {loose : List Str} {XP : (Str → Option Value) → Heap → Prop} {YP : World → Heap → Prop} {d : DefRec} {K : Params → PySem.W.Frag} {CX : World → CXT} {sp : World → Sp} {x : Str}
    (hn : l.most = some n) (hn2 : n ≤ sizeLine) (hdf : d.params.defaults = []) (hr : Room k callerA) (hY : ∀ (w : World) (h : Heap), YP w h → (K w.params).In h)
    (F : ∀ (w : World) (mg : Str → Option Value) (fa : Addr) (h : Heap), (K w.params).In h → h.Ns mainGlobals mg → mg d.name = some (.ref fa) →
      ∃ fd : FuncData, (∀ (s : Shared) (u : Value), BindsTo s fd ⟨[u], []⟩ [(x, u)]) ∧ ∀ base : Heap, (K w.params).In base → base.Ns mainGlobals mg → FnG l.prog w (K w.params) mg base (CX w) k fa fd [x] (sp w))
    (hsp : ∀ (w : World) (H : Hp) (a : Addr) (ns : List Int), ns.length ≤ n → Only H → SqL (K w.params) H a (ns.map V.int) → sp w [.ref a] H (fun v _ => v = .bl true) fun _ _ _ => False)
    (hCX : ∀ (w : World) (H : Hp) (s : Shared) (e : Value) (s' : Shared), CX w [] H s (fun _ _ _ => False) e s' → False) :
    PySem.W.WalkO q loose XP YP l.row.toRowW d [] (fun f vs => PySem.call f vs) :=
  Att.attach_call hn hdf fun w s₀ s₁ mg mb fa o pm cd doc a vs ns G Y ho hd hcd hmg hobj hints hlen hg =>
    let ⟨_, hb, hF⟩ := F w mg fa _ (hY w _ Y) G.T.g hmg
    law_callG (hY w _ Y) G.T.g G.T.b G.T.builtins G.T.nolimit hg hobj hints (Nat.le_trans hlen hn2) hr hF hb (fun H hO hS => hsp w H a ns hlen hO hS) fun H e s' => hCX w H s₁ e s'
end Rp
/-! sep.join(reversed(xs)), xs a list of texts -/
namespace Rp
open PySem PySem.Spec PyProof.Rows L2
section
variable {prog : Program} {w : World} {A : Around} {E : Value → Shared → Prop} {s : Shared} {x : Str} {t : Tok} {Q : Value → Shared → Prop}
theorem join_rev {it l : Addr} {items : Array Value} {ys : List Str} (hh : A.handled = none) (hit : s.heap.IsRevIter it l ((items.size : Int) - 1)) (hl : s.heap.IsList l items) (hne : l ≠ it) (hn : items.size ≤ sizeLine)
    (hi : StrsAre items.toList.reverse ys) (hok : (ys.map (·.length)).sum + ys.length * x.length ≤ 16777216)
    (h : ∀ (h' : Heap) (t' k : Tok), (∀ b o, b ≠ it → s.heap.get? b = some o → h'.get? b = some o) → Q (.str (Txt.join x ys) t') { s with heap := h', toks := k }) :
    wpAny (model prog w) A (call (.builtin "str.join") [.str x t, .ref it]) Q E s := by
  refine wpAny_call (codeAny_call_builtin F.slot_str_join.plain F.entry_str_join (F.slot_str_join.check _ _ _ _ _ _ _ _ (typeIs_str _ _ _) (F.args_str_join_2 _ _) ?_))
  have hT : s.TypeIs (.ref it) "list_reverseiterator" := Heap.IsRevIter.typeIs hit
  have hh1 : A.in1.handled = none := hh
  rw [join_tree_other]
  refine wpAny_bind (wpAny_typeOf hT ?_)
  show wpAny _ A.in1 ((pyIter (.ref it)).tryCatch _ >>= fun j => collect j >>= fun vs => joinTail x vs) _ _ s
  refine wpAny_bind (wpAny_tryCatch (wpAny_pyIter_revIter hit (wpAny_bind (RT.collect_rev (A := A.in1) hh1 hit hl hne hn fun h' tk acc hk hacc => ?_))))
  have el : acc.toList = items.toList.reverse := by
    have hs : items.size = items.toList.length := by simp
    have ha : acc.toList.length = items.toList.length := by rw [Array.length_toList, hacc.1, hs]
    refine List.ext_getElem? fun j => ?_
    by_cases hj : j < items.toList.length
    · have hja : j < acc.toList.length := by omega
      have e1 : acc.toList[j]? = some acc.toList[j] := List.getElem?_eq_getElem hja
      have e2 := hacc.2 j acc.toList[j] (by rw [← Array.getElem?_toList]; exact e1)
      rw [e1, List.getElem?_reverse hj, ← e2, hs] <;> simp
    · rw [List.getElem?_eq_none (by omega), List.getElem?_eq_none (by rw [List.length_reverse]; omega)]
  rw [el]
  obtain ⟨q, hv, ht⟩ := strsAre_values hi
  rw [hv]
  subst ht
  have ok := joinOk_of hok
  have ok' := ok
  unfold JoinOk at ok'
  rw [Bool.not_eq_true'] at ok'
  have g : Gives (joinTail x (strValues q)) (joinMade x q) := by
    have g0 := gives_joinTail x q ok'
    rcases q with _ | ⟨c, _ | ⟨d, r⟩⟩ <;> exact g0
  exact g prog w A (wants Q E) { s with heap := h', toks := tk } (post_join q ⟨joinFit_length ok', fun t' k => h h' t' k hk⟩)
end

section
variable {X : Cx} {o e : Expr} {to te : TE} {p2 apos pos pos2 : Pos}
/-- o.join(reversed(e)) -/
def tJoinRev (K : PySem.W.Frag) (to te : TE) : TE := fun σ H Q => to σ H fun v H1 => ∃ sep : Str, v = .str sep ∧ te σ H1 fun u H2 => ∃ (a : Addr) (ys : List Str), u = .ref a ∧ SqL K H2 a (ys.map V.str) ∧
  (ys.map (·.length)).sum + ys.length * sep.length ≤ 16777216 ∧ Q (.str (Txt.join sep ys.reverse)) H2
theorem pe_joinRev (hc : X.calm = true) (hg : Gl X "reversed") (hm : X.mg "reversed" = none) (ho : PE X o to) (he : PE X e te)
    (hs : starEach [e] X.env = (false, eval e X.env) :: starEach [] X.env := by rfl)
    (hs2 : starEach [.Call (.Name "reversed" p2) [e] [] pos2] X.env = [(false, eval (.Call (.Name "reversed" p2) [e] [] pos2) X.env)] := by rfl)
    (hbase : attributeBase o "join" X.env (eval o X.env) = eval o X.env := by rfl) (hline : (apos.endLine == pos.line) = true := by rfl) :
    PE X (.Call (.Attribute o "join" apos) [.Call (.Name "reversed" p2) [e] [] pos2] [] pos) (tJoinRev X.K to te) := by
  refine ⟨fun pins s σ H Q I h => ?_⟩
  refine PySem.Call_method1 hbase hs2 hline (thn (ho.run pins s σ H _ I h) fun v s1 k => ?_)
  obtain ⟨xv, H1, I1, r1, sep, rfl, q1⟩ := k
  obtain ⟨t, rfl⟩ := r1
  refine ⟨"str", _, F.plainAttrs_str, F.slot_str_join, F.type_str_join, typeIs_str _ _ _, (fun _ e => nomatch e), Calls.callWith_builtin rfl (Calls.evalArgs_plain (Calls.spliced_cons ?_))⟩
  refine Call_ (ld_blt I1 hg hm PyProof.Rows.boot_reversed (PyProof.Rows.callWith_type1 (args_cons (thn (he.run pins s1 σ H1 _ I1 q1) fun u s2 k => args_nil ?_) hs) hs rfl))
  obtain ⟨yv, H2, I2, r2, a, ys, rfl, hq, hz, q2⟩ := k
  obtain rfl : u = Value.ref a := r2
  obtain ⟨its, rv, pl, hsz⟩ := I2.list hq
  refine call_reversed_list pl.isList (Calls.spliced_nil ?_)
  have hl := pl.isList
  obtain ⟨ol, hol, _⟩ := id hl
  have grow : ∀ b o, s2.heap.get? b = some o → (s2.heap.push (revObj a ((its.toArray.size : Int) - 1))).get? b = some o := fun b o e => Heap.get?_push_of_some _ e
  have I3 : L2.Inv X pins σ H2 { s2 with heap := s2.heap.push (revObj a ((its.toArray.size : Int) - 1)) } := I2.kept (t' := s2.toks) grow
  obtain ⟨f0, f1, f2, f3, f4, f5⟩ := I2.fpOk (H' := H2) (b := s2.heap.objs.size) (Nat.le_refl _) (I2.hok.fresh (Nat.le_refl _))
  have st := strs_of_vals (us := its.reverse) (ys := ys.reverse) (by rw [List.map_reverse]; exact rv.reverse)
  refine join_rev (s := { s2 with heap := s2.heap.push (revObj a ((its.toArray.size : Int) - 1)) }) (items := its.toArray) (I1.ok.hd hc) ⟨_, Heap.get?_push_size _ rfl, rfl, rfl⟩ (hl.push _) (Nat.ne_of_lt (Heap.lt_size hol)) (by rw [List.size_toArray, ← rv.length]; exact hsz)
    (by simpa using st) (by simpa [List.sum_reverse] using hz) fun h' t' k hk => ?_
  exact ⟨.str _, H2, I3.turned (t' := k) (fun b o hb e => hk b o hb e) f0 f1 f3 f4 f5, ⟨t', rfl⟩, q2⟩
end
end Rp
/-! a caught error: isinstance of it, a def that is handed it, its fields; a method that may raise; count of truths -/
namespace Rp
open PySem PySem.Spec PyProof.Rows L2
/-- the dict of an exception that is looked at stands tracked, or there is none -/
def HasD (H : Hp) (d : Option Addr) : Prop := d = none ∨ ∃ dx fs, d = some dx ∧ H dx = some (.xd fs)
theorem exc_inst {X : Cx} {pins : List (Addr × Obj)} {σ : L2.St} {H : Hp} {s : Shared} {a D : Addr} {oe : Obj} {d : Option Addr} (I : Inv X pins σ H s) (hp : (a, oe) ∈ X.pn) (hz : Zc (.ref D) d oe) (hf : ∃ vs, oe.data = .fields vs) (hd : HasD H d) :
    ∃ od, PySem.W.InstAt s.heap a oe D od := by
  obtain ⟨hget, _⟩ := I.pin (a, oe) (List.mem_append_left _ hp)
  obtain ⟨vs, hv⟩ := hf
  rcases hd with rfl | ⟨dx, fs, rfl, hx⟩
  · refine ⟨none, ?_⟩
    obtain ⟨oc, od, oda, osl⟩ := oe
    obtain ⟨h1, h2⟩ := hz
    dsimp only at h1 h2 hv
    subst h1 h2 hv
    exact ⟨hget, rfl, rfl, trivial⟩
  · have hx : ObjOk X.prog X.w H s.heap dx (.xd fs) := I.hok dx _ hx
    obtain ⟨mA, hns, hr⟩ := hx
    obtain ⟨od, ho, hl⟩ := lookIn_ns hns
    exact ⟨some od, hget, hz.1, by unfold PySem.W.notCls; rw [hv] <;> rfl, by rw [hz.2]; exact ho⟩
/-- isinstance(e, c), e the error at a -/
def rIsX (K : PySem.W.Frag) (a : Addr) (cls : Value) (d : Option Addr) : List V → Hp → VK → Prop := fun xs H Q => ∃ (D : Addr) (c : V) (cv : Value) (b : Bool), xs = [.ref a, c] ∧ cls = .ref D ∧ ExcC K D ∧ ClsV c cv ∧ HasD H d ∧ PySem.W.kitOne K (.ref D) cv = some b ∧ Q (.bl b) H
/-- isinstance(e, (c1, c2, ..)) -/
def rIsXT (K : PySem.W.Frag) (a : Addr) (cls : Value) (d : Option Addr) : List V → Hp → VK → Prop := fun xs H Q => ∃ (D tp : Addr) (cs : List V) (us : List Value) (b : Bool), xs = [.ref a, .ref tp] ∧ cls = .ref D ∧ ExcC K D ∧ H tp = some (.tup cs) ∧ Paired ClsV cs us ∧ HasD H d ∧ PySem.W.kitAny K (.ref D) us = some b ∧ Q (.bl b) H
section
variable {X : Cx} {a : Addr} {oe : Obj} {cls : Value} {d : Option Addr}
theorem call_isX (hp : (a, oe) ∈ X.pn) (hz : Zc cls d oe) (hf : ∃ vs, oe.data = .fields vs) : CallR X (.builtin "isinstance") (rIsX X.K a cls d) := by
  intro pins s σ H xs us Q I r h
  obtain ⟨D, c, cv, b, rfl, rfl, C, k, hd, e, q⟩ := h
  obtain ⟨u1, u2, rfl, r1, r2⟩ := vals2 r
  have e2 := k.eq r2
  subst e2
  cases r1
  obtain ⟨od, J⟩ := exc_inst I hp hz hf hd
  have hcl : (PySem.W.clsIn X.K D).isSome = true := by
    obtain ⟨cd, hc, _⟩ := PySem.W.any_some C.hd
    rw [hc]; rfl
  exact PySem.W.kia_one (PySem.W.kitx_exc (ox := oe) (od := od) hcl C.hg C.hk C.hs C.ha C.hn C.ht C.hm) I.kIn J e (fun z => nomatch z) fun tk => ⟨.bl b, H, I.tok tk, rfl, q⟩
theorem call_isXT (hp : (a, oe) ∈ X.pn) (hz : Zc cls d oe) (hf : ∃ vs, oe.data = .fields vs) : CallR X (.builtin "isinstance") (rIsXT X.K a cls d) := by
  intro pins s σ H xs us Q I r h
  obtain ⟨D, tp, cs, ws, b, rfl, rfl, C, hT, k, hd, e, q⟩ := h
  obtain ⟨u1, u2, rfl, r1, r2⟩ := vals2 r
  cases r1
  cases (show u2 = Value.ref tp from r2)
  obtain ⟨od, J⟩ := exc_inst I hp hz hf hd
  have hcl : (PySem.W.clsIn X.K D).isSome = true := by
    obtain ⟨cd, hc, _⟩ := PySem.W.any_some C.hd
    rw [hc]; rfl
  obtain ⟨_, its, rv, o, h1, h2, n, h3⟩ := (show ObjOk X.prog X.w H s.heap tp (.tup cs) from I.hok tp _ hT)
  have e3 := ClsV.all k rv
  subst e3
  obtain ⟨oc, oda, dt, sl⟩ := o
  simp only at h2 h3
  subst h2 h3
  exact PySem.W.kia_tup (PySem.W.kitx_exc (ox := oe) (od := od) hcl C.hg C.hk C.hs C.ha C.hn C.ht C.hm) I.kIn J h1 e (fun z => nomatch z) fun tk => ⟨.bl b, H, I.tok tk, rfl, q⟩
end

/-! ### a def that is handed the error -/
/-- what it promises: a the error, cls its class, d its dict -/
abbrev SpE := Addr → Value → Option Addr → Sp
structure FnE (P : Program) (w : World) (K : PySem.W.Frag) (mg : Str → Option Value) (base : Heap) (CX : CXT) (k : Nat) (f : Addr) (fd : FuncData) (ps : List Str) (sp : SpE) : Prop where
  len : ∀ a cls d vs H Q E, sp a cls d vs H Q E → vs.length = ps.length
  run : ∀ (A : Around) (outer : List Env) (s : Shared) (H : Hp) (args : Args) (us : List Value) (vs : List V) (Q : VK) (E : XK) (p : Addr × Obj) (cls : Value) (d : Option Addr), L2H.RoomH k A → L2H.PinOk outer H s p → Zc cls d p.2 → (∃ vs, p.2.data = .fields vs) →
    Env0 P w K mg base A outer s H → BindsTo s fd args (ps.zip us) → Vals vs us → sp p.1 cls d vs H Q E → codeAny (model P w) A (.call (.ref f) args) (CR CX outer P w H s Q E) s
section
variable {P : Program} {w : World} {K : PySem.W.Frag} {mg : Str → Option Value} {base : Heap} {CX : CXT} {k : Nat} {f : Addr} {fd : FuncData} {ps : List Str} {sp : SpE}
theorem fn_ofE {name qual : Str} {params : Arguments} {body : List Stmt} {scope : Scope} {dV kV doc pm cdv ct oc : Value} {an od : Option Addr}
    {osl : Array (Option Value)} {N : List Str} (lk : K.lookup f = some ⟨oc, od, .func (PySem.W.fnOf name qual params body scope dV kV doc pm an cdv ct), osl⟩) (hcd : PySem.W.codeIn K cdv qual = true) (S : FnScope N ps scope)
    (len : ∀ a cls d vs H Q E, sp a cls d vs H Q E → vs.length = ps.length)
    (hbody : ∀ (A : Around) (outer : List Env) (s : Shared) (H : Hp) (vs : List V) (Q : VK) (E : XK) (p : Addr × Obj) (cls : Value) (d : Option Addr), Zc cls d p.2 → (∃ vs, p.2.data = .fields vs) → L2H.RoomH k (A.deeper (envOfC qual scope s.heap.objs.size f cdv)) → sp p.1 cls d vs H Q E →
      ∃ t, PSs (L2H.cxH CX P w K mg base N qual scope f cdv A outer s H E p) body t ∧ t { nx := fun _ H' => Q .non H', rt := Q } (L2.start N vs) H) :
    FnE P w K mg base CX (k + 1) f (PySem.W.fnOf name qual params body scope dV kV doc pm an cdv ct) ps sp := by
  refine ⟨len, fun A outer s H args us vs Q E p cls d hr hpin hz hf e0 hb r hsp => ?_⟩
  have hl := len _ _ _ _ _ _ _ hsp
  have KX : K.In s.heap := e0.mod.kin.keeps fun b o e => (e0.bs b o e).1
  have lim : s.heap.NoLimit := e0.mod.nolimit.keeps fun b o e => (e0.bs b o e).1
  have kinds : ∀ y ∈ ps.zip us, scope.names.lookup y.1 = some .local ∨ (scope.names.lookup y.1 = some .cell ∧ ((cellsFrom (s.heap.objs.size + 1) scope.names []).lookup y.1).isSome = true) := fun ⟨n, v⟩ hy => by
    rcases S.par n (List.of_mem_zip hy).1 with q | q
    · exact .inl q
    · exact .inr ⟨q, PySem.W.cellsFrom_some _ _ _ (.inl q)⟩
  refine codeAny_call_function hr.depth (KX _ _ lk) rfl S.co S.gen rfl (PySem.W.codeRec_of KX hcd) (hb _ _ _ _ ?_)
  refine wpAny_newFunctionEnv_cells S.kind kinds fun env he s1 x => ?_
  subst he
  refine ⟨lim.keeps x.toInCall.keep, codeAny_func ?_⟩
  obtain ⟨t, ht, hq⟩ := hbody A outer s H vs Q E p cls d hz hf (hr.deeper _) hsp
  have I : Inv (L2H.cxH CX P w K mg base N qual scope f cdv A outer s H E p) [] (L2.start N vs) H s1 := L2H.inv_startH S hpin e0 hl r x
  refine wpAny_mono (ht.run [] s1 (L2.start N vs) H _ I hq) (fun fl s' hs => ?_) fun e s' hs => hs
  cases fl with
  | next =>
    obtain ⟨σ', H', J, q⟩ := hs
    exact ⟨V.non, H', J.os, J.bare, J.base, J.hok, (rfl : RelV .non Value.none), q⟩
  | ret u =>
    obtain ⟨v, σ', H', J, rv, q⟩ := hs
    exact ⟨v, H', J.os, J.bare, J.base, J.hok, rv, q⟩
  | brk => exact hs.elim fun _ z => z.elim fun _ z => z.2.elim
  | cont => exact hs.elim fun _ z => z.elim fun _ z => z.2.elim
theorem Fun_okE {x qual : Str} {st : Stmt} {N : List Str} (F : Fun K x qual st f fd) (S : FnScope N ps (defScope st)) (len : ∀ a cls d vs H Q E, sp a cls d vs H Q E → vs.length = ps.length)
    (body : ∀ (cdv : Value) (A : Around) (outer : List Env) (s : Shared) (H : Hp) (vs : List V) (Q : VK) (E : XK) (p : Addr × Obj) (cls : Value) (d : Option Addr), Zc cls d p.2 → (∃ vs, p.2.data = .fields vs) →
      L2H.RoomH k (A.deeper (envOfC qual (defScope st) s.heap.objs.size f cdv)) → sp p.1 cls d vs H Q E →
      ∃ t, PSs (L2H.cxH CX P w K mg base N qual (defScope st) f cdv A outer s H E p) (defBody st) t ∧ t { nx := fun _ H' => Q .non H', rt := Q } (start N vs) H) : FnE P w K mg base CX (k + 1) f fd ps sp := by
  obtain ⟨oc, od, kV, doc, pm, an, cdv, ct, osl, rfl, lk, hcd⟩ := F.ex
  exact fn_ofE lk hcd S len fun A outer s H vs Q E p cls d hz hf hr hsp => body cdv A outer s H vs Q E p cls d hz hf hr hsp
end
section
variable {X : Cx} {CX : CXT} {k : Nat} {f : Addr} {fd : FuncData} {ps : List Str} {sp : SpE} {E : XK} {x : Str} {p pos : Pos} {e : Expr} {es : List Expr} {t : TA} {a : Addr} {oe : Obj} {cls : Value} {d : Option Addr}
theorem pe_callE (F : FnE X.prog X.w X.K X.mg X.base CX k f fd ps sp) (hr : L2H.RoomH k X.A) (hp : (a, oe) ∈ X.pn) (hz : Zc cls d oe) (hf : ∃ vs, oe.data = .fields vs) (hg : Gl X x) (hm : X.mg x = some (.ref f)) (hk : PySem.W.keepIn X.K (.ref f) = true) (hb : Binds X.K fd ps []) (hx : Passes CX X E)
    (ha : PA X (e :: es) t) (hdb : (x == ("__debug__" : Str)) = false := by decide) (he : starEach (e :: es) X.env = (false, eval e X.env) :: starEach es X.env := by rfl) (hpl : (backTo pos (starEach es X.env)).any (·.1) = false := by rfl) :
    PE X (.Call (.Name x p) (e :: es) [] pos) (tCall (sp a cls d) [] E t) := by
  refine ⟨fun pins s σ H Q I h => ?_⟩
  refine wpAny_Call_Name_kw (ld_glob I hg hm ?_ hdb)
  refine PySem.W.callWith_K (h₀ := X.base) I.ok.mod.kin hk (thn (ha.run pos pins s σ H _ I h) fun us s1 ⟨vs, H1, I1, r, q⟩ => ⟨I1.kIn, ?_⟩) he hpl
  have q : sp a cls d (vs ++ []) H1 Q E := q
  rw [List.append_nil] at q
  have hl : us.length = ps.length := by rw [← r.length]; exact F.len _ _ _ _ _ _ _ q
  have b := hb s1 us I1.kIn (by rw [List.append_nil]; exact hl)
  rw [List.append_nil] at b
  have P1 := I1.pin (a, oe) (List.mem_append_left _ hp)
  have hpin : L2H.PinOk X.stack H1 s1 (a, oe) := ⟨P1.1, P1.2.1, fun hm => (List.mem_cons.mp (I1.stkSub a hm)).elim P1.2.2.1 P1.2.2.2.1, P1.2.2.2.2⟩
  refine wpAny_call (codeAny_mono (F.run X.A X.stack s1 H1 ⟨us, []⟩ us vs Q E (a, oe) cls d hr hpin hz hf I1.env0 b r q) fun r s' hq => ?_)
  match r, hq with
  | .error e, hq => exact hx pins σ H1 s1 e s' I1 hq
  | .ok (.ret u), hq => exact I1.after hq
end

/-! ### o.m(e, ..) that may raise, in a try -/
def tMethE (C : Addr) (m : Str) (sp : Sp) (E : L2.St → XK) (ta : TE) (t : TA) : TE := fun σ H Q => ta σ H fun x H1 => ∃ a dx fs, x = .ref a ∧ H1 a = some (.ins C dx fs) ∧ fs.lookup m = none ∧ t σ H1 fun vs H2 => sp (x :: vs) H2 Q (E σ)
theorem pe_methE {X : Cx} {CX : CXT} {k : Nat} {C f : Addr} {fd : FuncData} {ps : List Str} {m : Str} {sp : Sp} {E : L2.St → XK} {o e : Expr} {es : List Expr} {ta : TE} {t : TA} {apos pos : Pos} {pl : Sem Bool} (he : PE X o ta) (c : Cls X.K C) (hm : Meth X.K C m f)
    (F : FnOk X.prog X.w X.K X.mg X.base CX k f fd ps sp) (hr : Room k X.A) (hb : Binds X.K fd ps []) (hx : ∀ σ, PassesAt CX X σ (E σ)) (ha : PA X (e :: es) t)
    (hst : starEach (e :: es) X.env = (false, eval e X.env) :: starEach es X.env := by rfl) (hpl : (backTo pos (starEach es X.env)).any (·.1) = false := by rfl)
    (ht : eval (.Call (.Attribute o m apos) (e :: es) [] pos) X.env = (do
      let ov ← eval o X.env
      standAt apos.atName
      let (f, first) ← holding [ov] (getMethod ov m pl)
      callWith pos f first (backTo pos (starEach (e :: es) X.env)) (backToKw pos (keywordEach [] X.env))) := by rfl) :
    PE X (.Call (.Attribute o m apos) (e :: es) [] pos) (tMethE C m sp E ta t) := by
  refine ⟨fun pins s σ H Q I h => ?_⟩
  refine PySem.W.methodCall_KW (pl := pl) (thn (he.run pins s σ H _ I h) fun u s1 ⟨x, H1, I1, rx, a, dx, fs, ex, ea, l, q⟩ => ?_) ht
  subst ex
  obtain rfl : u = Value.ref a := rx
  refine getmeth_ok I1 ea c hm l ?_
  refine PySem.W.callWith_K (first := [.ref a]) (h₀ := X.base) I.ok.mod.kin hm.kp (thn (ha.run pos pins s1 σ H1 _ I1 q) fun us s2 ⟨vs, H2, I2, r, q2⟩ => ⟨I2.kIn, ?_⟩) hst hpl
  exact run_fnS (us := .ref a :: us) (vs := .ref a :: vs) F hr hb (hx σ) I2 (.cons rfl r) q2

/-! ### xs.count(b) of truths -/
theorem vals_bl_eq : ∀ {bs : List Bool} {us : List Value}, Vals (bs.map V.bl) us → us = bs.map Value.bool
  | [], _, .nil => rfl
  | b :: bs, _, .cons r t => by
    rw [vals_bl_eq t]
    cases r
    rfl
def rCntB (K : PySem.W.Frag) : V → List V → Hp → VK → Prop := fun x xs H Q => ∃ (p : Addr) (bs : List Bool) (k : Bool), x = .ref p ∧ xs = [.bl k] ∧ SqL K H p (bs.map V.bl) ∧ Q (.int (bs.count k : Nat)) H
theorem count_bl (k : Bool) : ∀ bs : List Bool, (bs.map Value.bool).countP (PyProof.Rows.isBoolOf k) = bs.count k
  | [] => rfl
  | b :: bs => by
    rw [List.map_cons, List.countP_cons, List.count_cons, count_bl k bs]
    rfl
theorem mt_bcount {X : Cx} : MtR X "list.count" (rCntB X.K) := by
  intro pins s σ H x xs v us Q I rx rxs h
  obtain ⟨p, bs, k, rfl, rfl, hs, q⟩ := h
  cases rx
  obtain ⟨u, rfl, ru⟩ := rxs.one
  cases ru
  obtain ⟨its, rv, ⟨⟨cls, dd, data, sl⟩, n, ho, hc, hdn, hd⟩, hlen⟩ := I.list hs
  simp only at hc hd
  subst hc hd
  have hi := vals_bl_eq rv
  subst hi
  refine call_meets PySem.F.slot_list_count ⟨_, ho, rfl⟩ PySem.F.entry_list_count (PySem.F.args_list_count_2 _ _)
    (SeqAt.list_countAt p (bs.map Value.bool).toArray n dd sl (.bool k) (PyProof.Rows.isBoolOf k)) ⟨ho, fun y hy => ?_, ?_⟩
  · obtain ⟨b, _, rfl⟩ := List.mem_map.mp (show y ∈ bs.map Value.bool by simpa using hy)
    exact SeqAt.EqAt.bool_bool b k
  · refine ⟨.int (bs.count k : Nat), H, I.tok _, ⟨s.toks, ?_⟩, q⟩
    show Value.int (((bs.map Value.bool).toArray.toList.countP (PyProof.Rows.isBoolOf k) : Nat) : Int) s.toks = Value.int ((bs.count k : Nat) : Int) s.toks
    rw [show (bs.map Value.bool).toArray.toList = bs.map Value.bool from rfl, count_bl]
end Rp
/-! == and != by an own __eq__ that may answer either way -/
namespace Rp
open PySem PySem.Spec PyProof.Rows L2
section
variable {prog : Program} {w : World} {A : Around} {E : Value → Shared → Prop} {s : Shared} {K : PySem.W.Frag} {x C L f : Addr} {h₀ : Heap} {m : Str → Option Value} {ox : Obj} {od : Option Obj} {b tb : Value}
open PySem.W in
/-- x != b where the class says only what == is -/
theorem ne_K {Q : Value → Shared → Prop} (hu : A.units + 1 < cLine) (FR : Fr h₀ L s.heap m) (X₀ : K.In h₀) (I : InstAt s.heap x ox C od) (hb : Looks (model prog w) s.heap (typeOf b) tb) (hn : notFirst K C tb = true)
    (hne : findIn K (.ref C) "__ne__" = some (some (.builtin "object.__ne__"))) (hm : mroIn K C (.type "object") = some true)
    (hs : findIn K (.ref C) "__eq__" = some (some (.ref f))) (hf : isFn K (.ref f) = true)
    (h : wpAny (model prog w) A.in1 (call (.ref f) [.ref x, b]) (fun v s' => ∃ r, v = .bool r ∧ Q (.bool (!r)) s') E s) : wpAny (model prog w) A (richCompare .NotEq (.ref x) b) Q E s := by
  have X := X₀.keeps FR.keep
  have hu1 : A.in1.units < cLine := hu
  have sub : Looks (model prog w) s.heap (isInstance (.ref x) (.type "object")) true := I.type.andThen (looks_mroIn X hm)
  have S := PySem.F.cmp_object.ne
  have one : wpAny (model prog w) A (tryCompare (.ref x) "__ne__" b) (fun r s' => ∃ v, r = some v ∧ Q v s') E s := by
    unfold tryCompare
    have body : wpAny (model prog w) A (call (.builtin "object.__ne__") [.ref x, b]) (fun v s' => ∃ r, v = .bool r ∧ Q (.bool r) s') E s := by
      obtain ⟨hp, g, d, t, os⟩ := s
      refine wpAny_call (codeAny_call_builtin S.plain PySem.F.cmpEntry_ne (@check_slot (model prog w) _ _ ⟨hp, g, d, t, os⟩ "object.__ne__" "object" "__ne__" (.ref x) [b] [] _ PySem.F.cmpKind_ne PySem.F.cmpSplit_ne sub (PySem.F.cmpArgs_ne _ _) ?_))
      unfold Builtin.«object.__ne__»
      refine wpAny_bind (wpAny_of_eq (a := ((Value.ref x : Value), [b])) (by first | rfl | (simp only [Builtin.slotArgs]; rfl)) ?_)
      refine wpAny_bind (wpAny_cRoomFor hu1 ?_)
      refine wpAny_bind (ifBound_K X I hs hf (wpAny_mono h (fun v s' hv => ?_) fun _ _ e => e))
      obtain ⟨r, rfl, q⟩ := hv
      exact wpAny_bind (wpAny_truthy_bool (wpAny_pure ⟨!r, rfl, q⟩))
    have bound : wpAny (model prog w) A (callSpecialIfBound? (.ref x) "__ne__" [b]) (fun o s' => ∃ r, o = some (.bool r) ∧ Q (.bool r) s') E s := by
      simp only [callSpecialIfBound?, bindSpecialIfBound?]
      refine wpAny_holding (wpAny_bind (wpAny_bind (wpAny_bind (I.type.here ((looks_findIn X hne).here ?_)))))
      simp only [S.bind]
      refine wpAny_bind (wpAny_askSetting (wpAny_ite ?_))
      have fin : wpAny (model prog w) A (call (.builtin "object.__ne__") ([.ref x] ++ [b]) >>= fun v => pure (some v)) (fun o s' => ∃ r, o = some (.bool r) ∧ Q (.bool r) s') E s :=
        wpAny_bind (wpAny_mono body (fun v s' h' => by
          obtain ⟨r, rfl, q⟩ := h'
          exact wpAny_pure ⟨r, rfl, q⟩) fun _ _ h' => h')
      split
      · exact wpAny_bind (wpAny_pure (wpAny_pure fin))
      · exact wpAny_tryCatch (wpAny_bind (wpAny_pure (wpAny_pure fin)))
    refine wpAny_bind (wpAny_mono bound (fun v s' hv => ?_) fun _ _ e => e)
    obtain ⟨r, rfl, q⟩ := hv
    exact wpAny_pure ⟨_, rfl, q⟩
  unfold richCompare
  simp only [oneThing_ref]
  refine wpAny_holding (wpAny_bind (wpAny_cRoomFor (Nat.lt_of_succ_lt hu) ?_))
  refine wpAny_bind (I.type.here (wpAny_bind (hb.here ?_)))
  split
  · rename_i q
    have e : subIn K tb (.ref C) = some false := by
      rcases Bool.or_eq_true_iff.mp hn with e | e
      · rw [beq_iff_eq.mp e] at q; simp at q
      · exact beq_iff_eq.mp e
    refine wpAny_bind ((looks_subIn X e).here ?_)
    simp only [Bool.false_eq_true, if_false]
    refine wpAny_bind (wpAny_mono one (fun r s' z => ?_) fun _ _ e => e)
    obtain ⟨v, rfl, hq⟩ := z
    exact wpAny_pure hq
  · refine wpAny_bind (wpAny_pure ?_)
    simp only [Bool.false_eq_true, if_false]
    refine wpAny_bind (wpAny_mono one (fun r s' z => ?_) fun _ _ e => e)
    obtain ⟨v, rfl, hq⟩ := z
    exact wpAny_pure hq
end
/-- what a class with an own == and no own != says -/
structure OwnE (K : PySem.W.Frag) (C f : Addr) : Prop where
  eq : PySem.W.findIn K (.ref C) "__eq__" = some (some (.ref f))
  fn : PySem.W.isFn K (.ref f) = true
  ne : PySem.W.findIn K (.ref C) "__ne__" = some (some (.builtin "object.__ne__"))
  mro : PySem.W.mroIn K C (.type "object") = some true
section
variable {X : Cx} {C f : Addr} {fd : FuncData} {ps : List Str} {sp : Sp} {n : Nat} {E : XK} {CX : CXT}
/-- x == y, x != y: x of the class, y of any type -/
def rOwn (K : PySem.W.Frag) (C : Addr) (sp : Sp) (E : XK) (g : Bool → Bool) : R2 := fun x y H Q => ∃ a dx fs tb, x = .ref a ∧ H a = some (.ins C dx fs) ∧ TyX K H y tb ∧ PySem.W.notFirst K C tb = true ∧ sp [x, y] H (fun v H' => ∃ r, v = .bl r ∧ Q (.bl (g r)) H') E
theorem own_callee {A : Around} {pins : List (Addr × Obj)} {σ : L2.St} {H : Hp} {s : Shared} {x y : V} {u v : Value} {Q : Bool → Hp → Prop} (F : FnOk X.prog X.w X.K X.mg X.base CX n f fd ps sp) (hb : Binds X.K fd ps []) (hx : Passes CX X E) (hr : Room n A) (hfr : A.frames = X.A.frames)
    (I : Inv X pins σ H s) (rx : RelV x u) (ry : RelV y v) (hsp : sp [x, y] H (fun v H' => ∃ r, v = .bl r ∧ Q r H') E) :
    wpAny (model X.prog X.w) A (call (.ref f) [u, v]) (fun v s' => ∃ r, v = .bool r ∧ ∃ H', Inv X pins σ H' s' ∧ Q r H') X.xe s := by
  have e0 : Env0 X.prog X.w X.K X.mg X.base A X.stack s H := by
    have e := I.env0
    exact ⟨by rw [hfr]; exact e.frames, e.mod, e.bs, e.bsz, e.funs, e.frf, e.hok, e.bare⟩
  have hl := F.len _ _ _ _ hsp
  have r2 : Vals [x, y] [u, v] := .cons rx (.cons ry .nil)
  refine wpAny_call (codeAny_mono (F.run A X.stack s H ⟨[u, v], []⟩ [u, v] [x, y] _ E hr e0 (by
    have := hb s [u, v] I.kIn (by simpa using hl)
    simpa using this) r2 hsp) fun r s' hq => ?_)
  match r, hq with
  | .error e, hq => exact hx pins σ H s e s' I hq
  | .ok (.ret w), hq =>
    obtain ⟨z, H', I', rz, b, ez, q⟩ := I.after hq
    subst ez
    cases rz
    exact ⟨b, rfl, H', I', q⟩
theorem op_eqOwn (F : FnOk X.prog X.w X.K X.mg X.base CX n f fd ps sp) (O : OwnE X.K C f) (hb : Binds X.K fd ps []) (hx : Passes CX X E) (hr : Room n X.A) : OpR X (compareOp .Eq) (rOwn X.K C sp E id) := by
  intro pins s σ H x y u v Q I rx ry hq
  obtain ⟨a, dx, fs, tb, rfl, ha, ty, nf, hsp⟩ := hq
  show wpAny (model X.prog X.w) X.A (richCompare .Eq u v) (EP X pins σ Q) X.xe s
  obtain ⟨P, Z, p, hv⟩ := kit_of I ry ty
  have hu : u = .ref a := rx
  subst hu
  obtain ⟨mA, J, _⟩ := ins_get I.hok ha
  obtain ⟨od, J, _⟩ := J.look
  obtain ⟨m, hF⟩ := I.fr
  refine PySem.W.cmp_K (op := .Eq) hr.units0 hF I.ok.mod.kin J (Z.ty _ _ I.kIn p) nf O.eq O.fn ?_
  refine wpAny_mono (own_callee (Q := fun r H' => Q (.bl r) H') F hb hx hr rfl I rx ry hsp) (fun w s' k => ?_) fun _ _ k => k
  obtain ⟨r, rfl, H', I', q⟩ := k
  exact ⟨.bl r, H', I', rfl, q⟩
theorem op_neOwn (F : FnOk X.prog X.w X.K X.mg X.base CX n f fd ps sp) (O : OwnE X.K C f) (hb : Binds X.K fd ps []) (hx : Passes CX X E) (hr : Room (n + 1) X.A) : OpR X (compareOp .NotEq) (rOwn X.K C sp E not) := by
  intro pins s σ H x y u v Q I rx ry hq
  obtain ⟨a, dx, fs, tb, rfl, ha, ty, nf, hsp⟩ := hq
  show wpAny (model X.prog X.w) X.A (richCompare .NotEq u v) (EP X pins σ Q) X.xe s
  obtain ⟨P, Z, p, hv⟩ := kit_of I ry ty
  have hu : u = .ref a := rx
  subst hu
  obtain ⟨mA, J, _⟩ := ins_get I.hok ha
  obtain ⟨od, J, _⟩ := J.look
  obtain ⟨m, hF⟩ := I.fr
  refine ne_K (by have := hr.un; omega) hF I.ok.mod.kin J (Z.ty _ _ I.kIn p) nf O.ne O.mro O.eq O.fn ?_
  refine wpAny_mono (own_callee (Q := fun r H' => Q (.bl (!r)) H') F hb hx hr.in1 rfl I rx ry hsp) (fun w s' k => ?_) fun _ _ k => k
  obtain ⟨r, rfl, H', I', q⟩ := k
  exact ⟨r, rfl, .bl !r, H', I', rfl, q⟩
end
end Rp
/-! rules for an except suite whose readings speak of the outer context -/
namespace Rp
open PySem PySem.Spec PyProof.Rows L2
theorem call_isS {X : Cx} {a : Addr} {oe : Obj} {cls : Value} {d : Option Addr} {pn : List (Addr × Obj)} (hz : Zc cls d oe) (hf : ∃ vs, oe.data = .fields vs) : CallR (X.suite a ((a, oe) :: pn)) (.builtin "isinstance") (rIsX X.K a cls d) :=
  call_isX (X := X.suite a ((a, oe) :: pn)) List.mem_cons_self hz hf
theorem ix_listS {X : Cx} {a : Addr} {pn : List (Addr × Obj)} : IxR (X.suite a pn) (rIxL X.K) := ix_list (X := X.suite a pn)
theorem pe_bmS {X : Cx} {a : Addr} {pn : List (Addr × Obj)} {T id : String} {name : Str} {r : V → List V → Hp → VK → Prop} {o e : Expr} {es : List Expr} {to : TE} {t : TA} {apos cpos : Pos} (pa : PlainAttrs T) (slot : Slot T name id) (hty : typeOf (.builtin id) = pure (.type "method_descriptor")) (hm : MtR (X.suite a pn) id r) (ho : PE (X.suite a pn) o to) (ha : PA (X.suite a pn) (e :: es) t)
    (hbase : attributeBase o name X.env (eval o X.env) = eval o X.env := by rfl)
    (hfew : ((backTo cpos (starEach (e :: es) X.env)).all (fun x => !x.1) && (backToKw cpos (keywordEach [] X.env)).all (fun x => x.1.isSome)
      && decide ((e :: es).length + ([] : List Keyword).length + (if ([] : List Keyword).isEmpty then 0 else 1) < 30)) = true := by rfl)
    (hline : (apos.endLine == cpos.line) = true := by rfl) (hs : starEach (e :: es) X.env = (false, eval e X.env) :: starEach es X.env := by rfl) (hplain : (backTo cpos (starEach es X.env)).any (·.1) = false := by rfl) :
    PE (X.suite a pn) (.Call (.Attribute o name apos) (e :: es) [] cpos) (tBM X.K T r to t) := pe_bm (X := X.suite a pn) pa slot hty hm ho ha hbase hfew hline hs hplain
end Rp
/-! str of an own instance; a comprehension over a text; repr of a number whatever runs; figures -/
namespace Rp
open PySem PySem.Spec PyProof.Rows L2
section
variable {X : Cx} {C f : Addr} {fd : FuncData} {ps : List Str} {sp : Sp} {n : Nat} {E : XK} {CX : CXT}
/-- a def of one argument, called from within a builtin -/
theorem callee1 {A : Around} {pins : List (Addr × Obj)} {σ : L2.St} {H : Hp} {s : Shared} {x : V} {u : Value} {Q : V → Hp → Prop} (F : FnOk X.prog X.w X.K X.mg X.base CX n f fd ps sp) (hb : Binds X.K fd ps []) (hx : Passes CX X E) (hr : Room n A) (hfr : A.frames = X.A.frames)
    (I : Inv X pins σ H s) (rx : RelV x u) (hsp : sp [x] H Q E) :
    wpAny (model X.prog X.w) A (call (.ref f) [u]) (fun v s' => ∃ y H', Inv X pins σ H' s' ∧ RelV y v ∧ Q y H') X.xe s := by
  have e0 : Env0 X.prog X.w X.K X.mg X.base A X.stack s H := by
    have e := I.env0
    exact ⟨by rw [hfr]; exact e.frames, e.mod, e.bs, e.bsz, e.funs, e.frf, e.hok, e.bare⟩
  have hl := F.len _ _ _ _ hsp
  have r2 : Vals [x] [u] := .cons rx .nil
  refine wpAny_call (codeAny_mono (F.run A X.stack s H ⟨[u], []⟩ [u] [x] _ E hr e0 (by
    have := hb s [u] I.kIn (by simpa using hl)
    simpa using this) r2 hsp) fun r s' hq => ?_)
  match r, hq with
  | .error e, hq => exact hx pins σ H s e s' I hq
  | .ok (.ret w), hq =>
    obtain ⟨z, H', I', rz, q⟩ := I.after hq
    exact ⟨z, H', I', rz, q⟩
/-- str(x), x of a class with its own __str__ -/
def rStrO (C : Addr) (sp : Sp) (E : XK) : List V → Hp → VK → Prop := fun vs H Q => ∃ a dx fs, vs = [.ref a] ∧ H a = some (.ins C dx fs) ∧ sp [.ref a] H (fun v H' => ∃ t, v = .str t ∧ Q (.str t) H') E
theorem cr_strO (F : FnOk X.prog X.w X.K X.mg X.base CX n f fd ps sp) (hs : PySem.W.findIn X.K (.ref C) "__str__" = some (some (.ref f))) (hf : PySem.W.isFn X.K (.ref f) = true) (hb : Binds X.K fd ps []) (hx : Passes CX X E) (hr : Room (n + 2) X.A) :
    CallR X (.type "str") (rStrO C sp E) := by
  intro pins s σ H vs us Q I r h
  obtain ⟨a, dx, fs, rfl, ha, hsp⟩ := h
  obtain ⟨u, rfl, ru⟩ := vals1 r
  have eu : u = .ref a := ru
  subst eu
  obtain ⟨mA, J, _⟩ := ins_get I.hok ha
  obtain ⟨od, J, _⟩ := J.look
  refine PySem.W.kso_call (by have := hr.un; show X.A.units + 1 + 1 < cLine; omega) I.kIn J hs hf (wpAny_mono (callee1 F hb hx hr.in1.in1 rfl I ru hsp) (fun v s' k => ?_) fun _ _ k => k)
  obtain ⟨y, H', I', ry, t, rfl, q⟩ := k
  obtain ⟨tk, rfl⟩ := ry
  exact ⟨.str t, H', I', ⟨tk, rfl⟩, q⟩
/-- repr(n), whatever guards run -/
theorem cr_reprI : CallR X (.builtin "repr") (fun vs H Q => ∃ i : Int, vs = [.int i] ∧ i.natAbs.log2 < 1920 ∧ Q (.str (Str.ofString (toString i))) H) := by
  intro pins s σ H vs us Q I r h
  obtain ⟨i, rfl, hz, q⟩ := h
  obtain ⟨u, rfl, ru⟩ := vals1 r
  obtain ⟨t, rfl⟩ := ru
  exact PySem.P.repr_of_int hz ⟨.str (Str.ofString (toString i)), H, I.tok _, ⟨s.toks, rfl⟩, q⟩
end
/-- a comprehension over a text's signs -/
theorem lc_str {x : Str} {g : TG} {tt : TT} {te : TE} {vs : List Nat} {σ : L2.St} {H1 : Hp} {D : Addr} {Qd : Hp → Prop} (Pv : Nat → Hp → Prop) (h0 : Pv 0 (upd H1 D (.lst [])))
    (hs : ∀ i c H, x.cps[i]? = some c → Pv i H → g (.str ⟨#[c]⟩) (wipe σ vs) H fun σ2 H2 => wipe σ2 vs = wipe σ vs ∧ tt σ2 H2 fun b H3 =>
      if b = true then te σ2 H3 fun y H4 => ∃ acc, H4 D = some (.lst acc) ∧ acc.length < sizeLine ∧ Pv (i + 1) (upd H4 D (.lst (acc ++ [y]))) else Pv (i + 1) H3) (hd : ∀ H, Pv x.cps.size H → Qd H) :
    ∃ W : Nat → Nat → Hp → Prop, (∃ m, W 0 m (upd H1 D (.lst []))) ∧ ∀ i m H, W i m H →
      ((Its x).stop i H ∧ Qd H) ∨ ((Its x).go i H ∧ ∃ Nx : Hp → Prop, (∀ H', Nx H' → ∃ m', m' < m ∧ W (i + 1) m' H') ∧ ∀ y H', (Its x).yld i H y H' → g y (wipe σ vs) H' fun σ2 H2 => wipe σ2 vs = wipe σ vs ∧ tt σ2 H2 fun b H3 =>
        if b = true then te σ2 H3 fun y H4 => ∃ acc, H4 D = some (.lst acc) ∧ acc.length < sizeLine ∧ Nx (upd H4 D (.lst (acc ++ [y]))) else Nx H3) := by
  refine ⟨fun i m H => m = x.cps.size - i ∧ i ≤ x.cps.size ∧ Pv i H, ⟨x.cps.size, by simp, Nat.zero_le _, h0⟩, ?_⟩
  rintro i m H ⟨rfl, hi, p⟩
  by_cases hlt : i < x.cps.size
  · refine .inr ⟨hlt, Pv (i + 1), fun H' p' => ⟨x.cps.size - (i + 1), by omega, rfl, hlt, p'⟩, fun y H' hy => ?_⟩
    obtain ⟨rfl, c, hc, rfl⟩ := hy
    exact hs i c H' hc p
  · have e : i = x.cps.size := by omega
    subst e
    exact .inl ⟨Nat.le_refl _, hd H p⟩

/-! ### figures -/
/-- a number's figures are more than k where the number is 10 ^ k and more -/
theorem numL_small : ∀ (k n : Nat), (TL.numL n).length ≤ k → n < 10 ^ k
  | 0, n, h => absurd (List.length_eq_zero_iff.mp (Nat.le_zero.mp h)) (TL.numL_ne n)
  | k + 1, n, h => by
    by_cases hn : n < 10
    · have : 1 ≤ 10 ^ k := Nat.one_le_pow _ _ (by decide)
      rw [Nat.pow_succ]
      omega
    · rw [TL.numL_step (by omega), List.length_append] at h
      have e : [48 + n % 10].length = 1 := rfl
      have ih := numL_small k (n / 10) (by omega)
      rw [Nat.pow_succ]
      omega
/-- the first figure is no nought but of 0 -/
theorem numL_head (n : Nat) : 0 < n → ∃ c r, TL.numL n = c :: r ∧ c ≠ 48 := by
  induction n using Nat.strongRecOn with
  | _ n ih =>
    intro h0
    by_cases h : n < 10
    · exact ⟨48 + n, [], TL.numL_lt h, by omega⟩
    · obtain ⟨c, r, e, hc⟩ := ih (n / 10) (by omega) (by omega)
      exact ⟨c, r ++ [48 + n % 10], by rw [TL.numL_step (by omega), e]; rfl, hc⟩
end Rp
namespace K
open PySem L2 Rp
/-! ### the text by places -/
def top (i : Nat) : Stmt := PySem.Challenge.pw_casknotes_k07_weights_read.main.body.getD i (.Pass ⟨0, 0, 0, 0⟩)
abbrev sShow : Stmt := top 27
abbrev sWhole : Stmt := top 29
abbrev sInit : Stmt := inClass (top 32) 0
abbrev sEq : Stmt := inClass (top 32) 1
abbrev sStr : Stmt := inClass (top 32) 2
abbrev sMade : Stmt := top 25
abbrev sNumeral : Stmt := top 26
abbrev sNumber : Stmt := top 33
abbrev sRead : Stmt := top 34
abbrev sDeck : Stmt := top 36
abbrev sDraw : Stmt := top 37
abbrev sLWhole : Stmt := top 38
abbrev sDiv : Stmt := top 39
abbrev sTwo : Stmt := top 40
abbrev sLow : Stmt := top 41
abbrev sIs : Stmt := top 42
abbrev sWritten : Stmt := top 43
abbrev sMarks : Stmt := top 44
abbrev sRefused : Stmt := top 45
abbrev sTwelve : Stmt := top 46
abbrev sRight : Stmt := top 47
abbrev sLaw : Stmt := top 48
abbrev sTxI : Stmt := inClass (top 11) 0

/-! ### decks -/
def DeckAt (H : Hp) (d : Addr) : Prop := ∃ a b c : Int, H d = some (.lst [.int a, .int b, .int c])

/-! ### promises -/
def spWhole (K : PySem.W.Frag) : Sp := fun vs H Q _ => ∃ n : Int, vs = [.int n] ∧ Q (.bl true) H
def spDeck : Sp := fun vs H Q _ => ∃ n : Int, vs = [.int n] ∧ ∀ p, H p = none → ∀ H', DeckAt H' p → (∀ b, b ≠ p → H' b = H b) → Q (.ref p) H'
def spDraw : Sp := fun vs H Q _ => ∃ (d : Addr) (m : Int), vs = [.ref d, .int m] ∧ 0 < m ∧ m < 1073741824 ∧ DeckAt H d ∧ ∀ r : Int, 0 ≤ r → r < m → ∀ H', DeckAt H' d → (∀ b, b ≠ d → H' b = H b) → Q (.int r) H'

/-- what the built-in names hold -/
structure Blt (mg : Str → Option Value) : Prop where
  isi : mg "isinstance" = none
  int : mg "int" = none
  bool : mg "bool" = none

section
variable {P : Program} {w : World} {K : PySem.W.Frag} {mg : Str → Option Value} {base : Heap}
theorem scWhole : FnScope ["thing"] ["thing"] (defScope sWhole) := ⟨rfl, rfl, rfl, by decide +kernel, rfl, by decide +kernel, by decide +kernel⟩
theorem ok_whole {f : Addr} {fd : FuncData} (F : Fun K "is_whole" "is_whole" sWhole f fd) (B : Blt mg) : FnOk P w K mg base CX0 1 f fd ["thing"] (spWhole K) := by
  refine F.ok scWhole (fun vs H Q E h => ?_) (fun cdv A outer s H vs Q E hr h => ?_)
  · obtain ⟨n, rfl, _⟩ := h
    rfl
  · obtain ⟨n, rfl, k⟩ := h
    refine ⟨_, pss_one (ps_ret (pe_and (pe_callB call_isi (by rfl) B.isi (by decide +kernel) (pa_cons (pv 0) (pa_cons (pe_bltn (v := .ty "int") (by rfl) B.int (by decide +kernel) rfl) pa_nil)))
      (pe_one (pe_not (pe_callB call_isi (by rfl) B.isi (by decide +kernel) (pa_cons (pv 0) (pa_cons (pe_bltn (v := .ty "bool") (by rfl) B.bool (by decide +kernel) rfl) pa_nil))))))), ?_⟩
    refine ⟨_, rfl, _, .ty "int", _, _, true, rfl, .ty _, .base (.int _), kit_ty (by decide +kernel), true, rfl, ?_⟩
    refine iteT ?_
    refine ⟨_, rfl, _, .ty "bool", _, _, false, rfl, .ty _, .base (.int _), kit_ty (by decide +kernel), false, rfl, ?_⟩
    exact k
theorem scLWhole : FnScope ["_law_thing"] ["_law_thing"] (defScope sLWhole) := ⟨rfl, rfl, rfl, by decide +kernel, rfl, by decide +kernel, by decide +kernel⟩
theorem ok_lwhole {f : Addr} {fd : FuncData} (F : Fun K "_law_whole" "_law_whole" sLWhole f fd) (B : Blt mg) : FnOk P w K mg base CX0 1 f fd ["_law_thing"] (spWhole K) := by
  refine F.ok scLWhole (fun vs H Q E h => ?_) (fun cdv A outer s H vs Q E hr h => ?_)
  · obtain ⟨n, rfl, _⟩ := h
    rfl
  · obtain ⟨n, rfl, k⟩ := h
    refine ⟨_, pss_one (ps_ret (pe_and (pe_callB call_isi (by rfl) B.isi (by decide +kernel) (pa_cons (pv 0) (pa_cons (pe_bltn (v := .ty "int") (by rfl) B.int (by decide +kernel) rfl) pa_nil)))
      (pe_one (pe_not (pe_callB call_isi (by rfl) B.isi (by decide +kernel) (pa_cons (pv 0) (pa_cons (pe_bltn (v := .ty "bool") (by rfl) B.bool (by decide +kernel) rfl) pa_nil))))))), ?_⟩
    refine ⟨_, rfl, _, .ty "int", _, _, true, rfl, .ty _, .base (.int _), kit_ty (by decide +kernel), true, rfl, ?_⟩
    refine iteT ?_
    refine ⟨_, rfl, _, .ty "bool", _, _, false, rfl, .ty _, .base (.int _), kit_ty (by decide +kernel), false, rfl, ?_⟩
    exact k
end
end K
namespace K
open PySem L2 Rp
section
variable {P : Program} {w : World} {K : PySem.W.Frag} {mg : Str → Option Value} {base : Heap}
theorem scDeck : FnScope ["_law_cell"] ["_law_cell"] (defScope sDeck) := ⟨rfl, rfl, rfl, by decide +kernel, rfl, by decide +kernel, by decide +kernel⟩
theorem ok_deck {f : Addr} {fd : FuncData} (F : Fun K "_law_deck" "_law_deck" sDeck f fd) (B : Blt mg) : FnOk P w K mg base CX0 1 f fd ["_law_cell"] spDeck := by
  refine F.ok scDeck (fun vs H Q E h => ?_) (fun cdv A outer s H vs Q E hr h => ?_)
  · obtain ⟨n, rfl, _⟩ := h
    rfl
  · obtain ⟨n, rfl, k⟩ := h
    refine ⟨_, pss_one (ps_ret (pe_lst (pa_cons (pe_op op_mul (pv 0) (pe_callTy call_int1 (by rfl) B.int (by decide +kernel) (pa_cons (pe_cmpR op_ge (pv 0) (pe_op op_pow pe_int pe_int) (nomark _)) pa_nil)))
      (pa_cons (pe_op op_mod (pv 0) pe_int) (pa_cons pe_int pa_nil))))), ?_⟩
    refine ⟨_, rfl, _, rfl, _, _, rfl, rfl, (by show (0:Int) ≤ 18 ∧ (18:Int) ≤ 1000000 ∧ (10:Int).natAbs < 2 ^ 64; decide), _, _, rfl, rfl, .inr ⟨_, rfl, ?_⟩⟩
    refine ⟨_, _, rfl, rfl, .inr (by split <;> decide), ?_⟩
    refine ⟨_, rfl, _, _, rfl, rfl, (by show (0:Int) < 2147483587; decide), ?_⟩
    refine ⟨(by show 3 ≤ sizeLine; decide), fun p hp => ?_⟩
    exact k p hp _ ⟨_, _, _, upd_same⟩ fun b hb => upd_ne hb
theorem scDraw : FnScope ["_law_deck_here", "_law_most", "_law_got", "_law_mixed"] ["_law_deck_here", "_law_most"] (defScope sDraw) := ⟨rfl, rfl, rfl, by decide +kernel, rfl, by decide +kernel, by decide +kernel⟩
theorem ix3 {a b c : V} : atI [a, b, c] (0 : Int) = some a ∧ atI [a, b, c] (1 : Int) = some b ∧ atI [a, b, c] (2 : Int) = some c := ⟨rfl, rfl, rfl⟩
theorem ok_draw {f : Addr} {fd : FuncData} (F : Fun K "_law_draw" "_law_draw" sDraw f fd) : FnOk P w K mg base CX0 1 f fd ["_law_deck_here", "_law_most"] spDraw := by
  refine F.ok scDraw (fun vs H Q E h => ?_) (fun cdv A outer s H vs Q E hr h => ?_)
  · obtain ⟨d, m, rfl, _⟩ := h
    rfl
  · obtain ⟨d, m, rfl, h0, h1, ⟨a, b, c, hd⟩, k⟩ := h
    refine ⟨_, pss_cons (ps_if (pt_cmpR op_gt (pe_ix ix_list (pv 0) pe_int (fun _ _ => rfl)) pe_int (nomark _))
        (pss_cons (ps_set (i := 2) scDraw.nd rfl (Or.inl rfl) (pe_op op_modN (pe_ix ix_list (pv 0) pe_int (fun _ _ => rfl)) (pv 1)))
        (pss_cons (ps_asg (pe_op op_fdivN (pe_ix ix_list (pv 0) pe_int (fun _ _ => rfl)) (pv 1)) (pg_sub (pv 0) pe_int set_list))
        (pss_one (ps_ret (pv 2))))) pss_nil)
      (pss_cons (ps_asg (pe_op op_add (pe_ix ix_list (pv 0) pe_int (fun _ _ => rfl)) pe_int) (pg_sub (pv 0) pe_int set_list))
      (pss_cons (ps_set (i := 3) scDraw.nd rfl (Or.inl rfl) (pe_op op_mod (pe_op op_mul (pe_op op_add (pe_op op_add (pe_ix ix_list (pv 0) pe_int (fun _ _ => rfl)) (pe_op op_mul pe_int (pe_ix ix_list (pv 0) pe_int (fun _ _ => rfl)))) pe_int) pe_int) pe_int))
      (pss_cons (ps_set (i := 3) scDraw.nd rfl (Or.inl rfl) (pe_op op_mod (pe_op op_add (pe_op op_add (pe_op op_mul (pv 3) (pv 3)) (pe_op op_mul pe_int (pv 3))) (pe_ix ix_list (pv 0) pe_int (fun _ _ => rfl))) pe_int))
      (pss_one (ps_ret (pe_op op_modN (pe_op op_fdiv (pe_op op_mod (pe_op op_mul (pv 3) pe_int) pe_int) pe_int) (pv 1))))))), ?_⟩
    refine ⟨_, rfl, d, _, _, _, rfl, rfl, SqL.of hd, ix3.1, _, _, rfl, rfl, _, rfl, ?_⟩
    refine ite2 (fun _ => ?_) (fun _ => ?_)
    · refine ⟨_, rfl, d, _, _, _, rfl, rfl, SqL.of hd, ix3.1, _, rfl, _, _, rfl, rfl, (by show m ≠ 0; omega), ?_⟩
      refine ⟨_, rfl, d, _, _, _, rfl, rfl, SqL.of hd, ix3.1, _, rfl, _, _, rfl, rfl, ⟨by omega, by omega⟩, ?_⟩
      refine ⟨_, rfl, d, _, _, 0, rfl, rfl, hd, rfl, ?_⟩
      refine ⟨_, rfl, ?_⟩
      exact k _ (Int.fmod_nonneg_of_pos a h0) (Int.fmod_lt_of_pos a h0) _ ⟨_, _, _, upd_same⟩ fun b hb => upd_ne hb
    · refine ⟨_, rfl, d, _, _, _, rfl, rfl, SqL.of hd, ix3.2.2, _, _, rfl, rfl, ?_⟩
      refine ⟨_, rfl, d, _, _, 2, rfl, rfl, hd, rfl, ?_⟩
      have hd2 : (upd H d (.lst ([V.int a, V.int b, V.int c].set 2 (.int (c + 1))))) d = some (.lst [.int a, .int b, .int (c + 1)]) := upd_same
      refine ⟨_, rfl, d, _, _, _, rfl, rfl, SqL.of hd2, ix3.2.1, _, rfl, d, _, _, _, rfl, rfl, SqL.of hd2, ix3.2.2, _, _, rfl, rfl, .inl (by decide), _, _, rfl, rfl, _, _, rfl, rfl, _, _, rfl, rfl, .inr (by decide), _, _, rfl, rfl, (by show (0:Int) < 2147483647; decide), ?_⟩
      refine ⟨_, rfl, _, rfl, _, _, rfl, rfl, .inl ⟨by omega, by omega⟩, _, rfl, _, _, rfl, rfl, .inl (by decide), _, _, rfl, rfl, _, rfl, d, _, _, _, rfl, rfl, SqL.of hd2, ix3.2.2, _, _, rfl, rfl, _, _, rfl, rfl, (by show (0:Int) < 2147483629; decide), ?_⟩
      refine ⟨_, rfl, _, _, rfl, rfl, .inr (by decide), _, _, rfl, rfl, (by show (0:Int) < 2147483563; decide), _, _, rfl, rfl, ⟨by decide, by decide⟩, _, rfl, _, _, rfl, rfl, (by show m ≠ 0; omega), ?_⟩
      exact k _ (Int.fmod_nonneg_of_pos _ h0) (Int.fmod_lt_of_pos _ h0) _ ⟨_, _, _, hd2⟩ fun b hb => upd_ne hb
end
end K
namespace K
open PySem L2 Rp
/-! ### the law's own gcd -/
theorem gcd_turn {c d : Int} (hc : 0 ≤ c) (hd : 0 ≤ d) : Int.gcd d (c % d) = Int.gcd c d := by
  obtain ⟨m, rfl⟩ := Int.eq_ofNat_of_zero_le hc
  obtain ⟨n, rfl⟩ := Int.eq_ofNat_of_zero_le hd
  show Nat.gcd n (m % n) = Nat.gcd m n
  rw [Nat.gcd_comm n, ← Nat.gcd_rec, Nat.gcd_comm]
def spDiv : Sp := fun vs H Q _ => ∃ a b : Int, vs = [.int a, .int b] ∧ 0 ≤ a ∧ 0 ≤ b ∧ Q (.int (Int.gcd a b : Nat)) H
section
variable {P : Program} {w : World} {K : PySem.W.Frag} {mg : Str → Option Value} {base : Heap}
theorem scDiv : FnScope ["_law_one", "_law_other"] ["_law_one", "_law_other"] (defScope sDiv) := ⟨rfl, rfl, rfl, by decide +kernel, rfl, by decide +kernel, by decide +kernel⟩
theorem ok_div {f : Addr} {fd : FuncData} (F : Fun K "_law_divides" "_law_divides" sDiv f fd) (hab : mg "abs" = none) : FnOk P w K mg base CX0 1 f fd ["_law_one", "_law_other"] spDiv := by
  refine F.ok scDiv (fun vs H Q E h => ?_) (fun cdv A outer s H vs Q E hr h => ?_)
  · obtain ⟨a, b, rfl, _⟩ := h
    rfl
  · obtain ⟨a, b, rfl, ha, hb, k⟩ := h
    refine ⟨_, pss_cons (ps_par (i := 0) (j := 1) rfl scDiv.nd rfl rfl (by decide) rfl rfl (pa_cons (pe_callB call_abs (by rfl) hab (by decide +kernel) (pa_cons (pv 0) pa_nil)) (pa_cons (pe_callB call_abs (by rfl) hab (by decide +kernel) (pa_cons (pv 1) pa_nil)) pa_nil)) (by rfl))
      (pss_cons (ps_while PassesOwn.never (pt_cmpR op_gt (pv 1) pe_int (nomark _)) (pss_one (ps_par (i := 0) (j := 1) rfl scDiv.nd rfl rfl (by decide) rfl rfl (pa_cons (pv 1) (pa_cons (pe_op op_modN (pv 0) (pv 1)) pa_nil)) (by rfl))))
      (pss_one (ps_ret (pv 0)))), ?_⟩
    refine ⟨_, rfl, _, rfl, _, rfl, _, rfl, _, _, rfl, ?_⟩
    rw [if_neg (show ¬ a < 0 by omega), if_neg (show ¬ b < 0 by omega)]
    refine while_by (fun σ H' => H' = H ∧ ∃ c d : Int, σ = [some (.int c), some (.int d)] ∧ 0 ≤ c ∧ 0 ≤ d ∧ Int.gcd c d = Int.gcd a b) (fun σ _ => match σ with | [_, some (.int d)] => d.toNat | _ => 0)
      ⟨rfl, a, b, rfl, ha, hb, rfl⟩ ?_ ?_
    · rintro σ H' ⟨rfl, c, d, rfl, hc, hd, hg⟩
      refine ⟨_, rfl, _, _, rfl, rfl, _, rfl, ?_⟩
      refine ite2 (fun h => ?_) (fun h => ?_)
      · have h' : 0 < d := by simpa using h
        refine ⟨_, rfl, _, rfl, _, rfl, _, _, rfl, rfl, (by show d ≠ 0; omega), _, _, rfl, ?_⟩
        have e : c.fmod d = c % d := Int.fmod_eq_emod_of_nonneg c (by omega)
        have e0 := Int.emod_nonneg c (by omega : d ≠ 0)
        have e1 := Int.emod_lt_of_pos c h'
        refine ⟨⟨rfl, d, c.fmod d, rfl, by omega, by omega, ?_⟩, ?_⟩
        · rw [← hg, e]
          exact gcd_turn hc hd
        · show (c.fmod d).toNat < d.toNat
          omega
      · have h' : d = 0 := by
          have : ¬ 0 < d := by simpa using h
          omega
        subst h'
        refine ⟨_, rfl, ?_⟩
        have e : c = ((Int.gcd a b : Nat) : Int) := by rw [← hg, Int.gcd_zero_right]; omega
        rw [e]
        exact k
    · rintro σ H' Q1 Q2 hQ ⟨v, e, i, j, h1, h2, c, h3, q⟩
      exact ⟨v, e, i, j, h1, h2, c, h3, hQ _ _ q⟩
end
end K
namespace K
open PySem L2 Rp
/-! ### sizes -/
/-- below 2 ^ m in size -/
def Sz (m : Nat) (x : Int) : Prop := x.natAbs < 2 ^ m
theorem Sz.mono {a b : Nat} {x : Int} (h : Sz a x) (hab : a ≤ b) : Sz b x := Nat.lt_of_lt_of_le h (Nat.pow_le_pow_right (by decide) hab)
theorem Sz.mul {a b : Nat} {x y : Int} (hx : Sz a x) (hy : Sz b y) : Sz (a + b) (x * y) := wide_lt hx hy
theorem Sz.add {a : Nat} {x y : Int} (hx : Sz a x) (hy : Sz a y) : Sz (a + 1) (x + y) := by
  have h := Int.natAbs_add_le x y
  unfold Sz at *
  rw [Nat.pow_succ]
  omega
theorem Sz.sub {a : Nat} {x y : Int} (hx : Sz a x) (hy : Sz a y) : Sz (a + 1) (x - y) := by
  have h := Int.natAbs_sub_le x y
  unfold Sz at *
  rw [Nat.pow_succ]
  omega
theorem Sz.div {a : Nat} {x : Int} (hx : Sz a x) (y : Int) : Sz a (x / y) := Nat.lt_of_le_of_lt (Int.natAbs_ediv_le_natAbs x y) hx
theorem Sz.log {a : Nat} {x : Int} (hx : Sz a x) (h0 : 0 < a) : x.natAbs.log2 < a := PySem.Flt.log2_lt_of h0 hx
theorem Sz.mulOk {a b : Nat} {x y : Int} (hx : Sz a x) (hy : Sz b y) (h0 : 0 < a) (h1 : 0 < b) (h : a + b ≤ 1000000) : CMulW x y := wide_mul hx hy h0 h1 h
theorem gcd_pos {t b : Int} (hb : 0 < b) : 0 < ((Int.gcd t b : Nat) : Int) := by
  have : Int.gcd t b ≠ 0 := fun z => by
    have := Int.gcd_eq_zero_iff.mp z
    omega
  omega
theorem gcd_le {t b : Int} (hb : 0 < b) : ((Int.gcd t b : Nat) : Int) ≤ b := by
  have h := Int.gcd_dvd_right t b
  exact Int.le_of_dvd hb h
theorem Sz.gcd {a : Nat} {t b : Int} (h : Sz a b) (hb : 0 < b) : Sz a ((Int.gcd t b : Nat) : Int) := by
  have h1 := gcd_le (t := t) hb
  have h2 := gcd_pos (t := t) hb
  unfold Sz at *
  omega

/-! ### Weights -/
theorem tb_ : ¬ (("top" : Str) = "bottom") := by decide +kernel
theorem bt_ : ¬ (("bottom" : Str) = "top") := by decide +kernel
/-- a Weight's fields, as __init__ stores them -/
def wf (t b : Int) : List (Str × V) := putF "bottom" (.int b) (putF "top" (.int t) [])
theorem wf_top (t b : Int) : (wf t b).lookup ("top" : Str) = some (.int t) := by
  unfold wf
  rw [lookup_putF, if_neg tb_, lookup_putF, if_pos rfl]
theorem wf_bottom (t b : Int) : (wf t b).lookup ("bottom" : Str) = some (.int b) := by
  unfold wf
  rw [lookup_putF, if_pos rfl]
theorem wf_no (t b : Int) {m : Str} (h1 : ¬ m = "top") (h2 : ¬ m = "bottom") : (wf t b).lookup m = none := by
  unfold wf
  rw [lookup_putF, if_neg h2, lookup_putF, if_neg h1]
  all_goals rfl
/-- a Weight t / b stands at p -/
def WAt (C : Addr) (H : Hp) (p : Addr) (t b : Int) : Prop := ∃ dx, H p = some (.ins C dx (wf t b))
theorem WAt.same {C : Addr} {H H' : Hp} {p : Addr} {t b : Int} (h : WAt C H p t b) (e : Same H H') : WAt C H' p t b := let ⟨dx, h⟩ := h; ⟨dx, e _ _ h⟩
theorem same_make {H : Hp} {x dx C : Addr} {fs : List (Str × V)} (nx : H x = none) (ndx : H dx = none) : Same H (upd (upd (upd H dx (.own x)) x (.ins C dx [])) x (.ins C dx fs)) := fun b o e => by
  rw [upd_ne (ne_of_none e nx), upd_ne (ne_of_none e nx), upd_ne (ne_of_none e ndx)]
  exact e

/-- what the top holds of the class Weight, at C -/
structure WTxt (K : PySem.W.Frag) (mg : Str → Option Value) (C fW : Addr) : Prop where
  cl : Cls K C
  nT : NoAttr K C "top"
  nB : NoAttr K C "bottom"
  mgC : mg "Weight" = some (.ref C)
  mgW : mg "is_whole" = some (.ref fW)
  kpW : PySem.W.keepIn K (.ref fW) = true
  gcd : mg "gcd" = some (.builtin "math.gcd")

def spInit (C : Addr) : Sp := fun vs H Q _ => ∃ (p dx : Addr) (t b : Int), vs = [.ref p, .int t, .int b] ∧ H p = some (.ins C dx []) ∧ 0 ≤ t ∧ 0 < b ∧ Sz 8000 b ∧
  Q .non (upd H p (.ins C dx (wf (t / (Int.gcd t b : Nat)) (b / (Int.gcd t b : Nat)))))

/-- as FunD.ok, of a def that lets nothing out -/
theorem FunD_ok0 {P : Program} {w : World} {K : PySem.W.Frag} {mg : Str → Option Value} {base : Heap} {x qual : Str} {params : Arguments} {body : List Stmt} {scope : Scope} {dvs : List V} {kws : List (Str × V)} {f : Addr} {fd : FuncData} {N ps : List Str} {k : Nat} {sp : Sp}
    (F : FunD K x qual params body scope dvs kws f fd) (S : FnScope N ps scope) (len : ∀ vs H Q E, sp vs H Q E → vs.length = ps.length)
    (hbody : ∀ (cdv : Value) (A : Around) (outer : List PySem.Env) (s : Shared) (H : Hp) (vs : List V) (Q : VK) (E : XK), Room k (A.deeper (PyProof.Rows.envOfC qual scope s.heap.objs.size f cdv)) → sp vs H Q E →
      ∃ t, PSs (cxOf CX0 P w K mg base N qual scope f cdv A outer s H E).nox body t ∧ t { nx := fun _ H' => Q .non H', rt := Q } (start N vs) H) : FnOk P w K mg base CX0 (k + 1) f fd ps sp :=
  F.ok S len fun cdv A outer s H vs Q E hr h => let ⟨t, h1, h2⟩ := hbody cdv A outer s H vs Q E hr h; ⟨t, h1.nox, h2⟩

section
variable {P : Program} {w : World} {K : PySem.W.Frag} {mg : Str → Option Value} {base : Heap}
theorem scInit : FnScope ["self", "top", "bottom", "shared"] ["self", "top", "bottom"] (defScope sInit) := ⟨rfl, rfl, rfl, by decide +kernel, rfl, by decide +kernel, by decide +kernel⟩
abbrev FunI (K : PySem.W.Frag) (f : Addr) (fd : FuncData) : Prop := FunD K "__init__" "Weight.__init__" (defArgs sInit) (defBody sInit) (defScope sInit) [.int 1] [] f fd
theorem ok_init {f C fW : Addr} {fd fdW : FuncData} (F : FunI K f fd) (T : WTxt K mg C fW) (GW : FnOk P w K mg base CX0 1 fW fdW ["thing"] (spWhole K)) (bW : Binds K fdW ["thing"] []) : FnOk P w K mg base CX0 2 f fd ["self", "top", "bottom"] (spInit C) := by
  refine FunD_ok0 F scInit (fun vs H Q E h => ?_) (fun cdv A outer s H vs Q E hr h => ?_)
  · obtain ⟨p, dx, t, b, rfl, _⟩ := h
    rfl
  · obtain ⟨p, dx, t, b, rfl, hp, ht, hb, hz, k⟩ := h
    refine ⟨_, pss_cons (ps_if (PW.pt (pw_and (pt_val (pe_call GW hr (by rfl) T.mgW T.kpW bW .nil pass0 (pa_cons (pv 2) pa_nil))) (pw_and1 (pt_cmpR op_eq (pv 2) pe_int (nomark _))))) (pss_one ps_never) pss_nil)
      (pss_cons (ps_if (PW.pt (pw_or (pt_not (pt_val (pe_call GW hr (by rfl) T.mgW T.kpW bW .nil pass0 (pa_cons (pv 1) pa_nil)))) (pw_or (pt_not (pt_val (pe_call GW hr (by rfl) T.mgW T.kpW bW .nil pass0 (pa_cons (pv 2) pa_nil))))
          (pw_or (pt_cmpR op_lt (pv 1) pe_int (nomark _)) (pw_or1 (pt_cmpR op_lt (pv 2) pe_int (nomark _))))))) (pss_one ps_never) pss_nil)
      (pss_cons (ps_set (i := 3) scInit.nd rfl (Or.inl rfl) (pe_callBfun cr_gcd (by rfl) T.gcd (pa_cons (pv 1) (pa_cons (pv 2) pa_nil))))
      (pss_cons (ps_fld (pv 0) (pe_op op_fdivW (pv 1) (pv 3)) rfl)
      (pss_one (ps_fld (pv 0) (pe_op op_fdivW (pv 2) (pv 3)) rfl))))), ?_⟩
    have hg := gcd_pos (t := t) hb
    have hgz : CDivW t ((Int.gcd t b : Nat) : Int) := ⟨hg, Nat.lt_trans ((Sz.gcd (t := t) hz hb).log (by decide)) (by decide)⟩
    have hgz' : CDivW b ((Int.gcd t b : Nat) : Int) := hgz
    refine ⟨_, rfl, b, rfl, true, rfl, iteT ⟨_, rfl, rfl, _, rfl, ?_⟩⟩
    rw [decide_eq_false (show ¬ (V.int b = V.int 0) from fun z => by cases z; omega)]
    refine iteF ?_
    refine ⟨_, rfl, t, rfl, true, rfl, iteF ⟨_, rfl, b, rfl, true, rfl, iteF ⟨_, rfl, _, _, rfl, rfl, _, rfl, ?_⟩⟩⟩
    rw [decide_eq_false (show ¬ t < 0 by omega)]
    refine iteF ⟨_, rfl, _, _, rfl, rfl, _, rfl, ?_⟩
    rw [decide_eq_false (show ¬ b < 0 by omega)]
    refine iteF ?_
    refine ⟨_, rfl, _, rfl, t, b, rfl, ?_⟩
    refine ⟨_, rfl, _, rfl, _, _, rfl, rfl, hgz, _, rfl, p, C, dx, _, rfl, hp, T.cl, T.nT, (by show 0 < 1000; decide), ?_⟩
    refine ⟨_, rfl, _, rfl, _, _, rfl, rfl, hgz', _, rfl, p, C, dx, _, rfl, upd_same, T.cl, T.nB, (by show 1 < 1000; decide), ?_⟩
    show Q .non (upd (upd H p _) p _)
    rw [upd_upd]
    exact k
end
end K
namespace K
open PySem L2 Rp
/-- a Weight's numbers, below 2 ^ m -/
structure Wn (m : Nat) (t b : Int) : Prop where
  t0 : 0 ≤ t
  b0 : 0 < b
  tz : Sz m t
  bz : Sz m b
theorem Wn.mono {m n : Nat} {t b : Int} (h : Wn m t b) (hm : m ≤ n) : Wn n t b := ⟨h.t0, h.b0, h.tz.mono hm, h.bz.mono hm⟩
/-- lowest terms -/
def lowT (t b : Int) : Int := t / ((Int.gcd t b : Nat) : Int)
def lowB (t b : Int) : Int := b / ((Int.gcd t b : Nat) : Int)
theorem Wn.low {m : Nat} {t b : Int} (h : Wn m t b) : Wn m (lowT t b) (lowB t b) := by
  have hg := gcd_pos (t := t) h.b0
  have hd := Int.gcd_dvd_right t b
  refine ⟨Int.ediv_nonneg h.t0 (Int.le_of_lt hg), ?_, h.tz.div _, h.bz.div _⟩
  exact Int.ediv_pos_of_pos_of_dvd h.b0 (Int.le_of_lt hg) hd

end K
namespace K
open PySem L2 Rp
/-- a def of the module, as its callers want it -/
structure Cl (K : PySem.W.Frag) (mg : Str → Option Value) (x : Str) (f : Addr) (fd : FuncData) (ps : List Str) : Prop where
  g : mg x = some (.ref f)
  k : PySem.W.keepIn K (.ref f) = true
  b : Binds K fd ps []
/-- what isinstance asks of an own class's instance -/
structure WIns (K : PySem.W.Frag) (C : Addr) : Prop where
  ha : PySem.W.findIn K (.ref C) "__class__" = some (some (.builtin "object.__class__"))
  hn : PySem.W.specialIn K (.builtin "object.__class__") "__get__" = some (some (.builtin "getset_descriptor.__get__"))
  htk : PySem.W.takesIn K (.builtin "object.__class__") = some true
  hm : PySem.W.mroIn K C (.type "object") = some true
theorem kit_self {K : PySem.W.Frag} {C : Addr} : PySem.W.kitOne K (.ref C) (.ref C) = some true := by
  unfold PySem.W.kitOne
  rw [if_pos (by simp)]

def spLow : Sp := fun vs H Q _ => ∃ t b : Int, vs = [.int t, .int b] ∧ 0 ≤ t ∧ 0 < b ∧ Sz 8000 b ∧ ∀ p, H p = none → Q (.ref p) (upd H p (.tup [.int (lowT t b), .int (lowB t b)]))
/-- _law_is of a Weight that is what it should be -/
def spIs (C : Addr) : Sp := fun vs H Q _ => ∃ (p : Addr) (t b : Int), vs = [.ref p, .int t, .int b] ∧ 0 ≤ t ∧ 0 < b ∧ Sz 8000 b ∧ WAt C H p (lowT t b) (lowB t b) ∧ ∀ H', Same H H' → Q (.bl true) H'

section
variable {P : Program} {w : World} {K : PySem.W.Frag} {mg : Str → Option Value} {base : Heap}
theorem scLow : FnScope ["_law_top", "_law_bottom", "_law_by"] ["_law_top", "_law_bottom"] (defScope sLow) := ⟨rfl, rfl, rfl, by decide +kernel, rfl, by decide +kernel, by decide +kernel⟩
theorem ok_low {f fD : Addr} {fd fdD : FuncData} (F : Fun K "_law_lowest" "_law_lowest" sLow f fd) (cD : Cl K mg "_law_divides" fD fdD ["_law_one", "_law_other"]) (GD : FnOk P w K mg base CX0 1 fD fdD ["_law_one", "_law_other"] spDiv) :
    FnOk P w K mg base CX0 2 f fd ["_law_top", "_law_bottom"] spLow := by
  refine F.ok scLow (fun vs H Q E h => ?_) (fun cdv A outer s H vs Q E hr h => ?_)
  · obtain ⟨t, b, rfl, _⟩ := h
    rfl
  · obtain ⟨t, b, rfl, ht, hb, hz, k⟩ := h
    refine ⟨_, pss_cons (ps_set (i := 2) scLow.nd rfl (Or.inl rfl) (pe_call GD hr (by rfl) cD.g cD.k cD.b .nil pass0 (pa_cons (pv 0) (pa_cons (pv 1) pa_nil))))
      (pss_one (ps_ret (pe_tup (pa_cons (pe_op op_fdivW (pv 0) (pv 2)) (pa_cons (pe_op op_fdivW (pv 1) (pv 2)) pa_nil))))), ?_⟩
    have hg := gcd_pos (t := t) hb
    have hgz : ∀ i, CDivW i ((Int.gcd t b : Nat) : Int) := fun i => ⟨hg, Nat.lt_trans ((Sz.gcd (t := t) hz hb).log (by decide)) (by decide)⟩
    refine ⟨_, rfl, _, rfl, t, b, rfl, ht, Int.le_of_lt hb, ?_⟩
    refine ⟨_, rfl, _, rfl, _, _, rfl, rfl, hgz _, _, rfl, _, rfl, _, _, rfl, rfl, hgz _, (by show 2 ≤ sizeLine; decide), fun p hp => ?_⟩
    exact k p hp
theorem scIs : FnScope ["_law_found", "_law_top", "_law_bottom"] ["_law_found", "_law_top", "_law_bottom"] (defScope sIs) := ⟨rfl, rfl, rfl, by decide +kernel, rfl, by decide +kernel, by decide +kernel⟩
theorem ok_is {f C fW fL fN : Addr} {fd fdL fdN : FuncData} (F : Fun K "_law_is" "_law_is" sIs f fd) (T : WTxt K mg C fW) (B : Blt mg) (N : WIns K C)
    (cW : Cl K mg "_law_whole" fN fdN ["_law_thing"]) (GW : FnOk P w K mg base CX0 1 fN fdN ["_law_thing"] (spWhole K)) (cL : Cl K mg "_law_lowest" fL fdL ["_law_top", "_law_bottom"]) (GL : FnOk P w K mg base CX0 2 fL fdL ["_law_top", "_law_bottom"] spLow) :
    FnOk P w K mg base CX0 3 f fd ["_law_found", "_law_top", "_law_bottom"] (spIs C) := by
  refine F.ok scIs (fun vs H Q E h => ?_) (fun cdv A outer s H vs Q E hr h => ?_)
  · obtain ⟨p, t, b, rfl, _⟩ := h
    rfl
  · obtain ⟨p, t, b, rfl, ht, hb, hz, ⟨dx, hp⟩, k⟩ := h
    have hr1 : Room 1 _ := hr.mono (by decide)
    refine ⟨_, pss_cons (ps_if (PW.pt (pw_or (pt_not (pt_val (pe_callB call_isi (by rfl) B.isi (by decide +kernel) (pa_cons (pv 0) (pa_cons (pe_glob (v := .ref C) rfl T.mgC rfl) pa_nil)))))
          (pw_or (pt_not (pt_val (pe_call GW hr1 (by rfl) cW.g cW.k cW.b .nil pass0 (pa_cons (pe_fld (pv 0) rfl) pa_nil))))
          (pw_or1 (pt_not (pt_val (pe_call GW hr1 (by rfl) cW.g cW.k cW.b .nil pass0 (pa_cons (pe_fld (pv 0) rfl) pa_nil)))))))) (pss_one (ps_ret pe_bl)) pss_nil)
      (pss_one (ps_ret (pe_cmpR (op_eqD hr.units) (pe_tup (pa_cons (pe_fld (pv 0) rfl) (pa_cons (pe_fld (pv 0) rfl) pa_nil))) (pe_call GL hr (by rfl) cL.g cL.k cL.b .nil pass0 (pa_cons (pv 1) (pa_cons (pv 2) pa_nil))) (nomark _)))), ?_⟩
    refine ⟨_, rfl, _, .ref C, _, _, true, rfl, .own _, .base (.ins hp T.cl N.ha N.hn N.htk N.hm), kit_self, true, rfl, iteF ?_⟩
    refine ⟨_, rfl, p, C, dx, _, _, rfl, hp, T.cl, T.nT, wf_top _ _, _, rfl, true, rfl, iteF ?_⟩
    refine ⟨_, rfl, p, C, dx, _, _, rfl, hp, T.cl, T.nB, wf_bottom _ _, _, rfl, true, rfl, iteF ?_⟩
    refine ⟨_, rfl, p, C, dx, _, _, rfl, hp, T.cl, T.nT, wf_top _ _, _, rfl, p, C, dx, _, _, rfl, hp, T.cl, T.nB, wf_bottom _ _, (by show 2 ≤ sizeLine; decide), fun a ha => ?_⟩
    refine ⟨_, rfl, _, rfl, t, b, rfl, ht, hb, hz, fun c hc => ?_⟩
    have nac : a ≠ c := fun z => by
      rw [z] at hc
      rw [upd_same] at hc
      cases hc
    have e1 : Same H (upd (upd H a (.tup [V.int (lowT t b), V.int (lowB t b)])) c (.tup [V.int (lowT t b), V.int (lowB t b)])) := fun q o e => by
      rw [upd_ne (ne_of_none (by rw [upd_ne (ne_of_none e ha)]; exact e) hc), upd_ne (ne_of_none e ha)]
      exact e
    refine ⟨.tuple [.int (lowT t b), .int (lowB t b)], .tuple [.int (lowT t b), .int (lowB t b)], .tup (SqT.of (by rw [upd_ne nac]; exact upd_same)) (.cons (.int _) (.cons (.int _) .nil)), .tup (SqT.of upd_same) (.cons (.int _) (.cons (.int _) .nil)), rfl, rfl, ?_⟩
    rw [SeqAt.eqv_refl]
    · exact k _ e1
    · rfl
end
end K
namespace K
open PySem L2 Rp
/-- all but d is kept, what is free was free -/
structure Fw (d : Addr) (H H' : Hp) : Prop where
  kp : ∀ q o, q ≠ d → H q = some o → H' q = some o
  nn : ∀ p, H' p = none → H p = none
theorem Fw.refl (d : Addr) (H : Hp) : Fw d H H := ⟨fun _ _ _ h => h, fun _ h => h⟩
theorem Fw.trans {d : Addr} {H H1 H2 : Hp} (a : Fw d H H1) (b : Fw d H1 H2) : Fw d H H2 := ⟨fun q o n h => b.kp q o n (a.kp q o n h), fun p h => a.nn p (b.nn p h)⟩
theorem Fw.draw {d : Addr} {H H' : Hp} (h : DeckAt H' d) (e : ∀ b, b ≠ d → H' b = H b) : Fw d H H' := ⟨fun q o n h => (e q n).trans h, fun p hp => by
  by_cases z : p = d
  · obtain ⟨_, _, _, h⟩ := h
    rw [z, h] at hp
    cases hp
  · rw [← e p z]; exact hp⟩
theorem Fw.upd {d p : Addr} {H : Hp} {o : HO} (hp : H p = none) : Fw d H (upd H p o) := ⟨fun q u n h => by rw [upd_ne (ne_of_none h hp)]; exact h, fun q h => by
  by_cases z : q = p
  · rw [z, upd_same] at h; cases h
  · rw [upd_ne z] at h; exact h⟩
theorem Fw.same {d : Addr} {H H' : Hp} (e : Same H H') : (∀ p, H' p = none → H p = none) := fun p h => by
  cases q : H p with
  | none => rfl
  | some o => rw [e p o q] at h; cases h
theorem Fw.of_same {d : Addr} {H H' : Hp} (e : Same H H') : Fw d H H' := ⟨fun q o _ h => e q o h, Fw.same (d := d) e⟩
theorem DeckAt.upd {d p : Addr} {H : Hp} {o : HO} (h : DeckAt H d) (hp : H p = none) : DeckAt (upd H p o) d := by
  obtain ⟨a, b, c, h⟩ := h
  exact ⟨a, b, c, by rw [upd_ne (ne_of_none h hp)]; exact h⟩
theorem DeckAt.same {d : Addr} {H H' : Hp} (h : DeckAt H d) (e : Same H H') : DeckAt H' d := let ⟨a, b, c, h⟩ := h; ⟨a, b, c, e _ _ h⟩
theorem DeckAt.ne {d p : Addr} {H : Hp} (h : DeckAt H d) (hp : H p = none) : p ≠ d := fun z => by
  obtain ⟨_, _, _, h⟩ := h
  rw [z, h] at hp
  cases hp

theorem tYes_of {σ : L2.St} {H : Hp} {Q : Bool → Hp → Prop} (h : Q true H) : tYes σ H Q := h

def spTwo : Sp := fun vs H Q _ => ∃ d : Addr, vs = [.ref d] ∧ DeckAt H d ∧ ∀ (p : Addr) (t b : Int) (H' : Hp), 0 ≤ t → t ≤ 999999999999 → 0 < b → b ≤ 999999999999 → H p = none → H' p = some (.tup [.int t, .int b]) → DeckAt H' d → Fw d H H' → Q (.ref p) H'

section
variable {P : Program} {w : World} {K : PySem.W.Frag} {mg : Str → Option Value} {base : Heap}
theorem scTwo : FnScope ["_law_deck_here", "_law_way", "_law_top", "_law_bottom", "_law_k"] ["_law_deck_here"] (defScope sTwo) := ⟨rfl, rfl, rfl, by decide +kernel, rfl, by decide +kernel, by decide +kernel⟩
theorem ok_two {f fD : Addr} {fd fdD : FuncData} (F : Fun K "_law_two" "_law_two" sTwo f fd) (hmx : mg "max" = none) (hrg : mg "range" = none) (cD : Cl K mg "_law_draw" fD fdD ["_law_deck_here", "_law_most"])
    (GD : FnOk P w K mg base CX0 1 fD fdD ["_law_deck_here", "_law_most"] spDraw) : FnOk P w K mg base CX0 2 f fd ["_law_deck_here"] spTwo := by
  refine F.ok scTwo (fun vs H Q E h => ?_) (fun cdv A outer s H vs Q E hr h => ?_)
  · obtain ⟨d, rfl, _⟩ := h
    rfl
  · obtain ⟨d, rfl, hd, k⟩ := h
    refine ⟨_, pss_cons (ps_set (i := 1) scTwo.nd rfl (Or.inl rfl) (pe_call GD hr (by rfl) cD.g cD.k cD.b .nil pass0 (pa_cons (pv 0) (pa_cons pe_int pa_nil))))
      (pss_cons (ps_if (pt_cmpR op_eq (pv 1) pe_int (nomark _))
        (pss_cons (ps_asg (pe_lc (own := [("_law_k", 4)]) (g := gName 4) (tt := tYes) (by rfl) scTwo.nd (pi_range1 (by rfl) hrg (pa_cons pe_int pa_nil)) (blkOk_by (own := [("_law_k", 4)]) (N := ["_law_deck_here", "_law_way", "_law_top", "_law_bottom", "_law_k"]) (sc := defScope sTwo) (by decide +kernel))
            (fun _ _ _ _ _ => pg_name (i := 4) scTwo.nd rfl (Or.inl rfl)) (fun _ _ _ _ _ => pts_nil)
            (fun _ _ _ _ _ => pe_op op_add (pe_op op_mul (pe_call GD hr (by rfl) cD.g cD.k cD.b .nil pass0 (pa_cons (pv 0) (pa_cons (pe_op op_pow pe_int pe_int) pa_nil))) (pe_op op_pow pe_int pe_int)) (pe_call GD hr (by rfl) cD.g cD.k cD.b .nil pass0 (pa_cons (pv 0) (pa_cons (pe_op op_pow pe_int pe_int) pa_nil)))))
          (pg_unl rfl (pgs_cons (pg_name (i := 2) scTwo.nd rfl (Or.inl rfl)) (pgs_cons (pg_name (i := 3) scTwo.nd rfl (Or.inl rfl)) pgs_nil))))
        (pss_one (ps_ret (pe_tup (pa_cons (pv 2) (pa_cons (pe_callB (call_max2 rfl) (by rfl) hmx (by decide +kernel) (pa_cons pe_int (pa_cons (pv 3) pa_nil))) pa_nil)))))) pss_nil)
      (pss_cons (ps_if (pt_cmpR op_lt (pv 1) pe_int (nomark _)) (pss_one (ps_ret (pe_tup (pa_cons (pe_call GD hr (by rfl) cD.g cD.k cD.b .nil pass0 (pa_cons (pv 0) (pa_cons pe_int pa_nil))) (pa_cons pe_int pa_nil))))) pss_nil)
      (pss_cons (ps_if (pt_cmpR op_lt (pv 1) pe_int (nomark _)) (pss_one (ps_ret (pe_tup (pa_cons (pe_call GD hr (by rfl) cD.g cD.k cD.b .nil pass0 (pa_cons (pv 0) (pa_cons pe_int pa_nil))) (pa_cons (pe_op op_add pe_int (pe_call GD hr (by rfl) cD.g cD.k cD.b .nil pass0 (pa_cons (pv 0) (pa_cons pe_int pa_nil)))) pa_nil))))) pss_nil)
      (pss_cons (ps_if (pt_cmpR op_eq (pv 1) pe_int (nomark _)) (pss_one (ps_ret (pe_ix ix_list (pe_lst (pa_cons (pe_tup (pa_cons pe_int (pa_cons pe_int pa_nil))) (pa_cons (pe_tup (pa_cons pe_int (pa_cons pe_int pa_nil))) (pa_cons (pe_tup (pa_cons pe_int (pa_cons pe_int pa_nil))) (pa_cons (pe_tup (pa_cons pe_int (pa_cons pe_int pa_nil))) pa_nil)))))
          (pe_call GD hr (by rfl) cD.g cD.k cD.b .nil pass0 (pa_cons (pv 0) (pa_cons pe_int pa_nil))) (fun _ _ => rfl)))) pss_nil)
      (pss_one (ps_ret (pe_tup (pa_cons (pe_call GD hr (by rfl) cD.g cD.k cD.b .nil pass0 (pa_cons (pv 0) (pa_cons (pe_op op_add (pe_op op_pow pe_int pe_int) pe_int) pa_nil))) (pa_cons (pe_op op_add pe_int (pe_call GD hr (by rfl) cD.g cD.k cD.b .nil pass0 (pa_cons (pv 0) (pa_cons (pe_op op_pow pe_int pe_int) pa_nil)))) pa_nil))))))))), ?_⟩
    have p6 : CPow (10 : Int) (6 : Int) := (by show (0:Int) ≤ 6 ∧ (6:Int) ≤ 1000000 ∧ (10:Int).natAbs < 2 ^ 64; decide)
    have m6 : (10 : Int) ^ (6 : Int).toNat = 1000000 := by decide
    have m7 : (10 : Int) ^ (6 : Int).toNat + 1 = 1000001 := by decide
    have pair : ∀ (H3 : Hp) (t b : Int), 0 ≤ t → t ≤ 999999999999 → 0 < b → b ≤ 999999999999 → DeckAt H3 d → Fw d H H3 → ∀ p, H3 p = none → Q (.ref p) (upd H3 p (.tup [.int t, .int b])) := fun H3 t b t0 t1 b0 b1 d3 f3 p hp =>
      k p t b _ t0 t1 b0 b1 (f3.nn p hp) upd_same (d3.upd hp) (f3.trans (Fw.upd hp))
    refine ⟨_, rfl, d, 9, rfl, by decide, by decide, hd, fun r r0 r1 H1 d1 e1 => ?_⟩
    have f1 := Fw.draw d1 e1
    refine ⟨_, rfl, rfl, _, rfl, ?_⟩
    refine ite2 (fun _ => ?_) (fun _ => ?_)
    · refine ⟨2, rfl, by decide, by decide, fun D hD => ?_⟩
      refine lc_range (lo := 0) (n := 2) (fun i H2 => ∃ acc : List V, H2 D = some (.lst acc) ∧ acc.length = i ∧ (∀ v ∈ acc, ∃ n : Int, v = .int n ∧ 0 ≤ n ∧ n ≤ 999999999999) ∧ DeckAt H2 d ∧ Fw d H H2) ?_ ?_ ?_
      · exact ⟨[], upd_same, rfl, fun v hv => absurd hv (by simp), d1.upd hD, f1.trans (Fw.upd hD)⟩
      · rintro i H2 hi ⟨acc, hA, hl, hall, d2, f2⟩
        have nD : D ≠ d := d1.ne hD
        refine ⟨rfl, tYes_of ?_⟩
        rw [if_pos rfl]
        refine ⟨_, rfl, _, _, rfl, rfl, p6, d, _, rfl, by rw [m6]; decide, by rw [m6]; decide, d2, fun q q0 q1 H3 d3 e3 => ?_⟩
        refine ⟨_, _, rfl, rfl, p6, _, _, rfl, rfl, .inr (by rw [m6]; decide), ?_⟩
        refine ⟨_, rfl, _, _, rfl, rfl, p6, d, _, rfl, by rw [m6]; decide, by rw [m6]; decide, d3, fun u u0 u1 H4 d4 e4 => ?_⟩
        rw [m6] at q1 u1
        refine ⟨_, _, rfl, rfl, acc, by rw [e4 D nD, e3 D nD]; exact hA, small1000 (by omega), ?_⟩
        have f4 : Fw d H H4 := (f2.trans (Fw.draw d3 e3)).trans (Fw.draw d4 e4)
        have hD0 : H D = none := f1.nn D hD
        refine ⟨acc ++ [_], upd_same, by rw [List.length_append, hl]; rfl, fun v hv => ?_, ?_, ?_⟩
        · rcases List.mem_append.mp hv with z | z
          · exact hall v z
          · have z' := List.mem_singleton.mp z
            refine ⟨_, z', ?_, ?_⟩
            · rw [m6]; omega
            · rw [m6]; omega
        · obtain ⟨a, b, c, h⟩ := d4
          exact ⟨a, b, c, by rw [upd_ne (Ne.symm nD)]; exact h⟩
        · refine ⟨fun q o n h => ?_, fun q h => ?_⟩
          · rw [upd_ne (ne_of_none h hD0)]
            exact f4.kp q o n h
          · by_cases z : q = D
            · rw [z, upd_same] at h; cases h
            · rw [upd_ne z] at h
              exact f4.nn q h
      · rintro H2 ⟨acc, hA, hl, hall, d2, f2⟩
        obtain ⟨v1, v2, rfl⟩ : ∃ v1 v2, acc = [v1, v2] := by
          match acc, hl with
          | [v1, v2], _ => exact ⟨v1, v2, rfl⟩
        obtain ⟨t, rfl, t0, t1⟩ := hall v1 (by simp)
        obtain ⟨b, rfl, b0, b1⟩ := hall v2 (by simp)
        refine ⟨D, _, rfl, SqL.of hA, rfl, _, _, rfl, _, _, rfl, rfl, ?_⟩
        refine ⟨_, rfl, _, rfl, 1, b, rfl, (by show 2 ≤ sizeLine; decide), fun p hp => ?_⟩
        refine pair H2 t _ t0 t1 ?_ ?_ d2 f2 p hp
        · split <;> omega
        · split <;> omega
    · refine ⟨_, rfl, _, _, rfl, rfl, _, rfl, ?_⟩
      refine ite2 (fun _ => ?_) (fun _ => ?_)
      · refine ⟨_, rfl, d, 30, rfl, by decide, by decide, d1, fun q q0 q1 H3 d3 e3 => ⟨(by show 2 ≤ sizeLine; decide), fun p hp => ?_⟩⟩
        exact pair H3 q 1 q0 (by omega) (by decide) (by decide) d3 (f1.trans (Fw.draw d3 e3)) p hp
      · refine ⟨_, rfl, _, _, rfl, rfl, _, rfl, ?_⟩
        refine ite2 (fun _ => ?_) (fun _ => ?_)
        · refine ⟨_, rfl, d, 60, rfl, by decide, by decide, d1, fun q q0 q1 H3 d3 e3 => ?_⟩
          refine ⟨_, rfl, d, 12, rfl, by decide, by decide, d3, fun u u0 u1 H4 d4 e4 => ⟨_, _, rfl, rfl, (by show 2 ≤ sizeLine; decide), fun p hp => ?_⟩⟩
          exact pair H4 q (1 + u) q0 (by omega) (by omega) (by omega) d4 ((f1.trans (Fw.draw d3 e3)).trans (Fw.draw d4 e4)) p hp
        · refine ⟨_, rfl, rfl, _, rfl, ?_⟩
          refine ite2 (fun _ => ?_) (fun _ => ?_)
          · refine ⟨(by show 2 ≤ sizeLine; decide), fun pa ha => ⟨(by show 2 ≤ sizeLine; decide), fun pb hb => ⟨(by show 2 ≤ sizeLine; decide), fun pc hc => ⟨(by show 2 ≤ sizeLine; decide), fun pe he => ⟨(by show 4 ≤ sizeLine; decide), fun l hl => ?_⟩⟩⟩⟩⟩
            have da := d1.upd (o := .tup [.int 0, .int 1]) ha
            have db := da.upd (o := .tup [.int 0, .int 7]) hb
            have dc := db.upd (o := .tup [.int 1, .int 1]) hc
            have de := dc.upd (o := .tup [.int 1, .int 2]) he
            have dl := de.upd (o := .lst [.ref pa, .ref pb, .ref pc, .ref pe]) hl
            have fa : Fw d _ _ := Fw.upd (o := .tup [.int 0, .int 1]) ha
            have fb : Fw d _ _ := Fw.upd (o := .tup [.int 0, .int 7]) hb
            have fc : Fw d _ _ := Fw.upd (o := .tup [.int 1, .int 1]) hc
            have fe : Fw d _ _ := Fw.upd (o := .tup [.int 1, .int 2]) he
            have fl : Fw d _ _ := Fw.upd (o := .lst [.ref pa, .ref pb, .ref pc, .ref pe]) hl
            refine ⟨_, rfl, d, 4, rfl, by decide, by decide, dl, fun q q0 q1 H3 d3 e3 => ?_⟩
            have f3 := Fw.draw d3 e3
            have all := f1.trans ((((((fa.trans fb).trans fc).trans fe).trans fl)).trans f3)
            have h3 : H3 l = some (.lst [.ref pa, .ref pb, .ref pc, .ref pe]) := (e3 l (de.ne hl)).trans upd_same
            have h4 : q = 0 ∨ q = 1 ∨ q = 2 ∨ q = 3 := by omega
            rcases h4 with rfl | rfl | rfl | rfl
            · exact ⟨l, _, _, .ref pa, rfl, rfl, SqL.of h3, rfl, k pa 0 1 H3 (by decide) (by decide) (by decide) (by decide) (f1.nn _ ha) (((((fb.trans fc).trans fe).trans fl).trans f3).kp _ _ (d1.ne ha) upd_same) d3 all⟩
            · exact ⟨l, _, _, .ref pb, rfl, rfl, SqL.of h3, rfl, k pb 0 7 H3 (by decide) (by decide) (by decide) (by decide) ((f1.trans fa).nn _ hb) ((((fc.trans fe).trans fl).trans f3).kp _ _ (da.ne hb) upd_same) d3 all⟩
            · exact ⟨l, _, _, .ref pc, rfl, rfl, SqL.of h3, rfl, k pc 1 1 H3 (by decide) (by decide) (by decide) (by decide) (((f1.trans fa).trans fb).nn _ hc) (((fe.trans fl).trans f3).kp _ _ (db.ne hc) upd_same) d3 all⟩
            · exact ⟨l, _, _, .ref pe, rfl, rfl, SqL.of h3, rfl, k pe 1 2 H3 (by decide) (by decide) (by decide) (by decide) ((((f1.trans fa).trans fb).trans fc).nn _ he) ((fl.trans f3).kp _ _ (dc.ne he) upd_same) d3 all⟩
          · refine ⟨_, rfl, _, _, rfl, rfl, p6, _, _, rfl, rfl, d, _, rfl, by rw [m6]; decide, by rw [m6]; decide, d1, fun q q0 q1 H3 d3 e3 => ?_⟩
            refine ⟨_, rfl, _, _, rfl, rfl, p6, d, _, rfl, by rw [m6]; decide, by rw [m6]; decide, d3, fun u u0 u1 H4 d4 e4 => ⟨_, _, rfl, rfl, (by show 2 ≤ sizeLine; decide), fun p hp => ?_⟩⟩
            rw [m6] at q1 u1
            exact pair H4 q (1 + u) q0 (by omega) (by omega) (by omega) d4 ((f1.trans (Fw.draw d3 e3)).trans (Fw.draw d4 e4)) p hp
end
end K
namespace K
open PySem L2 Rp
/-- a number's text -/
def nT (n : Int) : Str := Str.ofString (toString n)
theorem nT_len {n : Int} (h : Sz 1600 n) : (nT n).length ≤ 1601 := by
  unfold nT
  rw [ofString_length]
  exact int_text_length_le (by decide) (h.log (by decide))
theorem append_len (x y : Str) : (x ++ y).length = x.length + y.length := strLen_append x y
theorem join_one (x : Str) : Txt.join "" [x] = x := rfl
/-- a Weight's text by repr -/
def wT (t b : Int) : Str := if b = 1 then Str.empty ++ "Weight(" ++ nT t ++ ")" else Str.empty ++ "Weight(" ++ nT t ++ ", " ++ nT b ++ ")"
theorem wT_len {t b : Int} (ht : Sz 1600 t) (hb : Sz 1600 b) : (wT t b).length ≤ 4000 := by
  have h1 := nT_len ht
  have h2 := nT_len hb
  have e1 : ("Weight(" : Str).length = 7 := by decide +kernel
  have e2 : (")" : Str).length = 1 := by decide +kernel
  have e3 : (", " : Str).length = 2 := by decide +kernel
  have e4 : (Str.empty : Str).length = 0 := by decide +kernel
  unfold wT
  split <;> simp only [append_len] <;> omega

def spShow : Sp := fun vs H Q _ => ∃ n : Int, vs = [.int n] ∧ 0 ≤ n ∧ Sz 1600 n ∧ ∀ H', Same H H' → Q (.str (nT n)) H'
def spRepr (C : Addr) : Sp := fun vs H Q _ => ∃ (p : Addr) (t b : Int), vs = [.ref p] ∧ WAt C H p t b ∧ Wn 1600 t b ∧ ∀ H', Same H H' → Q (.str (wT t b)) H'

section
variable {P : Program} {w : World} {K : PySem.W.Frag} {mg : Str → Option Value} {base : Heap}
theorem scShow : FnScope ["number", "blocks", "low"] ["number"] (defScope sShow) := ⟨rfl, rfl, rfl, by decide +kernel, rfl, by decide +kernel, by decide +kernel⟩
theorem ok_show {f : Addr} {fd : FuncData} {z : Int} {zt : Tok} (F : Fun K "show_whole" "show_whole" sShow f fd) (hst : mg "str" = none) (hrv : mg "reversed" = none) (hB : mg "BLOCK" = some (.int z zt)) (hz : (2 : Int) ^ 1600 ≤ z) :
    FnOk P w K mg base CX0 1 f fd ["number"] spShow := by
  refine F.ok scShow (fun vs H Q E h => ?_) (fun cdv A outer s H vs Q E hr h => ?_)
  · obtain ⟨n, rfl, _⟩ := h
    rfl
  · obtain ⟨n, rfl, n0, nz, k⟩ := h
    refine ⟨_, pss_cons (ps_set (i := 1) scShow.nd rfl (Or.inl rfl) (pe_lst pa_nil))
      (pss_cons (ps_while PassesOwn.never (pt_cmpR op_ge (pv 0) (pe_glob (v := .int z) rfl hB ⟨_, rfl⟩) (nomark _)) pss_never)
      (pss_cons (ps_expr (pe_bm PySem.F.plainAttrs_list PySem.F.slot_list_append PySem.F.type_list_append mt_append (pv 1) (pa_cons (pe_callTy call_str_int (by rfl) hst (by decide +kernel) (pa_cons (pv 0) pa_nil)) pa_nil)))
      (pss_one (ps_ret (pe_joinRev rfl (by rfl) hrv pe_str (pv 1)))))), ?_⟩
    refine ⟨Nat.zero_le _, fun l hl => ?_⟩
    have hlt : ¬ z ≤ n := by
      have h1 : n.natAbs < 2 ^ 1600 := nz
      have h2 : (n.natAbs : Int) = n := by omega
      have h3 : ((2 ^ 1600 : Nat) : Int) = (2 : Int) ^ 1600 := by norm_cast
      have h4 : (n.natAbs : Int) < ((2 ^ 1600 : Nat) : Int) := Int.ofNat_lt.mpr h1
      rw [h2, h3] at h4
      exact Int.not_le.mpr (Int.lt_of_lt_of_le h4 hz)
    refine while_by (fun σ H' => H' = upd H l (.lst []) ∧ σ = [some (.int n), some (.ref l), none]) (fun _ _ => 0) ⟨rfl, rfl⟩ ?_ ?_
    · rintro σ H' ⟨rfl, rfl⟩
      refine ⟨_, rfl, _, _, rfl, rfl, _, rfl, ?_⟩
      rw [decide_eq_false hlt]
      refine iteF ?_
      refine ⟨_, rfl, .inl ⟨rfl, _, SqL.of upd_same⟩, _, rfl, _, rfl, Nat.lt_trans (nz.log (by decide)) (by decide), l, _, _, rfl, rfl, upd_same, by decide, ?_⟩
      have ln := nT_len nz
      refine ⟨"", rfl, _, rfl, l, [nT n], rfl, SqL.of upd_same, ?_, ?_⟩
      · simp only [List.map_cons, List.map_nil, List.sum_cons, List.sum_nil, List.length_cons, List.length_nil]
        have e0 : ("" : Str).length = 0 := by decide +kernel
        rw [e0]
        omega
      · refine k _ fun b o e => ?_
        rw [upd_ne (ne_of_none e hl), upd_ne (ne_of_none e hl)]
        exact e
    · rintro σ H' Q1 Q2 hQ ⟨v, e, i, j, h1, h2, c, h3, q⟩
      exact ⟨v, e, i, j, h1, h2, c, h3, hQ _ _ q⟩
end
end K
namespace K
open PySem L2 Rp
theorem low_mul {t b : Int} (hb : 0 < b) : lowT t b * ((Int.gcd t b : Nat) : Int) = t ∧ lowB t b * ((Int.gcd t b : Nat) : Int) = b :=
  ⟨Int.ediv_mul_cancel (Int.gcd_dvd_left t b), Int.ediv_mul_cancel (Int.gcd_dvd_right t b)⟩
theorem low_scale {g x y : Int} (hg : 0 < g) (hy : 0 < y) : lowT (g * x) (g * y) = lowT x y ∧ lowB (g * x) (g * y) = lowB x y := by
  have e : ((Int.gcd (g * x) (g * y) : Nat) : Int) = g * ((Int.gcd x y : Nat) : Int) := by
    rw [Int.gcd_mul_left, Int.natCast_mul]
    congr 1
    omega
  unfold lowT lowB
  rw [e]
  exact ⟨Int.mul_ediv_mul_of_pos _ _ hg, Int.mul_ediv_mul_of_pos _ _ hg⟩
theorem low_low {t b : Int} (hb : 0 < b) : lowT (lowT t b) (lowB t b) = lowT t b ∧ lowB (lowT t b) (lowB t b) = lowB t b := by
  have hg := gcd_pos (t := t) hb
  obtain ⟨e1, e2⟩ := low_mul (t := t) hb
  have hl : 0 < lowB t b := Int.ediv_pos_of_pos_of_dvd hb (Int.le_of_lt hg) (Int.gcd_dvd_right _ _)
  obtain ⟨r1, r2⟩ := low_scale (x := lowT t b) (y := lowB t b) hg hl
  rw [← r1, ← r2, Int.mul_comm _ (lowT t b), Int.mul_comm _ (lowB t b), e1, e2]
  exact ⟨rfl, rfl⟩
theorem same_upd {H : Hp} {p : Addr} {o : HO} (hp : H p = none) : Same H (upd H p o) := fun y u e => by
  rw [upd_ne (ne_of_none e hp)]
  exact e
theorem emp (x : Str) : Str.empty ++ x = x := TL.ext_tl (by rw [TL.tl_append]; rfl)
/-- a Weight's text -/
def wS (t b : Int) : Str := if b = 1 then nT t else nT t ++ "/" ++ nT b
theorem wS_len {t b : Int} (ht : Sz 1600 t) (hb : Sz 1600 b) : (wS t b).length ≤ 4000 := by
  have h1 := nT_len ht
  have h2 := nT_len hb
  have e3 : ("/" : Str).length = 1 := by decide +kernel
  unfold wS
  split
  · omega
  · simp only [append_len, e3]
    omega
/-! ### figures of a number -/
theorem nT_tl {n : Int} (h : 0 ≤ n) : TL.tl (nT n) = TL.numL n.toNat := by
  obtain ⟨k, rfl⟩ := Int.eq_ofNat_of_zero_le h
  exact TL.tl_num k
theorem nT_int {n : Int} (h : 0 ≤ n) (hl : (nT n).length ≤ 640) : intText? (nT n) = some n := by
  obtain ⟨k, rfl⟩ := Int.eq_ofNat_of_zero_le h
  have e : (nT (k : Int)).length = (TL.numL k).length := by
    rw [TL.len_tl]
    exact congrArg List.length (TL.tl_num k)
  exact TL.int_num (by omega)
theorem nT_long {n : Int} {k : Nat} (h : 0 ≤ n) : (nT n).length ≤ k ↔ n < (10 : Int) ^ k ∧ 0 < k := by
  obtain ⟨m, rfl⟩ := Int.eq_ofNat_of_zero_le h
  have e : (nT (m : Int)).length = (TL.numL m).length := by
    rw [TL.len_tl]
    exact congrArg List.length (TL.tl_num m)
  have ep : ((10 : Int) ^ k) = ((10 ^ k : Nat) : Int) := by simp
  rw [e, ep]
  constructor
  · intro h1
    refine ⟨Int.ofNat_lt.mpr (numL_small k m h1), ?_⟩
    rcases Nat.eq_zero_or_pos k with z | z
    · subst z
      exact absurd (List.length_eq_zero_iff.mp (Nat.le_zero.mp h1)) (TL.numL_ne m)
    · exact z
  · rintro ⟨h1, h2⟩
    exact TL.numL_len h2 (Int.ofNat_lt.mp h1)
theorem nT_ne {n : Int} (h : 0 ≤ n) : 1 ≤ (nT n).length := by
  rw [TL.len_tl, nT_tl h]
  exact List.length_pos_iff.mpr (TL.numL_ne _)
theorem nT_zero : nT 0 = "0" := by decide +kernel
theorem nT_one : nT 1 = "1" := by decide +kernel
theorem nT_inj {m n : Int} (hm : 0 ≤ m) (hn : 0 ≤ n) (h : nT m = nT n) : m = n := by
  have e := congrArg TL.tl h
  rw [nT_tl hm, nT_tl hn] at e
  have := TL.numL_inj e
  omega
abbrev TENS : Str := "0123456789"
theorem tens_mem {c : Nat} (h1 : 48 ≤ c) (h2 : c ≤ 57) : c ∈ (TENS : Str).cps.toList := by
  have e : (TENS : Str).cps.toList = [48, 49, 50, 51, 52, 53, 54, 55, 56, 57] := by decide +kernel
  rw [e]
  simp only [List.mem_cons, List.not_mem_nil, or_false]
  omega
theorem nT_sign {n : Int} (h : 0 ≤ n) {i c : Nat} (hc : (nT n).cps[i]? = some c) : c ∈ (TENS : Str).cps.toList := by
  have hm : c ∈ TL.tl (nT n) := by
    have : (nT n).cps.toList[i]? = some c := by rw [Array.getElem?_toList]; exact hc
    exact List.mem_of_getElem? this
  rw [nT_tl h] at hm
  obtain ⟨h1, h2⟩ := TL.numL_digits _ c hm
  exact tens_mem h1 h2
theorem nT_stroke {n : Int} (h : 0 ≤ n) : 47 ∉ TL.tl (nT n) := by
  rw [nT_tl h]
  exact TL.numL_free (.inl (by decide))
theorem stroke_tl : TL.tl ("/" : Str) = [47] := by decide +kernel

def spStr (C : Addr) : Sp := fun vs H Q _ => ∃ (p : Addr) (t b : Int), vs = [.ref p] ∧ WAt C H p t b ∧ Wn 1600 t b ∧ ∀ H', Same H H' → Q (.str (wS t b)) H'
def spEqW (C : Addr) : Sp := fun vs H Q _ => ∃ (p q : Addr) (t b u d : Int), vs = [.ref p, .ref q] ∧ WAt C H p t b ∧ WAt C H q u d ∧ Q (.bl (decide (t = u ∧ b = d))) H
def spMade : Sp := fun vs H Q _ => ∃ n : Int, vs = [.str (nT n), .str TENS] ∧ 0 ≤ n ∧ (nT n).length ≤ 640 ∧ ∀ H', Same H H' → Q (.bl true) H'
def spNumeral : Sp := fun vs H Q _ => ∃ n : Int, vs = [.str (nT n), .str TENS, .int 12] ∧ 0 ≤ n ∧ Sz 1600 n ∧ ∀ H', Same H H' → Q (.bl (decide (n < 1000000000000))) H'
def spNumber : Sp := fun vs H Q _ => ∃ n : Int, vs = [.str (nT n)] ∧ 0 ≤ n ∧ Sz 1600 n ∧ ∀ H', Same H H' → Q (.bl (decide (n < 1000000000000))) H'
section
variable {P : Program} {w : World} {K : PySem.W.Frag} {mg : Str → Option Value} {base : Heap}
theorem scStr : FnScope ["self"] ["self"] (defScope sStr) := ⟨rfl, rfl, rfl, by decide +kernel, rfl, by decide +kernel, by decide +kernel⟩
theorem ok_str {f C fW fS : Addr} {fd fdS : FuncData} (F : Fun K "__str__" "Weight.__str__" sStr f fd) (T : WTxt K mg C fW) (cS : Cl K mg "show_whole" fS fdS ["number"]) (GS : FnOk P w K mg base CX0 1 fS fdS ["number"] spShow) :
    FnOk P w K mg base CX0 2 f fd ["self"] (spStr C) := by
  refine F.ok scStr (fun vs H Q E h => ?_) (fun cdv A outer s H vs Q E hr h => ?_)
  · obtain ⟨p, t, b, rfl, _⟩ := h
    rfl
  · obtain ⟨p, t, b, rfl, ⟨dx, hp⟩, n1, k⟩ := h
    refine ⟨_, pss_cons (ps_if (pt_cmpR op_eq (pe_fld (pv 0) rfl) pe_int (nomark _)) (pss_one (ps_ret (pe_joined1 (pe_fmt (pe_call GS hr (by rfl) cS.g cS.k cS.b .nil pass0 (pa_cons (pe_fld (pv 0) rfl) pa_nil)))))) pss_nil)
      (pss_one (ps_ret (pe_joined (.cons (pe_fmt (pe_call GS hr (by rfl) cS.g cS.k cS.b .nil pass0 (pa_cons (pe_fld (pv 0) rfl) pa_nil))) (.cons pe_str (.cons (pe_fmt (pe_call GS hr (by rfl) cS.g cS.k cS.b .nil pass0 (pa_cons (pe_fld (pv 0) rfl) pa_nil))) .nil)))))), ?_⟩
    have l1 := nT_len n1.tz
    have l2 := nT_len n1.bz
    have e3 : ("/" : Str).length = 1 := by decide +kernel
    have e4 : (Str.empty : Str).length = 0 := by decide +kernel
    have big : ∀ n, n ≤ 10000 → n ≤ sizeLine := fun n h => Nat.le_trans h (by decide)
    refine ⟨_, rfl, p, C, dx, _, _, rfl, hp, T.cl, T.nB, wf_bottom _ _, rfl, _, rfl, ?_⟩
    refine ite2 (fun h => ?_) (fun h => ?_)
    · have hb : b = 1 := by
        have := of_decide_eq_true h
        injection this
      refine ⟨_, rfl, p, C, dx, _, _, rfl, hp, T.cl, T.nT, wf_top _ _, t, rfl, n1.t0, n1.tz, fun H1 s1 => .inl ⟨nT t, rfl, big _ (by omega), ?_⟩⟩
      have ew : wS t b = nT t := if_pos hb
      have q := k H1 s1
      rw [ew] at q
      exact q
    · have hb : ¬ b = 1 := fun z => h (decide_eq_true (by rw [z]))
      refine ⟨_, rfl, p, C, dx, _, _, rfl, hp, T.cl, T.nT, wf_top _ _, t, rfl, n1.t0, n1.tz, fun H1 s1 => .inl ⟨_, rfl, big _ (by omega), nT t, rfl, big _ (by simp only [append_len]; omega), "/", rfl, big _ (by simp only [append_len]; omega), ?_⟩⟩
      refine ⟨_, rfl, p, C, dx, _, _, rfl, s1 _ _ hp, T.cl, T.nB, wf_bottom _ _, b, rfl, Int.le_of_lt n1.b0, n1.bz, fun H2 s2 => .inl ⟨_, rfl, big _ (by omega), nT b, rfl, big _ (by simp only [append_len]; omega), ?_⟩⟩
      have ew : wS t b = Str.empty ++ nT t ++ "/" ++ nT b := by rw [emp]; exact if_neg hb
      have q := k H2 (s1.trans s2)
      rw [ew] at q
      exact q
theorem scEq : FnScope ["self", "other"] ["self", "other"] (defScope sEq) := ⟨rfl, rfl, rfl, by decide +kernel, rfl, by decide +kernel, by decide +kernel⟩
theorem ok_eq {f C fW : Addr} {fd : FuncData} (F : Fun K "__eq__" "Weight.__eq__" sEq f fd) (T : WTxt K mg C fW) (B : Blt mg) (N : WIns K C) : FnOk P w K mg base CX0 1 f fd ["self", "other"] (spEqW C) := by
  refine F.ok scEq (fun vs H Q E h => ?_) (fun cdv A outer s H vs Q E hr h => ?_)
  · obtain ⟨p, q, t, b, u, d, rfl, _⟩ := h
    rfl
  · obtain ⟨p, q, t, b, u, d, rfl, ⟨dx, hp⟩, ⟨dy, hq⟩, k⟩ := h
    refine ⟨_, pss_one (ps_ret (pe_and (pe_callB call_isi (by rfl) B.isi (by decide +kernel) (pa_cons (pv 1) (pa_cons (pe_glob (v := .ref C) rfl T.mgC rfl) pa_nil)))
      (pe_and (pe_cmpR op_eq (pe_fld (pv 0) rfl) (pe_fld (pv 1) rfl) (nomark _)) (pe_one (pe_cmpR op_eq (pe_fld (pv 0) rfl) (pe_fld (pv 1) rfl) (nomark _)))))), ?_⟩
    refine ⟨_, rfl, _, .ref C, _, _, true, rfl, .own _, .base (.ins hq T.cl N.ha N.hn N.htk N.hm), kit_self, true, rfl, iteT ?_⟩
    refine ⟨_, rfl, p, C, dx, _, _, rfl, hp, T.cl, T.nT, wf_top _ _, _, rfl, q, C, dy, _, _, rfl, hq, T.cl, T.nT, wf_top _ _, rfl, _, rfl, ?_⟩
    refine ite2 (fun h1 => ?_) (fun h1 => ?_)
    · have e1 : t = u := by injection of_decide_eq_true h1
      refine ⟨_, rfl, p, C, dx, _, _, rfl, hp, T.cl, T.nB, wf_bottom _ _, _, rfl, q, C, dy, _, _, rfl, hq, T.cl, T.nB, wf_bottom _ _, rfl, ?_⟩
      have e2 : decide (V.int b = V.int d) = decide (t = u ∧ b = d) := decide_eq_decide.mpr ⟨fun z => ⟨e1, by injection z⟩, fun z => by rw [z.2]⟩
      show Q (.bl (decide (V.int b = V.int d))) H
      rw [e2]
      exact k
    · have e2 : decide (t = u ∧ b = d) = false := decide_eq_false fun z => h1 (decide_eq_true (by rw [z.1]))
      rw [e2] at k
      exact k
theorem scMade : FnScope ["text", "signs", "sign"] ["text", "signs"] (defScope sMade) := ⟨rfl, rfl, rfl, by decide +kernel, rfl, by decide +kernel, by decide +kernel⟩
theorem ok_made {f : Addr} {fd : FuncData} (F : Fun K "made_of" "made_of" sMade f fd) (hal : mg "all" = none) : FnOk P w K mg base CX0 1 f fd ["text", "signs"] spMade := by
  refine F.ok scMade (fun vs H Q E h => ?_) (fun cdv A outer s H vs Q E hr h => ?_)
  · obtain ⟨n, rfl, _⟩ := h
    rfl
  · obtain ⟨n, rfl, n0, nl, k⟩ := h
    refine ⟨_, pss_one (ps_ret (pe_callB (cr_all rfl) (by rfl) hal (by decide +kernel) (pa_cons (pe_lc (own := [("sign", 2)]) (g := gName 2) (tt := tYes) (by rfl) scMade.nd (pi_str (pv 0)) (blkOk_by (own := [("sign", 2)]) (N := ["text", "signs", "sign"]) (sc := defScope sMade) (by decide +kernel))
      (fun _ _ _ _ _ => pg_name (i := 2) scMade.nd rfl (Or.inl rfl)) (fun _ _ _ _ _ => pts_nil) (fun _ _ _ _ _ => pe_cmpR op_in_sign (pv 2) (pv 1) (by with_unfolding_all rfl))) pa_nil))), ?_⟩
    refine ⟨_, rfl, nT n, rfl, fun D hD => ?_⟩
    refine lc_str (fun i H2 => Same H H2 ∧ H2 D = some (.lst ((List.replicate i true).map V.bl))) ?_ ?_ ?_
    · exact ⟨same_upd hD, upd_same⟩
    · rintro i c H2 hc ⟨s2, hA⟩
      refine ⟨rfl, tYes_of ?_⟩
      rw [if_pos rfl]
      refine ⟨_, rfl, _, rfl, c, TENS, rfl, rfl, _, hA, ?_, ?_, ?_⟩
      · have hi : i < (nT n).cps.size := (Array.getElem?_eq_some_iff.mp hc).1
        rw [List.length_map, List.length_replicate]
        have : (nT n).cps.size = (nT n).length := rfl
        exact Nat.lt_of_lt_of_le (show i < 640 by omega) (by decide)
      · exact fun y o e => by
          rw [upd_ne (ne_of_none e hD)]
          exact s2 y o e
      · rw [upd_same, decide_eq_true (nT_sign n0 hc), List.replicate_succ', List.map_append]
        rfl
    · rintro H2 ⟨s2, hA⟩
      refine ⟨D, List.replicate (nT n).cps.size true, rfl, SqL.of hA, ?_⟩
      rw [List.all_eq_true.mpr (fun b hb => by rw [List.eq_of_mem_replicate hb]; rfl)]
      exact k H2 s2
theorem scNumeral : FnScope ["text", "signs", "most"] ["text", "signs", "most"] (defScope sNumeral) := ⟨rfl, rfl, rfl, by decide +kernel, rfl, by decide +kernel, by decide +kernel⟩
theorem ok_numeral {f fM : Addr} {fd fdM : FuncData} (F : Fun K "is_numeral" "is_numeral" sNumeral f fd) (hln : mg "len" = none) (cM : Cl K mg "made_of" fM fdM ["text", "signs"]) (GM : FnOk P w K mg base CX0 1 fM fdM ["text", "signs"] spMade) :
    FnOk P w K mg base CX0 2 f fd ["text", "signs", "most"] spNumeral := by
  refine F.ok scNumeral (fun vs H Q E h => ?_) (fun cdv A outer s H vs Q E hr h => ?_)
  · obtain ⟨n, rfl, _⟩ := h
    rfl
  · obtain ⟨n, rfl, n0, nz, k⟩ := h
    refine ⟨_, pss_cons (ps_if (pt_not (pt_chain op_le op_le pe_int (pe_callB call_len_str (by rfl) hln (by decide +kernel) (pa_cons (pv 0) pa_nil)) (pv 2))) (pss_one (ps_ret pe_bl)) pss_nil)
      (pss_cons (ps_if (PW.pt (pw_and (pt_cmpR op_eq (pe_ix ix_str (pv 0) pe_int (fun _ _ => rfl)) pe_str (nomark _)) (pw_and1 (pt_cmpR op_ne (pv 0) pe_str (nomark _))))) (pss_one (ps_ret pe_bl)) pss_nil)
      (pss_one (ps_ret (pe_call GM hr (by rfl) cM.g cM.k cM.b .nil pass0 (pa_cons (pv 0) (pa_cons (pv 1) pa_nil)))))), ?_⟩
    have l1 := nT_len nz
    have l0 := nT_ne n0
    have hlong := nT_long (n := n) (k := 12) n0
    have e12 : (10 : Int) ^ 12 = 1000000000000 := by decide
    rw [e12] at hlong
    refine ⟨_, rfl, nT n, rfl, Nat.le_trans l1 (by decide), _, _, rfl, rfl, _, rfl, ?_⟩
    rw [decide_eq_true (show (1 : Int) ≤ ((nT n).length : Nat) by omega)]
    refine iteT ?_
    refine ⟨_, rfl, _, _, rfl, rfl, _, rfl, ?_⟩
    by_cases hn : n < 1000000000000
    · have h12 := hlong.mpr ⟨hn, by decide⟩
      rw [decide_eq_true (show ((nT n).length : Int) ≤ 12 by omega)]
      refine iteF ?_
      have hlz : (nT n).length ≤ sizeLine := Nat.le_trans l1 (by decide)
      obtain ⟨c, r, hcr⟩ : ∃ c r, (nT n).cps.toList = c :: r := by
        cases e : (nT n).cps.toList with
        | nil =>
          rw [TL.len_tl] at l0
          have : TL.tl (nT n) = [] := e
          rw [this] at l0
          exact absurd l0 (by decide)
        | cons c r => exact ⟨c, r, rfl⟩
      refine ⟨_, rfl, nT n, 0, c, rfl, rfl, hlz, atI_nat (j := 0) (by rw [hcr]; rfl), rfl, _, rfl, ?_⟩
      have fin : Q (.bl true) = Q (.bl (decide (n < 1000000000000))) := by rw [decide_eq_true hn]
      refine ite2 (fun h1 => ?_) (fun h1 => ?_)
      · -- the first figure is a nought: the number is 0
        have hz : n = 0 := by
          refine Classical.byContradiction fun hne => ?_
          obtain ⟨c', r', e', hc'⟩ := numL_head n.toNat (by omega)
          have e2 : TL.tl (nT n) = c :: r := hcr
          rw [nT_tl n0, e'] at e2
          have ec : c' = c := (List.cons.inj e2).1
          have h2 := of_decide_eq_true h1
          have h3 : (⟨#[c]⟩ : Str) = "0" := by injection h2
          have h4 : c = 48 := by
            have := congrArg TL.tl h3
            have e0 : TL.tl ("0" : Str) = [48] := by decide +kernel
            rw [e0] at this
            exact (List.cons.inj (show [c] = [48] from this)).1
          exact hc' (by rw [ec, h4])
        refine ⟨_, rfl, rfl, _, rfl, ?_⟩
        have e0 : decide (V.str (nT n) = V.str "0") = true := decide_eq_true (by rw [hz, nT_zero])
        rw [e0]
        refine iteF ?_
        refine ⟨_, rfl, _, rfl, n, rfl, n0, by omega, fun H' e => ?_⟩
        show Q (.bl true) H'
        rw [fin]
        exact k H' e
      · refine ⟨_, rfl, _, rfl, n, rfl, n0, by omega, fun H' e => ?_⟩
        show Q (.bl true) H'
        rw [fin]
        exact k H' e
    · have h12 : ¬ (nT n).length ≤ 12 := fun z => hn (hlong.mp z).1
      rw [decide_eq_false (show ¬ ((nT n).length : Int) ≤ 12 by omega)]
      refine iteT ?_
      have q := k H (Same.refl H)
      rw [decide_eq_false hn] at q
      exact q
theorem scNumber : FnScope ["text"] ["text"] (defScope sNumber) := ⟨rfl, rfl, rfl, by decide +kernel, rfl, by decide +kernel, by decide +kernel⟩
theorem ok_number {f fN : Addr} {fd fdN : FuncData} {zT : Str} {tT tM : Tok} {zM : Int} (F : Fun K "is_number" "is_number" sNumber f fd) (cN : Cl K mg "is_numeral" fN fdN ["text", "signs", "most"]) (GN : FnOk P w K mg base CX0 2 fN fdN ["text", "signs", "most"] spNumeral)
    (hT : mg "TENS" = some (.str zT tT)) (eT : zT = TENS) (hM : mg "MOST_FIGURES" = some (.int zM tM)) (eM : zM = 12) : FnOk P w K mg base CX0 3 f fd ["text"] spNumber := by
  subst eT eM
  refine F.ok scNumber (fun vs H Q E h => ?_) (fun cdv A outer s H vs Q E hr h => ?_)
  · obtain ⟨n, rfl, _⟩ := h
    rfl
  · obtain ⟨n, rfl, n0, nz, k⟩ := h
    refine ⟨_, pss_one (ps_ret (pe_call GN hr (by rfl) cN.g cN.k cN.b .nil pass0 (pa_cons (pv 0) (pa_cons (pe_glob (v := .str TENS) rfl hT ⟨_, rfl⟩) (pa_cons (pe_glob (v := .int 12) rfl hM ⟨_, rfl⟩) pa_nil))))), ?_⟩
    exact ⟨_, rfl, n, rfl, n0, nz, k⟩
end
end K
namespace K
open PySem L2 Rp
/-- the error NoText, at S; its __init__ at fU -/
structure STxt (K : PySem.W.Frag) (mg : Str → Option Value) (S fU : Addr) : Prop where
  g : mg "NoText" = some (.ref S)
  x : OexC K S
  i : PySem.W.findIn K (.ref S) "__init__" = some (some (.ref fU))
  t : PySem.W.typeIn K (.ref fU) = some (.type "function")
  n : PySem.W.findIn K (.ref S) "row" = some none
def spTxI (S : Addr) : Sp := fun vs H Q _ => ∃ (a : Addr) (v : V), vs = [.ref a, v] ∧ H a = some (exo a S none) ∧ ∀ dx, H dx = none → dx ≠ a → Q .non (upd (upd H dx (exd dx [(("row" : Str), v)])) a (exo a S (some dx)))
/-- a Weight's numbers of at most twelve figures -/
def Few (t b : Int) : Prop := t < 1000000000000 ∧ b < 1000000000000
def spRead (C S : Addr) : Sp := fun vs H Q E => ∃ t b : Int, vs = [.str (wS t b)] ∧ Wn 200 t b ∧ lowT t b = t ∧ lowB t b = b ∧
  (Few t b → ∀ (x : Addr) (H' : Hp), Same H H' → H x = none → WAt C H' x t b → Q (.ref x) H') ∧
  (¬ Few t b → ∀ (e : Addr) (H' : Hp), Same H H' → H' e = some (.xd [(("row" : Str), .int 0)]) → E (.ref S) (some e) H')
theorem part_one {t b : Int} (ht : 0 ≤ t) (hb : b = 1) : Txt.partition (wS t b) "/" = (nT t, Str.empty, Str.empty) := by
  unfold wS
  rw [if_pos hb]
  exact TL.partition_none stroke_tl (nT_stroke ht)
theorem part_two {t b : Int} (ht : 0 ≤ t) (hb : ¬ b = 1) : Txt.partition (wS t b) "/" = (nT t, ("/" : Str), nT b) := by
  unfold wS
  rw [if_neg hb]
  exact TL.partition_app stroke_tl (nT_stroke ht)
section
variable {P : Program} {w : World} {K : PySem.W.Frag} {mg : Str → Option Value} {base : Heap}
theorem scTxI : FnScope ["self", "row"] ["self", "row"] (defScope sTxI) := ⟨rfl, rfl, rfl, by decide +kernel, rfl, by decide +kernel, by decide +kernel⟩
abbrev FunX (K : PySem.W.Frag) (f : Addr) (fd : FuncData) : Prop := FunD K "__init__" "NoText.__init__" (defArgs sTxI) (defBody sTxI) (defScope sTxI) [.int 0] [] f fd
theorem ok_txI {f S : Addr} {fd : FuncData} (F : FunX K f fd) (T : STxt K mg S f) : FnOk P w K mg base CX0 1 f fd ["self", "row"] (spTxI S) := by
  refine FunD_ok0 F scTxI (fun vs H Q E h => ?_) (fun cdv A outer s H vs Q E hr h => ?_)
  · obtain ⟨a, v, rfl, _⟩ := h
    rfl
  · obtain ⟨a, v, rfl, ha, k⟩ := h
    refine ⟨_, pss_one (ps_ost (pv 0) (pv 1)), ?_⟩
    exact ⟨_, rfl, _, rfl, a, S, rfl, T.x, T.n, .inl ⟨ha, fun dx h1 h2 => k dx h1 h2⟩⟩
theorem scRead : FnScope ["text", "top", "stroke", "bottom", "weight"] ["text"] (defScope sRead) := ⟨rfl, rfl, rfl, by decide +kernel, rfl, by decide +kernel, by decide +kernel⟩
theorem ok_read {f C S fW fI fN fS fU : Addr} {fd fdI fdN fdS fdU : FuncData} (F : Fun K "read_weight" "read_weight" sRead f fd) (T : WTxt K mg C fW) (B : Blt mg) (hst : mg "str" = none)
    (M : Mk K C fI) (GI : FnOk P w K mg base CX0 2 fI fdI ["self", "top", "bottom"] (spInit C)) (bI : Binds K fdI ["self", "top", "bottom"] [])
    (cN : Cl K mg "is_number" fN fdN ["text"]) (GN : FnOk P w K mg base CX0 3 fN fdN ["text"] spNumber)
    (GS : FnOk P w K mg base CX0 2 fS fdS ["self"] (spStr C)) (ss : PySem.W.findIn K (.ref C) "__str__" = some (some (.ref fS))) (sf : PySem.W.isFn K (.ref fS) = true) (bS : Binds K fdS ["self"] [])
    (Z : STxt K mg S fU) (GU : FnOk P w K mg base CX0 1 fU fdU ["self", "row"] (spTxI S)) (bU : Binds K fdU ["self", "row"] []) : FnOk P w K mg base (L2.CX P w) 5 f fd ["text"] (spRead C S) := by
  refine F.okX scRead (fun vs H Q E h => ?_) (fun cdv A outer s H vs Q E hr h => ?_)
  · obtain ⟨t, b, rfl, _⟩ := h
    rfl
  · obtain ⟨t, b, rfl, n1, l1, l2, k, kx⟩ := h
    have hr2 : Room 2 _ := hr.mono (by decide)
    have hr3 : Room 3 _ := hr.mono (by decide)
    refine ⟨_, pss_cons (ps_if (pt_not (pt_val (pe_callB call_isi (by rfl) B.isi (by decide +kernel) (pa_cons (pv 0) (pa_cons (pe_bltn (v := .ty "str") (by rfl) hst (by decide +kernel) rfl) pa_nil))))) (pss_one ps_never) pss_nil)
      (pss_cons (ps_asg (pe_partition (pv 0) pe_str) (pg_tup rfl (pgs_cons (pg_name (i := 1) scRead.nd rfl (Or.inl rfl)) (pgs_cons (pg_name (i := 2) scRead.nd rfl (Or.inl rfl)) (pgs_cons (pg_name (i := 3) scRead.nd rfl (Or.inl rfl)) pgs_nil)))))
      (pss_cons (ps_if (pt_not (pt_truth (pv 2) (by intro _; rfl))) (pss_one (ps_set (i := 3) scRead.nd rfl (Or.inl rfl) pe_str)) pss_nil)
      (pss_cons (ps_if (PW.pt (pw_or (pt_not (pt_val (pe_call GN hr3 (by rfl) cN.g cN.k cN.b .nil pass0 (pa_cons (pv 1) pa_nil)))) (pw_or (pt_not (pt_val (pe_call GN hr3 (by rfl) cN.g cN.k cN.b .nil pass0 (pa_cons (pv 3) pa_nil)))) (pw_or1 (pt_cmpR op_eq (pv 3) pe_str (nomark _))))))
          (pss_one (ps_raise rfl (takes_of rfl rfl rfl rfl) (pmk_oex Z.x Z.i Z.t GU hr2 bU .nil pass0 (by rfl) Z.g (pa_cons pe_int pa_nil)))) pss_nil)
      (pss_cons (ps_set (i := 4) scRead.nd rfl (Or.inl rfl) (pe_make M GI hr3 (by rfl) T.mgC bI .nil pass0 (pa_cons (pe_callTy call_int_str (by rfl) B.int (by decide +kernel) (pa_cons (pv 1) pa_nil)) (pa_cons (pe_callTy call_int_str (by rfl) B.int (by decide +kernel) (pa_cons (pv 3) pa_nil)) pa_nil))))
      (pss_cons (ps_if (pt_cmpR op_ne (pe_callTy (cr_strO GS ss sf bS (E := E0) pass0 hr) (by rfl) hst (by decide +kernel) (pa_cons (pv 4) pa_nil)) (pv 0) (nomark _)) (pss_one ps_never) pss_nil)
      (pss_one (ps_ret (pv 4)))))))), ?_⟩
    have big : ∀ n, n ≤ 10000 → n ≤ sizeLine := fun n h => Nat.le_trans h (by decide)
    have b0 := Int.le_of_lt n1.b0
    have lw := wS_len (n1.tz.mono (by decide : 200 ≤ 1600)) (n1.bz.mono (by decide : 200 ≤ 1600))
    have zt : Sz 1600 t := n1.tz.mono (by decide)
    have zb : Sz 1600 b := n1.bz.mono (by decide)
    have nb0 : ¬ (V.str (nT b) = V.str "0") := fun z => by
      have e : nT b = "0" := by injection z
      rw [← nT_zero] at e
      have := nT_inj b0 (by decide) e
      have := n1.b0
      omega
    have raise : ∀ H2, Same H H2 → ¬ Few t b → ∀ (a : Addr), H2 a = none → ∀ e, upd H2 a (exo a S none) e = none → e ≠ a → E (.ref S) (some e) (upd (del (upd (upd (upd H2 a (exo a S none)) e (exd e [(("row" : Str), V.int 0)])) a (exo a S (some e))) a) e (.xd [(("row" : Str), .int 0)])) := fun H2 s2 nf a ha e he hne => by
      have he1 : H2 e = none := by rw [← upd_ne (H := H2) (o := exo a S none) hne]; exact he
      refine kx nf e _ (s2.trans fun y o hy => ?_) upd_same
      have y1 := ne_of_none hy ha
      have y2 := ne_of_none hy he1
      rw [upd_ne y2, del_ne y1, upd_ne y1, upd_ne y2, upd_ne y1]
      exact hy
    have raised : ∀ H2 (a : Addr), H2 a = none → ∀ e, upd H2 a (exo a S none) e = none → e ≠ a → H2 e = none := fun H2 a ha e he hne => by rw [← upd_ne (H := H2) (o := exo a S none) hne]; exact he
    refine ⟨_, rfl, _, .ty "str", _, _, true, rfl, .ty _, .base (.str _), kit_ty (by decide +kernel), true, rfl, iteF ?_⟩
    have te : (0 : Nat) = (Str.empty : Str).length := by decide +kernel
    by_cases hb1 : b = 1
    refine ⟨_, rfl, ⟨_, rfl⟩, wS t b, "/", rfl, rfl, by decide +kernel, big _ (Nat.le_trans lw (by decide)), fun p hp => ?_⟩
    rw [part_one n1.t0 hb1]
    dsimp only
    refine ⟨p, _, rfl, SqT.of upd_same, rfl, _, _, rfl, _, _, rfl, _, _, rfl, rfl, ?_⟩
    have s1 := same_upd (o := .tup [.str (nT t), .str Str.empty, .str Str.empty]) hp
    refine ⟨_, rfl, false, ⟨by decide +kernel, by decide +kernel⟩, iteT ?_⟩
    have eb : (V.str "1") = V.str (nT b) := by rw [hb1, nT_one]
    rw [eb]
    rotate_left
    refine ⟨_, rfl, ⟨_, rfl⟩, wS t b, "/", rfl, rfl, by decide +kernel, big _ (Nat.le_trans lw (by decide)), fun p hp => ?_⟩
    rw [part_two n1.t0 hb1]
    dsimp only
    refine ⟨p, _, rfl, SqT.of upd_same, rfl, _, _, rfl, _, _, rfl, _, _, rfl, rfl, ?_⟩
    have s1 := same_upd (o := .tup [.str (nT t), .str "/", .str (nT b)]) hp
    refine ⟨_, rfl, true, ⟨by decide +kernel, by decide +kernel⟩, iteF ?_⟩
    all_goals
      refine ⟨_, rfl, t, rfl, n1.t0, zt, fun H2 s2 => ⟨_, rfl, ite2 (fun ht => ?_) (fun ht => ?_)⟩⟩
      · have nf : ¬ Few t b := fun z => by
          rw [decide_eq_true z.1] at ht
          exact absurd ht (by decide)
        exact ⟨(by show 1 ≤ 1000; decide), fun a ha => ⟨a, _, rfl, upd_same, fun e he hne => ⟨rfl, e, _, upd_same, by rw [upd_ne hne]; exact upd_same, raised H2 a ha e he hne, raise H2 (s1.trans s2) nf a ha e he hne⟩⟩⟩
      · have ht' : t < 1000000000000 := Classical.byContradiction fun z => ht (by rw [decide_eq_false z]; rfl)
        refine ⟨_, rfl, b, rfl, b0, zb, fun H3 s3 => ⟨_, rfl, ite2 (fun hb => ?_) (fun hb => ?_)⟩⟩
        · have nf : ¬ Few t b := fun z => by
            rw [decide_eq_true z.2] at hb
            exact absurd hb (by decide)
          exact ⟨(by show 1 ≤ 1000; decide), fun a ha => ⟨a, _, rfl, upd_same, fun e he hne => ⟨rfl, e, _, upd_same, by rw [upd_ne hne]; exact upd_same, raised H3 a ha e he hne, raise H3 ((s1.trans s2).trans s3) nf a ha e he hne⟩⟩⟩
        · have hb' : b < 1000000000000 := Classical.byContradiction fun z => hb (by rw [decide_eq_false z]; rfl)
          have few : Few t b := ⟨ht', hb'⟩
          have lt12 := (nT_long (n := t) (k := 12) n1.t0).mpr ⟨by omega, by decide⟩
          have lb12 := (nT_long (n := b) (k := 12) b0).mpr ⟨by omega, by decide⟩
          refine ⟨_, rfl, rfl, _, rfl, ?_⟩
          rw [decide_eq_false nb0]
          refine iteF ?_
          refine ⟨_, rfl, nT t, t, rfl, nT_int n1.t0 (by omega), by omega, _, rfl, nT b, b, rfl, nT_int b0 (by omega), by omega, ?_⟩
          intro x dz nx ndz ne
          refine ⟨x, dz, t, b, rfl, upd_same, n1.t0, n1.b0, n1.bz.mono (by decide), rfl, ?_⟩
          have ew : wf (t / ((Int.gcd t b : Nat) : Int)) (b / ((Int.gcd t b : Nat) : Int)) = wf t b := by
            show wf (lowT t b) (lowB t b) = _
            rw [l1, l2]
          rw [ew]
          have s4 := same_make (C := C) (fs := wf t b) nx ndz
          refine ⟨_, rfl, x, dz, _, rfl, upd_same, x, t, b, rfl, ⟨dz, upd_same⟩, n1.mono (by decide), fun H5 s5 => ⟨wS t b, rfl, ?_⟩⟩
          refine ⟨_, rfl, rfl, _, rfl, iteNS rfl ?_⟩
          exact ⟨_, rfl, k few x _ ((((s1.trans s2).trans s3).trans s4).trans s5) (Fw.same (d := x) ((s1.trans s2).trans s3) x nx) ⟨dz, s5 _ _ upd_same⟩⟩
end
end K
namespace K
open PySem L2 Rp
/-- the module's x is a class; b: whether S is below it -/
def IsC (K : PySem.W.Frag) (mg : Str → Option Value) (S : Addr) (x : Str) (b : Bool) : Prop := ∃ A, mg x = some (.ref A) ∧ PySem.W.kitOne K (.ref S) (.ref A) = some b
/-- what the marks ask of the error's class S -/
structure MTxt (K : PySem.W.Frag) (mg : Str → Option Value) (S : Addr) : Prop where
  e : ExcC K S
  i : mg "isinstance" = none
  c1 : IsC K mg S "NoName" false
  c2 : IsC K mg S "NoGrains" false
  c3 : IsC K mg S "NoDay" false
  c4 : IsC K mg S "NoWeight" false
  c5 : IsC K mg S "NoDeed" false
  c6 : IsC K mg S "NoRow" false
  c7 : IsC K mg S "NoText" true
  c8 : IsC K mg S "Unknown" false
  c9 : IsC K mg S "Unborne" false
  d1 : IsC K mg S "Twice" false
  d2 : IsC K mg S "TooLate" false
  d3 : IsC K mg S "NoSum" false
  d4 : IsC K mg S "Full" false
  d5 : IsC K mg S "NotAlike" false
  k : IsC K mg S "CaskError" true
  w : IsC K mg S "Wrong" true
  v : mg "ValueError" = none
  kv : PySem.W.kitOne K (.ref S) (.type "ValueError") = some true
theorem HasD.same {H H' : Hp} {d : Option Addr} (h : HasD H d) (e : Same H H') : HasD H' d := h.imp id fun ⟨dx, fs, h1, h2⟩ => ⟨dx, fs, h1, e _ _ h2⟩
def spMarks (S : Addr) : SpE := fun a cls d vs H Q _ => ∃ b : Bool, vs = [.ref a, .bl b] ∧ cls = .ref S ∧ HasD H d ∧ ∀ (m : Addr) (H' : Hp), Same H H' → H m = none → H' m = some (.lst [.bl b, .bl true, .bl true, .int 1]) → Q (.ref m) H'
section
variable {P : Program} {w : World} {K : PySem.W.Frag} {mg : Str → Option Value} {base : Heap}
theorem scMarks : FnScope ["_law_e", "_law_right_here", "_law_others"] ["_law_e", "_law_right_here"] (defScope sMarks) := ⟨rfl, rfl, rfl, by decide +kernel, rfl, by decide +kernel, by decide +kernel⟩
theorem ok_marks {f S : Addr} {fd : FuncData} (F : Fun K "_law_marks_of" "_law_marks_of" sMarks f fd) (T : MTxt K mg S) : FnE P w K mg base CX0 1 f fd ["_law_e", "_law_right_here"] (spMarks S) := by
  refine Fun_okE F scMarks (fun a cls d vs H Q E h => ?_) (fun cdv A outer s H vs Q E p cls d hz hf hr h => ?_)
  · obtain ⟨b, rfl, _⟩ := h
    rfl
  · obtain ⟨a, oe⟩ := p
    obtain ⟨b, rfl, rfl, hd, k⟩ := h
    obtain ⟨A1, g1, q1⟩ := T.c1
    obtain ⟨A2, g2, q2⟩ := T.c2
    obtain ⟨A3, g3, q3⟩ := T.c3
    obtain ⟨A4, g4, q4⟩ := T.c4
    obtain ⟨A5, g5, q5⟩ := T.c5
    obtain ⟨A6, g6, q6⟩ := T.c6
    obtain ⟨A7, g7, q7⟩ := T.c7
    obtain ⟨A8, g8, q8⟩ := T.c8
    obtain ⟨A9, g9, q9⟩ := T.c9
    obtain ⟨B1, h1, r1⟩ := T.d1
    obtain ⟨B2, h2, r2⟩ := T.d2
    obtain ⟨B3, h3, r3⟩ := T.d3
    obtain ⟨B4, h4, r4⟩ := T.d4
    obtain ⟨B5, h5, r5⟩ := T.d5
    obtain ⟨A10, g10, q10⟩ := T.k
    have ci : ∀ {X : Cx}, X.pn = [(a, oe)] → CallR X (.builtin "isinstance") (rIsX X.K a (.ref S) d) := fun {X} e => call_isX (by rw [e]; exact List.mem_cons_self) hz hf
    have ct : ∀ {X : Cx}, X.pn = [(a, oe)] → CallR X (.builtin "isinstance") (rIsXT X.K a (.ref S) d) := fun {X} e => call_isXT (by rw [e]; exact List.mem_cons_self) hz hf
    refine ⟨_, pss_cons (ps_set (i := 2) scMarks.nd rfl (Or.inl rfl) (pe_lst (pa_cons (pe_callB (ci rfl) (by rfl) T.i (by decide +kernel) (pa_cons (pv 0) (pa_cons (pe_glob (v := .ref A1) rfl g1 rfl) pa_nil)))
          (pa_cons (pe_callB (ci rfl) (by rfl) T.i (by decide +kernel) (pa_cons (pv 0) (pa_cons (pe_glob (v := .ref A2) rfl g2 rfl) pa_nil)))
          (pa_cons (pe_callB (ci rfl) (by rfl) T.i (by decide +kernel) (pa_cons (pv 0) (pa_cons (pe_glob (v := .ref A3) rfl g3 rfl) pa_nil)))
          (pa_cons (pe_callB (ci rfl) (by rfl) T.i (by decide +kernel) (pa_cons (pv 0) (pa_cons (pe_glob (v := .ref A4) rfl g4 rfl) pa_nil))) pa_nil))))))
      (pss_cons (ps_set (i := 2) scMarks.nd rfl (Or.inl rfl) (pe_op op_cat (pv 2) (pe_lst (pa_cons (pe_callB (ci rfl) (by rfl) T.i (by decide +kernel) (pa_cons (pv 0) (pa_cons (pe_glob (v := .ref A5) rfl g5 rfl) pa_nil)))
          (pa_cons (pe_callB (ci rfl) (by rfl) T.i (by decide +kernel) (pa_cons (pv 0) (pa_cons (pe_glob (v := .ref A6) rfl g6 rfl) pa_nil)))
          (pa_cons (pe_callB (ci rfl) (by rfl) T.i (by decide +kernel) (pa_cons (pv 0) (pa_cons (pe_glob (v := .ref A7) rfl g7 rfl) pa_nil)))
          (pa_cons (pe_callB (ci rfl) (by rfl) T.i (by decide +kernel) (pa_cons (pv 0) (pa_cons (pe_glob (v := .ref A8) rfl g8 rfl) pa_nil))) pa_nil)))))))
      (pss_cons (ps_set (i := 2) scMarks.nd rfl (Or.inl rfl) (pe_op op_cat (pv 2) (pe_lst (pa_cons (pe_callB (ci rfl) (by rfl) T.i (by decide +kernel) (pa_cons (pv 0) (pa_cons (pe_glob (v := .ref A9) rfl g9 rfl) pa_nil)))
          (pa_cons (pe_callB (ct rfl) (by rfl) T.i (by decide +kernel) (pa_cons (pv 0) (pa_cons (pe_tup (pa_cons (pe_glob (v := .ref B1) rfl h1 rfl) (pa_cons (pe_glob (v := .ref B2) rfl h2 rfl) (pa_cons (pe_glob (v := .ref B3) rfl h3 rfl) (pa_cons (pe_glob (v := .ref B4) rfl h4 rfl) (pa_cons (pe_glob (v := .ref B5) rfl h5 rfl) pa_nil)))))) pa_nil))) pa_nil)))))
      (pss_one (ps_ret (pe_lst (pa_cons (pv 1) (pa_cons (pe_callB (ci rfl) (by rfl) T.i (by decide +kernel) (pa_cons (pv 0) (pa_cons (pe_glob (v := .ref A10) rfl g10 rfl) pa_nil)))
          (pa_cons (pe_callB (ci rfl) (by rfl) T.i (by decide +kernel) (pa_cons (pv 0) (pa_cons (pe_bltn (v := .ty "ValueError") (by rfl) T.v (by decide +kernel) rfl) pa_nil)))
          (pa_cons (pe_bm PySem.F.plainAttrs_list PySem.F.slot_list_count PySem.F.type_list_count mt_bcount (pv 2) (pa_cons pe_bl pa_nil)) pa_nil))))))))), ?_⟩
    have small : ∀ n, n ≤ 100 → n ≤ sizeLine := fun n h => Nat.le_trans h (by decide)
    refine ⟨_, rfl, S, _, _, _, rfl, rfl, T.e, .own _, hd, q1, _, rfl, S, _, _, _, rfl, rfl, T.e, .own _, hd, q2, _, rfl, S, _, _, _, rfl, rfl, T.e, .own _, hd, q3, _, rfl, S, _, _, _, rfl, rfl, T.e, .own _, hd, q4, (by show 4 ≤ sizeLine; decide), fun l1 hl1 => ?_⟩
    have s1 := same_upd (o := .lst [.bl false, .bl false, .bl false, .bl false]) hl1
    have d1 := HasD.same hd s1
    refine ⟨_, rfl, _, rfl, S, _, _, _, rfl, rfl, T.e, .own _, d1, q5, _, rfl, S, _, _, _, rfl, rfl, T.e, .own _, d1, q6, _, rfl, S, _, _, _, rfl, rfl, T.e, .own _, d1, q7, _, rfl, S, _, _, _, rfl, rfl, T.e, .own _, d1, q8, (by show 4 ≤ sizeLine; decide), fun l2 hl2 => ?_⟩
    have s2 := s1.trans (same_upd (o := .lst [.bl false, .bl false, .bl true, .bl false]) hl2)
    refine ⟨l1, l2, _, _, rfl, rfl, same_upd hl2 _ _ upd_same, upd_same, (by show 8 ≤ sizeLine; decide), fun l3 hl3 => ?_⟩
    have s3 := s2.trans (same_upd (o := .lst ([V.bl false, .bl false, .bl false, .bl false] ++ [V.bl false, .bl false, .bl true, .bl false])) hl3)
    have d3 := HasD.same hd s3
    refine ⟨_, rfl, _, rfl, S, _, _, _, rfl, rfl, T.e, .own _, d3, q9, _, rfl, (by show 5 ≤ sizeLine; decide), fun tp htp => ?_⟩
    have s4 := s3.trans (same_upd (o := .tup [.ref B1, .ref B2, .ref B3, .ref B4, .ref B5]) htp)
    refine ⟨S, tp, _, _, false, rfl, rfl, T.e, upd_same, .cons (.own _) (.cons (.own _) (.cons (.own _) (.cons (.own _) (.cons (.own _) .nil)))), HasD.same hd s4,
      kitAny_cons r1 (fun _ => kitAny_cons r2 (fun _ => kitAny_cons r3 (fun _ => kitAny_cons r4 (fun _ => kitAny_cons r5 (fun _ => kitAny_nil) (fun z => nomatch z)) (fun z => nomatch z)) (fun z => nomatch z)) (fun z => nomatch z)) (fun z => nomatch z),
      (by show 2 ≤ sizeLine; decide), fun l4 hl4 => ?_⟩
    have s5 := s4.trans (same_upd (o := .lst [.bl false, .bl false]) hl4)
    refine ⟨l3, l4, _, _, rfl, rfl, same_upd hl4 _ _ (same_upd htp _ _ upd_same), upd_same, (by show 10 ≤ sizeLine; decide), fun l5 hl5 => ?_⟩
    have s6 := s5.trans (same_upd (o := .lst (([V.bl false, .bl false, .bl false, .bl false] ++ [V.bl false, .bl false, .bl true, .bl false]) ++ [V.bl false, .bl false])) hl5)
    have d6 := HasD.same hd s6
    refine ⟨_, rfl, _, rfl, S, _, _, _, rfl, rfl, T.e, .own _, d6, q10, _, rfl, S, _, _, _, rfl, rfl, T.e, .ty _, d6, T.kv, _, rfl, .inl ⟨rfl, _, SqL.of upd_same⟩, ?_⟩
    refine ⟨l5, [false, false, false, false, false, false, true, false, false, false], true, rfl, rfl, SqL.of upd_same, ?_⟩
    refine ⟨(by show 4 ≤ sizeLine; decide), fun m hm => ?_⟩
    exact k m _ (s6.trans (same_upd hm)) (Fw.same (d := m) s6 m hm) upd_same
def spRefused : Sp := fun vs H Q _ => ∃ t b : Int, vs = [.str (wS t b)] ∧ Wn 200 t b ∧ lowT t b = t ∧ lowB t b = b ∧ ¬ Few t b ∧ ∀ H', Same H H' → Q (.bl true) H'
theorem scRefused : FnScope ["_law_text", "_law_marks", "_law_e"] ["_law_text"] (defScope sRefused) := ⟨rfl, rfl, rfl, by decide +kernel, rfl, by decide +kernel, by decide +kernel⟩
theorem ok_refused {f C S fR fM CE fU : Addr} {fd fdR fdM : FuncData} (F : Fun K "_law_refused" "_law_refused" sRefused f fd) (hrp : mg "repr" = none) (cR : Cl K mg "read_weight" fR fdR ["text"]) (GR : FnOk P w K mg base (L2.CX P w) 5 fR fdR ["text"] (spRead C S))
    (Z : STxt K mg S fU) (MT : MTxt K mg S) (cM : Cl K mg "_law_marks_of" fM fdM ["_law_e", "_law_right_here"]) (GM : FnE P w K mg base CX0 1 fM fdM ["_law_e", "_law_right_here"] (spMarks S))
    (gE : mg "CaskError" = some (.ref CE)) (xE : PySem.W.exmOne K (.ref S) (.ref CE) = some true) : FnOk P w K mg base CX0 6 f fd ["_law_text"] spRefused := by
  refine F.ok scRefused (fun vs H Q E h => ?_) (fun cdv A outer s H vs Q E hr h => ?_)
  · obtain ⟨t, b, rfl, _⟩ := h
    rfl
  · obtain ⟨t, b, rfl, n1, l1, l2, nf, k⟩ := h
    have hrh : L2H.RoomH 1 _ := L2H.roomH_of (hr.mono (by decide))
    obtain ⟨A9, g9, q9⟩ := MT.w
    obtain ⟨Ab, gb, qb⟩ := MT.c7
    refine ⟨_, pss_cons (ps_set (i := 1) scRefused.nd rfl (Or.inl rfl) (pe_lst pa_nil))
      (pss_cons (ps_try_as (i := 2) (c := .ref CE) (Wout := fun _ _ _ _ => False) rfl rfl scRefused.nd rfl rfl ⟨rfl, by decide, .inl gE⟩ takes0
        (fun W pn xe tk _ => pss_one (ps_expr (pe_callS (E := WE W) GR hr (by rfl) cR.g cR.k cR.b (fun σ => passAt tk σ) (pa_cons (pv 0) pa_nil))))
        (fun a oe cls d pn hz hf => pss_cons (ps_set (i := 1) scRefused.nd rfl (Or.inl rfl) (pe_lst (pa_cons (pe_callE GM ⟨hrh.dp, hrh.un⟩ List.mem_cons_self hz hf (by rfl) cM.g cM.k cM.b pass0 (pa_cons (pv 2) (pa_cons (pe_callB (call_isS hz hf) (by rfl) MT.i (by decide +kernel) (pa_cons (pv 2) (pa_cons (pe_glob (v := .ref Ab) rfl gb rfl) pa_nil))) pa_nil)))
            (pa_cons (pe_callB (call_isS hz hf) (by rfl) MT.i (by decide +kernel) (pa_cons (pv 2) (pa_cons (pe_glob (v := .ref A9) rfl g9 rfl) pa_nil))) pa_nil))))
          (pss_one (ps_expr (by exact (pe_bmS PySem.F.plainAttrs_list PySem.F.slot_list_append PySem.F.type_list_append mt_append (pv 1) (pa_cons (pe_ifExp (pt_val (pe_ix ix_listS (pe_ix ix_listS (pv 1) pe_int (fun _ _ => rfl)) pe_int (fun _ _ => rfl)))
            (pe_callB cr_reprI (by rfl) hrp (by decide +kernel) (pa_cons (pe_xf (C := S) ⟨MT.e.hg, MT.e.hk, MT.e.hs, MT.e.hd⟩ Z.n hz hf (pv 2)) pa_nil)) pe_str) pa_nil)))))))
      (pss_one (ps_ret (pe_cmpR (op_eqD hr.units) (pv 1) (pe_lst (pa_cons (pe_lst (pa_cons pe_bl (pa_cons pe_bl (pa_cons pe_bl (pa_cons pe_int pa_nil))))) (pa_cons pe_bl (pa_cons pe_str pa_nil)))) (nomark _))))), ?_⟩
    refine ⟨Nat.zero_le _, fun m hm => ?_⟩
    have s1 := same_upd (o := .lst []) hm
    refine ⟨_, rfl, t, b, rfl, n1, l1, l2, fun z => absurd z nf, fun _ e H1 e1 he => ?_⟩
    have hd1 : HasD H1 (some e) := .inr ⟨e, _, rfl, he⟩
    refine ⟨true, xE, fun _ a ha => ?_, fun z => nomatch z⟩
    refine ⟨_, rfl, _, rfl, S, _, _, _, rfl, rfl, MT.e, .own _, hd1, qb, true, rfl, rfl, hd1, fun n H2 e2 nn hn => ?_⟩
    have hd2 := HasD.same hd1 e2
    refine ⟨_, rfl, S, _, _, _, rfl, rfl, MT.e, .own _, hd2, q9, (by show 2 ≤ sizeLine; decide), fun m2 hm2 => ?_⟩
    have e3 := e2.trans (same_upd (o := .lst [.ref n, .bl true]) hm2)
    have nm2 : n ≠ m2 := fun z => by rw [z, hm2] at hn; cases hn
    have hn3 : (upd H2 m2 (.lst [V.ref n, .bl true])) n = some (.lst [.bl true, .bl true, .bl true, .int 1]) := by rw [upd_ne nm2]; exact hn
    refine ⟨_, rfl, .inl ⟨rfl, _, SqL.of upd_same⟩, ?_⟩
    refine ⟨_, rfl, m2, _, 0, _, rfl, rfl, SqL.of upd_same, rfl, n, _, 0, _, rfl, rfl, SqL.of hn3, rfl, true, rfl, ?_⟩
    refine iteT ?_
    refine ⟨_, rfl, rfl, rfl, e, _, .int 0, rfl, e3 _ _ he, by simp [List.lookup], 0, rfl, by decide, ?_⟩
    refine ⟨m2, _, _, rfl, rfl, upd_same, (by show 2 < sizeLine; decide), ?_⟩
    have s4 : Same H1 (upd (upd H2 m2 (.lst [.ref n, .bl true])) m2 (.lst ([.ref n, .bl true] ++ [.str (Str.ofString (toString (0 : Int)))]))) := fun y o hy => by
      rw [upd_ne (ne_of_none (e2 _ _ hy) hm2)]
      exact e3 _ _ hy
    refine ⟨_, rfl, ?_⟩
    refine ⟨(by show 4 ≤ sizeLine; decide), fun x1 h1 => ⟨(by show 3 ≤ sizeLine; decide), fun x2 h2 => ?_⟩⟩
    have sa := same_upd (o := .lst [.bl true, .bl true, .bl true, .int 1]) h1
    have sb := same_upd (o := .lst [.ref x1, .bl true, .str "0"]) h2
    have sc := sa.trans sb
    have hm4 : (upd (upd H2 m2 (.lst [V.ref n, .bl true])) m2 (.lst ([.ref n, .bl true] ++ [.str (Str.ofString (toString (0 : Int)))]))) m2 = some (.lst [.ref n, .bl true, .str "0"]) := by
      rw [upd_same]
      have ez : Str.ofString (toString (0 : Int)) = "0" := by decide +kernel
      rw [ez]
      rfl
    have hn4 : (upd (upd H2 m2 (.lst [V.ref n, .bl true])) m2 (.lst ([.ref n, .bl true] ++ [.str (Str.ofString (toString (0 : Int)))]))) n = some (.lst [.bl true, .bl true, .bl true, .int 1]) := by rw [upd_ne nm2]; exact hn3
    refine ⟨.list [.list [.bool true, .bool true, .bool true, .int 1], .bool true, .str "0"], .list [.list [.bool true, .bool true, .bool true, .int 1], .bool true, .str "0"],
      .lst (SqL.of (sc _ _ hm4)) (.cons (.lst (SqL.of (sc _ _ hn4)) (.cons (.bl _) (.cons (.bl _) (.cons (.bl _) (.cons (.int _) .nil))))) (.cons (.bl _) (.cons (.str _) .nil))),
      .lst (SqL.of upd_same) (.cons (.lst (SqL.of (sb _ _ upd_same)) (.cons (.bl _) (.cons (.bl _) (.cons (.bl _) (.cons (.int _) .nil))))) (.cons (.bl _) (.cons (.str _) .nil))), by decide +kernel, by decide +kernel, ?_⟩
    rw [show PyData.eqv (.list [.list [.bool true, .bool true, .bool true, .int 1], .bool true, .str "0"]) (.list [.list [.bool true, .bool true, .bool true, .int 1], .bool true, .str "0"]) = true from by decide +kernel]
    exact k _ ((((s1.trans e1)).trans s4).trans sc)
end
end K
namespace K
open PySem L2 Rp
def spWritten : Sp := fun vs H Q _ => ∃ t b : Int, vs = [.int t, .int b] ∧ Wn 1500 t b ∧ ∀ H', Same H H' → Q (.str (wS (lowT t b) (lowB t b))) H'
def spRight : Sp := fun vs H Q _ => ∃ t b : Int, vs = [.int t, .int b] ∧ 0 ≤ t ∧ t ≤ 999999999999 ∧ 0 < b ∧ b ≤ 999999999999 ∧ ∀ H', Same H H' → Q (.bl true) H'
section
variable {P : Program} {w : World} {K : PySem.W.Frag} {mg : Str → Option Value} {base : Heap}
theorem scWritten : FnScope ["_law_top", "_law_bottom"] ["_law_top", "_law_bottom"] (defScope sWritten) := ⟨rfl, rfl, rfl, by decide +kernel, rfl, by decide +kernel, by decide +kernel⟩
theorem ok_written {f fL : Addr} {fd fdL : FuncData} (F : Fun K "_law_written" "_law_written" sWritten f fd) (hst : mg "str" = none) (cL : Cl K mg "_law_lowest" fL fdL ["_law_top", "_law_bottom"]) (GL : FnOk P w K mg base CX0 2 fL fdL ["_law_top", "_law_bottom"] spLow) :
    FnOk P w K mg base CX0 3 f fd ["_law_top", "_law_bottom"] spWritten := by
  refine F.ok scWritten (fun vs H Q E h => ?_) (fun cdv A outer s H vs Q E hr h => ?_)
  · obtain ⟨t, b, rfl, _⟩ := h
    rfl
  · obtain ⟨t, b, rfl, n1, k⟩ := h
    refine ⟨_, pss_cons (ps_asg (pe_call GL hr (by rfl) cL.g cL.k cL.b .nil pass0 (pa_cons (pv 0) (pa_cons (pv 1) pa_nil))) (pg_tup rfl (pgs_cons (pg_name (i := 0) scWritten.nd rfl (Or.inl rfl)) (pgs_cons (pg_name (i := 1) scWritten.nd rfl (Or.inl rfl)) pgs_nil))))
      (pss_cons (ps_if (pt_cmpR op_eq (pv 1) pe_int (nomark _)) (pss_one (ps_ret (pe_callTy call_str_int (by rfl) hst (by decide +kernel) (pa_cons (pv 0) pa_nil)))) pss_nil)
      (pss_one (ps_ret (pe_op op_add_str (pe_op op_add_str (pe_callTy call_str_int (by rfl) hst (by decide +kernel) (pa_cons (pv 0) pa_nil)) pe_str) (pe_callTy call_str_int (by rfl) hst (by decide +kernel) (pa_cons (pv 1) pa_nil)))))), ?_⟩
    have n2 := n1.low
    have big : ∀ n, n ≤ 10000 → n ≤ sizeLine := fun n h => Nat.le_trans h (by decide)
    have e3 : ("/" : Str).length = 1 := by decide +kernel
    have h1 : (nT (lowT t b)).length ≤ 1601 := nT_len (n2.tz.mono (by decide))
    have h2 : (nT (lowB t b)).length ≤ 1601 := nT_len (n2.bz.mono (by decide))
    have z1 : (lowT t b).natAbs.log2 < 1920 := Nat.lt_trans (n2.tz.log (by decide)) (by decide)
    have z2 : (lowB t b).natAbs.log2 < 1920 := Nat.lt_trans (n2.bz.log (by decide)) (by decide)
    refine ⟨_, rfl, _, rfl, t, b, rfl, n1.t0, n1.b0, n1.bz.mono (by decide), fun p hp => ⟨p, _, rfl, SqT.of upd_same, rfl, _, _, rfl, _, _, rfl, rfl, ?_⟩⟩
    have s1 := same_upd (o := .tup [.int (lowT t b), .int (lowB t b)]) hp
    refine ⟨_, rfl, rfl, _, rfl, ite2 (fun h => ?_) (fun h => ?_)⟩
    · have hb : lowB t b = 1 := by injection of_decide_eq_true h
      refine ⟨_, rfl, _, rfl, z1, ?_⟩
      have q := k _ s1
      unfold wS at q
      rw [if_pos hb] at q
      exact q
    · have hb : ¬ lowB t b = 1 := fun z => h (decide_eq_true (by rw [z]))
      refine ⟨_, rfl, _, rfl, z1, nT (lowT t b), "/", rfl, rfl, big _ (by rw [e3]; omega), _, rfl, _, rfl, z2, nT (lowT t b) ++ "/", nT (lowB t b), rfl, rfl, big _ (by rw [append_len, e3]; omega), ?_⟩
      have q := k _ s1
      unfold wS at q
      rw [if_neg hb] at q
      exact q
theorem scTwelve : FnScope ["_law_deck_here", "_law_top"] ["_law_deck_here"] (defScope sTwelve) := ⟨rfl, rfl, rfl, by decide +kernel, rfl, by decide +kernel, by decide +kernel⟩
theorem ok_twelve {f fD : Addr} {fd fdD : FuncData} (F : Fun K "_law_twelve" "_law_twelve" sTwelve f fd) (cD : Cl K mg "_law_draw" fD fdD ["_law_deck_here", "_law_most"])
    (GD : FnOk P w K mg base CX0 1 fD fdD ["_law_deck_here", "_law_most"] spDraw) : FnOk P w K mg base CX0 2 f fd ["_law_deck_here"] spTwo := by
  refine F.ok scTwelve (fun vs H Q E h => ?_) (fun cdv A outer s H vs Q E hr h => ?_)
  · obtain ⟨d, rfl, _⟩ := h
    rfl
  · obtain ⟨d, rfl, hd, k⟩ := h
    refine ⟨_, pss_cons (ps_set (i := 1) scTwelve.nd rfl (Or.inl rfl) (pe_op op_add (pe_op op_pow pe_int pe_int) (pe_op op_mul (pe_call GD hr (by rfl) cD.g cD.k cD.b .nil pass0 (pa_cons (pv 0) (pa_cons (pe_op op_pow pe_int pe_int) pa_nil))) (pe_op op_pow pe_int pe_int))))
      (pss_one (ps_ret (pe_ix ix_list (pe_lst (pa_cons (pe_tup (pa_cons (pv 1) (pa_cons (pe_op op_sub (pe_op op_pow pe_int pe_int) pe_int) pa_nil))) (pa_cons (pe_tup (pa_cons (pe_op op_sub (pe_op op_pow pe_int pe_int) pe_int) (pa_cons (pv 1) pa_nil)))
        (pa_cons (pe_tup (pa_cons (pe_op op_sub (pe_op op_pow pe_int pe_int) pe_int) (pa_cons pe_int pa_nil))) (pa_cons (pe_tup (pa_cons pe_int (pa_cons (pv 1) pa_nil))) (pa_cons (pe_tup (pa_cons (pv 1) (pa_cons pe_int pa_nil))) pa_nil))))))
        (pe_call GD hr (by rfl) cD.g cD.k cD.b .nil pass0 (pa_cons (pv 0) (pa_cons pe_int pa_nil))) (fun _ _ => rfl)))), ?_⟩
    have pw : ∀ n : Int, 0 ≤ n → n ≤ 1000000 → CPow (10 : Int) n := fun n h1 h2 => ⟨h1, h2, by decide⟩
    have m6 : (10 : Int) ^ (6 : Int).toNat = 1000000 := by decide
    have m5 : (10 : Int) ^ (5 : Int).toNat = 100000 := by decide
    have m11 : (10 : Int) ^ (11 : Int).toNat = 100000000000 := by decide
    have m12 : (10 : Int) ^ (12 : Int).toNat = 1000000000000 := by decide
    refine ⟨_, _, rfl, rfl, pw _ (by decide) (by decide), _, rfl, _, _, rfl, rfl, pw _ (by decide) (by decide), d, _, rfl, by rw [m6]; decide, by rw [m6]; decide, hd, fun r r0 r1 H1 d1 e1 => ?_⟩
    rw [m6] at r1
    refine ⟨_, _, rfl, rfl, pw _ (by decide) (by decide), _, _, rfl, rfl, .inl ⟨by omega, by omega⟩, _, _, rfl, rfl, ?_⟩
    rw [m11, m5]
    have f1 := Fw.draw d1 e1
    have T0 : (0 : Int) < 100000000000 + r * 100000 := by omega
    have T1 : (100000000000 : Int) + r * 100000 ≤ 999999999999 := by omega
    refine ⟨_, rfl, _, _, rfl, rfl, pw _ (by decide) (by decide), _, _, rfl, rfl, ?_⟩
    rw [m12]
    refine ⟨(by show 2 ≤ sizeLine; decide), fun pa ha => ?_⟩
    refine ⟨_, _, rfl, rfl, pw _ (by decide) (by decide), _, _, rfl, rfl, ?_⟩
    rw [m12]
    refine ⟨_, rfl, (by show 2 ≤ sizeLine; decide), fun pb hb => ?_⟩
    refine ⟨_, _, rfl, rfl, pw _ (by decide) (by decide), _, _, rfl, rfl, ?_⟩
    rw [m12]
    refine ⟨(by show 2 ≤ sizeLine; decide), fun pc hc => ⟨_, rfl, (by show 2 ≤ sizeLine; decide), fun pe he => ⟨_, rfl, (by show 2 ≤ sizeLine; decide), fun pf hf => ⟨(by show 5 ≤ sizeLine; decide), fun l hl => ?_⟩⟩⟩⟩
    have da := d1.upd (o := .tup [.int (100000000000 + r * 100000), .int (1000000000000 - 1)]) ha
    have db := da.upd (o := .tup [.int (1000000000000 - 1), .int (100000000000 + r * 100000)]) hb
    have dc := db.upd (o := .tup [.int (1000000000000 - 1), .int 1]) hc
    have de := dc.upd (o := .tup [.int 1, .int (100000000000 + r * 100000)]) he
    have df := de.upd (o := .tup [.int (100000000000 + r * 100000), .int 7]) hf
    have dl := df.upd (o := .lst [.ref pa, .ref pb, .ref pc, .ref pe, .ref pf]) hl
    have fa : Fw d _ _ := Fw.upd (o := .tup [.int (100000000000 + r * 100000), .int (1000000000000 - 1)]) ha
    have fb : Fw d _ _ := Fw.upd (o := .tup [.int (1000000000000 - 1), .int (100000000000 + r * 100000)]) hb
    have fc : Fw d _ _ := Fw.upd (o := .tup [.int (1000000000000 - 1), .int 1]) hc
    have fe : Fw d _ _ := Fw.upd (o := .tup [.int 1, .int (100000000000 + r * 100000)]) he
    have ff : Fw d _ _ := Fw.upd (o := .tup [.int (100000000000 + r * 100000), .int 7]) hf
    have fl : Fw d _ _ := Fw.upd (o := .lst [.ref pa, .ref pb, .ref pc, .ref pe, .ref pf]) hl
    refine ⟨_, rfl, d, 5, rfl, by decide, by decide, dl, fun q q0 q1 H3 d3 e3 => ?_⟩
    have f3 := Fw.draw d3 e3
    have all := f1.trans ((((((fa.trans fb).trans fc).trans fe).trans ff).trans fl).trans f3)
    have h3 : H3 l = some (.lst [.ref pa, .ref pb, .ref pc, .ref pe, .ref pf]) := (e3 l (df.ne hl)).trans upd_same
    have h4 : q = 0 ∨ q = 1 ∨ q = 2 ∨ q = 3 ∨ q = 4 := by omega
    have c12 : (1000000000000 : Int) - 1 = 999999999999 := by decide
    rcases h4 with rfl | rfl | rfl | rfl | rfl
    · exact ⟨l, _, _, .ref pa, rfl, rfl, SqL.of h3, rfl, k pa (100000000000 + r * 100000) (1000000000000 - 1) H3 (by omega) T1 (by decide) (by decide) (f1.nn _ ha) ((((((fb.trans fc).trans fe).trans ff).trans fl).trans f3).kp _ _ (d1.ne ha) upd_same) d3 all⟩
    · exact ⟨l, _, _, .ref pb, rfl, rfl, SqL.of h3, rfl, k pb (1000000000000 - 1) (100000000000 + r * 100000) H3 (by decide) (by decide) T0 T1 ((f1.trans fa).nn _ hb) (((((fc.trans fe).trans ff).trans fl).trans f3).kp _ _ (da.ne hb) upd_same) d3 all⟩
    · exact ⟨l, _, _, .ref pc, rfl, rfl, SqL.of h3, rfl, k pc (1000000000000 - 1) 1 H3 (by decide) (by decide) (by decide) (by decide) (((f1.trans fa).trans fb).nn _ hc) ((((fe.trans ff).trans fl).trans f3).kp _ _ (db.ne hc) upd_same) d3 all⟩
    · exact ⟨l, _, _, .ref pe, rfl, rfl, SqL.of h3, rfl, k pe 1 (100000000000 + r * 100000) H3 (by decide) (by decide) T0 T1 ((((f1.trans fa).trans fb).trans fc).nn _ he) (((ff.trans fl).trans f3).kp _ _ (dc.ne he) upd_same) d3 all⟩
    · exact ⟨l, _, _, .ref pf, rfl, rfl, SqL.of h3, rfl, k pf (100000000000 + r * 100000) 7 H3 (by omega) T1 (by decide) (by decide) (((((f1.trans fa).trans fb).trans fc).trans fe).nn _ hf) ((fl.trans f3).kp _ _ (de.ne hf) upd_same) d3 all⟩
theorem scRight : FnScope ["_law_top", "_law_bottom", "_law_one", "_law_text", "_law_turn", "_law_found"] ["_law_top", "_law_bottom"] (defScope sRight) := ⟨rfl, rfl, rfl, by decide +kernel, rfl, by decide +kernel, by decide +kernel⟩
theorem ok_right {f C S fW fI fS fR fE fIs fWr : Addr} {fd fdI fdS fdR fdE fdIs fdWr : FuncData} (F : Fun K "_law_right" "_law_right" sRight f fd) (T : WTxt K mg C fW) (N : WIns K C) (hst : mg "str" = none) (hrg : mg "range" = none)
    (M : Mk K C fI) (GI : FnOk P w K mg base CX0 2 fI fdI ["self", "top", "bottom"] (spInit C)) (bI : Binds K fdI ["self", "top", "bottom"] [])
    (GS : FnOk P w K mg base CX0 2 fS fdS ["self"] (spStr C)) (ss : PySem.W.findIn K (.ref C) "__str__" = some (some (.ref fS))) (sf : PySem.W.isFn K (.ref fS) = true) (bS : Binds K fdS ["self"] [])
    (cR : Cl K mg "read_weight" fR fdR ["text"]) (GR : FnOk P w K mg base (L2.CX P w) 5 fR fdR ["text"] (spRead C S))
    (O : OwnE K C fE) (GE : FnOk P w K mg base CX0 1 fE fdE ["self", "other"] (spEqW C)) (bE : Binds K fdE ["self", "other"] [])
    (cI : Cl K mg "_law_is" fIs fdIs ["_law_found", "_law_top", "_law_bottom"]) (GIs : FnOk P w K mg base CX0 3 fIs fdIs ["_law_found", "_law_top", "_law_bottom"] (spIs C))
    (cW : Cl K mg "_law_written" fWr fdWr ["_law_top", "_law_bottom"]) (GWr : FnOk P w K mg base CX0 3 fWr fdWr ["_law_top", "_law_bottom"] spWritten) :
    FnOk P w K mg base CX0 6 f fd ["_law_top", "_law_bottom"] spRight := by
  refine F.ok scRight (fun vs H Q E h => ?_) (fun cdv A outer s H vs Q E hr h => ?_)
  · obtain ⟨t, b, rfl, _⟩ := h
    rfl
  · obtain ⟨t, b, rfl, t0, t1, b0, b1, k⟩ := h
    have hr2 : Room 2 _ := hr.mono (by decide)
    have hr3 : Room 3 _ := hr.mono (by decide)
    have hr4 : Room 4 _ := hr.mono (by decide)
    refine ⟨_, pss_cons (ps_set (i := 2) scRight.nd rfl (Or.inl rfl) (pe_make M GI hr3 (by rfl) T.mgC bI .nil pass0 (pa_cons (pv 0) (pa_cons (pv 1) pa_nil))))
      (pss_cons (ps_set (i := 3) scRight.nd rfl (Or.inl rfl) (pe_callTy (cr_strO GS ss sf bS (E := E0) pass0 hr4) (by rfl) hst (by decide +kernel) (pa_cons (pv 2) pa_nil)))
      (pss_cons (ps_for PassesOwn.never rfl (pi_range1 (by rfl) hrg (pa_cons pe_int pa_nil)) (pg_name (i := 4) scRight.nd rfl (Or.inl rfl))
        (pss_cons (ps_set (i := 5) scRight.nd rfl (Or.inl rfl) (pe_call GR hr (by rfl) cR.g cR.k cR.b .nil passL (pa_cons (pv 3) pa_nil)))
        (pss_one (ps_if (PW.pt (pw_or (pt_not (pt_val (pe_call GIs hr3 (by rfl) cI.g cI.k cI.b .nil pass0 (pa_cons (pv 5) (pa_cons (pv 0) (pa_cons (pv 1) pa_nil))))))
          (pw_or (pt_cmpR (op_neOwn GE O bE (E := E0) pass0 hr2) (pv 5) (pv 2) (nomark _)) (pw_or1 (pt_cmpR op_ne (pe_callTy (cr_strO GS ss sf bS (E := E0) pass0 hr4) (by rfl) hst (by decide +kernel) (pa_cons (pv 5) pa_nil)) (pv 3) (nomark _)))))) (pss_one (ps_ret pe_bl)) pss_nil))))
      (pss_one (ps_ret (pe_cmpR op_eq (pv 3) (pe_call GWr hr3 (by rfl) cW.g cW.k cW.b .nil pass0 (pa_cons (pv 0) (pa_cons (pv 1) pa_nil))) (nomark _)))))), ?_⟩
    have nw : Wn 41 t b := ⟨t0, b0, by show t.natAbs < 2199023255552; omega, by show b.natAbs < 2199023255552; omega⟩
    obtain ⟨l1, l2⟩ := low_low (t := t) b0
    have few : Few (lowT t b) (lowB t b) := by
      have h1 : lowT t b ≤ t := Int.ediv_le_self _ t0
      have h2 : lowB t b ≤ b := Int.ediv_le_self _ (Int.le_of_lt b0)
      exact ⟨by omega, by omega⟩
    refine ⟨_, rfl, _, rfl, ?_⟩
    intro x dx nx ndx ne
    refine ⟨x, dx, t, b, rfl, upd_same, t0, b0, nw.bz.mono (by decide), rfl, ?_⟩
    have s0 := same_make (C := C) (fs := wf (t / ((Int.gcd t b : Nat) : Int)) (b / ((Int.gcd t b : Nat) : Int))) nx ndx
    have hx : WAt C (upd (upd (upd H dx (.own x)) x (.ins C dx [])) x (.ins C dx (wf (t / ((Int.gcd t b : Nat) : Int)) (b / ((Int.gcd t b : Nat) : Int))))) x (lowT t b) (lowB t b) := ⟨dx, upd_same⟩
    refine ⟨_, rfl, x, dx, _, rfl, upd_same, x, _, _, rfl, hx, nw.low.mono (by decide), fun H1 s1 => ⟨_, rfl, ?_⟩⟩
    have hx1 := hx.same s1
    refine ⟨2, rfl, by decide, by decide, for_range (lo := 0) (n := 2) (fun i σ H2 => Same H1 H2 ∧ ∃ v4 v5, σ = [some (.int t), some (.int b), some (.ref x), some (.str (wS (lowT t b) (lowB t b))), v4, v5]) ?_ ?_ ?_⟩
    · exact ⟨Same.refl _, none, none, rfl⟩
    · rintro i σ H2 hi ⟨s2, v4, v5, rfl⟩
      refine ⟨_, rfl, _, _, rfl, nw.low.mono (by decide), l1, l2, fun _ y H3 s3 ny hy => ?_, fun z => absurd few z⟩
      have hx3 := (hx1.same s2).same s3
      refine ⟨_, rfl, _, rfl, _, rfl, y, t, b, rfl, t0, b0, nw.bz.mono (by decide), hy, fun H4 s4 => ⟨true, rfl, iteF ?_⟩⟩
      have hy4 := hy.same s4
      have hx4 := hx3.same s4
      obtain ⟨dy, hy0⟩ := id hy4
      obtain ⟨dx4, hx0⟩ := id hx4
      refine ⟨_, rfl, _, rfl, y, dy, _, .ref C, rfl, hy0, .base (.ins hx0 T.cl N.ha N.hn N.htk N.hm), by simp [PySem.W.notFirst], y, x, _, _, _, _, rfl, hy4, hx4, _, rfl, _, rfl, ?_⟩
      rw [decide_eq_true (show lowT t b = lowT t b ∧ lowB t b = lowB t b from ⟨rfl, rfl⟩)]
      refine iteF ?_
      refine ⟨_, rfl, y, dy, _, rfl, hy0, y, _, _, rfl, hy4, nw.low.mono (by decide), fun H5 s5 => ⟨_, rfl, ?_⟩⟩
      refine ⟨_, rfl, rfl, _, rfl, iteNS rfl ?_⟩
      exact ⟨((s2.trans s3).trans s4).trans s5, _, _, rfl⟩
    · rintro σ H2 ⟨s2, v4, v5, rfl⟩
      refine ⟨_, rfl, _, rfl, _, rfl, t, b, rfl, nw.mono (by decide), fun H3 s3 => ⟨rfl, ?_⟩⟩
      have e : decide (V.str (wS (lowT t b) (lowB t b)) = V.str (wS (lowT t b) (lowB t b))) = true := decide_eq_true rfl
      rw [e]
      exact k H3 (((s0.trans s1).trans s2).trans s3)
end
end K
namespace K
open PySem L2 Rp
/-! ### Weights of thirteen figures and more -/
theorem gcd_one {t b : Int} (h : ((Int.gcd t b : Nat) : Int) ∣ 1) : lowT t b = t ∧ lowB t b = b := by
  have e : ((Int.gcd t b : Nat) : Int) = 1 := Int.eq_one_of_dvd_one (by omega) h
  unfold lowT lowB
  rw [e, Int.ediv_one, Int.ediv_one]
  exact ⟨rfl, rfl⟩
theorem far1 {T : Int} (h : 1000000000000 ≤ T) : ¬ Few (lowT T 1) (lowB T 1) := by
  obtain ⟨e1, e2⟩ := gcd_one (t := T) (b := 1) (Int.gcd_dvd_right _ _)
  rw [e1, e2]
  exact fun z => by have := z.1; omega
theorem far2 {T : Int} (h : 1000000000000 ≤ T) : ¬ Few (lowT 1 T) (lowB 1 T) := by
  obtain ⟨e1, e2⟩ := gcd_one (t := 1) (b := T) (Int.gcd_dvd_left _ _)
  rw [e1, e2]
  exact fun z => by have := z.2; omega
theorem far3 {T : Int} (h : 1000000000000 ≤ T) : ¬ Few (lowT T (T + 1)) (lowB T (T + 1)) := by
  have d : ((Int.gcd T (T + 1) : Nat) : Int) ∣ 1 := by
    have := Int.dvd_sub (Int.gcd_dvd_right T (T + 1)) (Int.gcd_dvd_left T (T + 1))
    have e : T + 1 - T = 1 := by omega
    rwa [e] at this
  obtain ⟨e1, e2⟩ := gcd_one d
  rw [e1, e2]
  exact fun z => by have := z.1; omega
theorem far4 {T : Int} (h : 1000000000000 ≤ T) : ¬ Few (lowT (T * 1000000000) (7 * T + 1)) (lowB (T * 1000000000) (7 * T + 1)) := by
  intro z
  obtain ⟨n, rfl⟩ := Int.eq_ofNat_of_zero_le (show 0 ≤ T by omega)
  have hb : (0 : Int) < 7 * (n : Int) + 1 := by omega
  have eg : Int.gcd ((n : Int) * 1000000000) (7 * (n : Int) + 1) = Nat.gcd (n * 1000000000) (7 * n + 1) := by
    have e1 : ((n : Int) * 1000000000) = ((n * 1000000000 : Nat) : Int) := by omega
    have e2 : (7 * (n : Int) + 1) = ((7 * n + 1 : Nat) : Int) := by omega
    rw [e1, e2]
    exact Int.gcd_natCast_natCast _ _
  have d1 := Nat.gcd_dvd_left (n * 1000000000) (7 * n + 1)
  have d2 := Nat.gcd_dvd_right (n * 1000000000) (7 * n + 1)
  have cop : Nat.Coprime (Nat.gcd (n * 1000000000) (7 * n + 1)) n := by
    have a1 : Nat.gcd (Nat.gcd (n * 1000000000) (7 * n + 1)) n ∣ 7 * n + 1 := Nat.dvd_trans (Nat.gcd_dvd_left _ _) d2
    have a2 : Nat.gcd (Nat.gcd (n * 1000000000) (7 * n + 1)) n ∣ 7 * n := Nat.dvd_trans (Nat.gcd_dvd_right _ _) (Nat.dvd_mul_left _ _)
    exact Nat.dvd_one.mp ((Nat.dvd_add_right a2).mp a1)
  have d3 : Nat.gcd (n * 1000000000) (7 * n + 1) ∣ 1000000000 := Nat.Coprime.dvd_of_dvd_mul_left cop d1
  have le := Nat.le_of_dvd (by decide) d3
  obtain ⟨e1, _⟩ := low_mul (t := (n : Int) * 1000000000) hb
  rw [eg] at e1
  have z1 := z.1
  have hg : 0 < Nat.gcd (n * 1000000000) (7 * n + 1) := Nat.gcd_pos_of_pos_right _ (by omega)
  have m1 : lowT ((n : Int) * 1000000000) (7 * (n : Int) + 1) * ((Nat.gcd (n * 1000000000) (7 * n + 1) : Nat) : Int) < 1000000000000 * ((Nat.gcd (n * 1000000000) (7 * n + 1) : Nat) : Int) := Int.mul_lt_mul_of_pos_right z1 (by omega)
  rw [e1] at m1
  omega
/-- a pair to be read -/
def PairAt (H : Hp) (p : Addr) : Prop := ∃ t b : Int, H p = some (.tup [.int t, .int b]) ∧ 0 ≤ t ∧ t ≤ 999999999999 ∧ 0 < b ∧ b ≤ 999999999999
theorem PairAt.same {H H' : Hp} {p : Addr} (h : PairAt H p) (e : Same H H') : PairAt H' p := let ⟨t, b, h1, h2⟩ := h; ⟨t, b, e _ _ h1, h2⟩
theorem PairAt.fw {H H' : Hp} {p d : Addr} (h : PairAt H p) (dk : DeckAt H d) (f : Fw d H H') : PairAt H' p := by
  obtain ⟨t, b, h1, h2⟩ := h
  refine ⟨t, b, f.kp p _ (fun z => ?_) h1, h2⟩
  obtain ⟨_, _, _, h'⟩ := dk
  rw [z, h'] at h1
  cases h1
/-- a Weight whose text is not read -/
def Far (C : Addr) (H : Hp) (p : Addr) : Prop := ∃ t b : Int, WAt C H p t b ∧ Wn 200 t b ∧ lowT t b = t ∧ lowB t b = b ∧ ¬ Few t b
theorem Far.same {C : Addr} {H H' : Hp} {p : Addr} (h : Far C H p) (e : Same H H') : Far C H' p := let ⟨t, b, h1, h2⟩ := h; ⟨t, b, h1.same e, h2⟩
def spLaw (K : PySem.W.Frag) : Sp := fun vs H Q _ => ∃ (a : Addr) (ns : List Int), vs = [.ref a] ∧ SqL K H a (ns.map V.int) ∧ ns.length ≤ 63 ∧ ∀ H', Q (.bl true) H'
abbrev lawN : List Str := ["_law_script", "_law_kept", "_law_cell", "_law_deck_here", "_law_two_here", "_law_top", "_law_one"]
section
variable {P : Program} {w : World} {K : PySem.W.Frag} {mg : Str → Option Value} {base : Heap}
theorem scLaw : FnScope lawN ["_law_script"] (defScope sLaw) := ⟨rfl, rfl, rfl, by decide +kernel, rfl, by decide +kernel, by decide +kernel⟩
theorem ok_law {f C fW fI fS fDk fDr fTw fTe fR fF : Addr} {fd dI dS dDk dDr dTw dTe dR dF : FuncData} (F : Fun K "law" "law" sLaw f fd) (T : WTxt K mg C fW) (hst : mg "str" = none)
    (M : Mk K C fI) (GI : FnOk P w K mg base CX0 2 fI dI ["self", "top", "bottom"] (spInit C)) (bI : Binds K dI ["self", "top", "bottom"] []) {ds : List Value} (vd : Vals [V.int 1] ds) (bI1 : Binds K dI ["self", "top", "bottom"] ds)
    (GS : FnOk P w K mg base CX0 2 fS dS ["self"] (spStr C)) (ss : PySem.W.findIn K (.ref C) "__str__" = some (some (.ref fS))) (sf : PySem.W.isFn K (.ref fS) = true) (bS : Binds K dS ["self"] [])
    (cDk : Cl K mg "_law_deck" fDk dDk ["_law_cell"]) (GDk : FnOk P w K mg base CX0 1 fDk dDk ["_law_cell"] spDeck)
    (cDr : Cl K mg "_law_draw" fDr dDr ["_law_deck_here", "_law_most"]) (GDr : FnOk P w K mg base CX0 1 fDr dDr ["_law_deck_here", "_law_most"] spDraw)
    (cTw : Cl K mg "_law_two" fTw dTw ["_law_deck_here"]) (GTw : FnOk P w K mg base CX0 2 fTw dTw ["_law_deck_here"] spTwo)
    (cTe : Cl K mg "_law_twelve" fTe dTe ["_law_deck_here"]) (GTe : FnOk P w K mg base CX0 2 fTe dTe ["_law_deck_here"] spTwo)
    (cR : Cl K mg "_law_right" fR dR ["_law_top", "_law_bottom"]) (GR : FnOk P w K mg base CX0 6 fR dR ["_law_top", "_law_bottom"] spRight)
    (cF : Cl K mg "_law_refused" fF dF ["_law_text"]) (GF : FnOk P w K mg base CX0 6 fF dF ["_law_text"] spRefused) : FnOk P w K mg base CX0 7 f fd ["_law_script"] (spLaw K) := by
  refine F.ok scLaw (fun vs H Q E h => ?_) (fun cdv A outer s H vs Q E hr h => ?_)
  · obtain ⟨a, ns, rfl, _⟩ := h
    rfl
  · obtain ⟨a, ns, rfl, hS, hlen, k⟩ := h
    have hr1 : Room 1 _ := hr.mono (by decide)
    have hr2 : Room 2 _ := hr.mono (by decide)
    have hr3 : Room 3 _ := hr.mono (by decide)
    have hr4 : Room 4 _ := hr.mono (by decide)
    refine ⟨_, pss_cons (ps_set (i := 1) scLaw.nd rfl (Or.inl rfl) (pe_tup (pa_cons pe_int (pa_cons pe_int pa_nil))))
      (pss_cons (ps_for PassesOwn.never rfl (pi_list (pe_op op_cat (pe_slice sl_list (pv 0) po_none (po_some pe_int)) (pe_lst (pa_cons pe_int pa_nil)))) (pg_name (i := 2) scLaw.nd rfl (Or.inl rfl))
        (pss_cons (ps_set (i := 3) scLaw.nd rfl (Or.inl rfl) (pe_call GDk hr1 (by rfl) cDk.g cDk.k cDk.b .nil pass0 (pa_cons (pv 2) pa_nil)))
        (pss_cons (ps_for PassesOwn.never rfl (pi_list (pe_lst (pa_cons (pe_call GTw hr2 (by rfl) cTw.g cTw.k cTw.b .nil pass0 (pa_cons (pv 3) pa_nil)) (pa_cons (pe_call GTw hr2 (by rfl) cTw.g cTw.k cTw.b .nil pass0 (pa_cons (pv 3) pa_nil))
            (pa_cons (pe_call GTw hr2 (by rfl) cTw.g cTw.k cTw.b .nil pass0 (pa_cons (pv 3) pa_nil)) (pa_cons (pe_call GTe hr2 (by rfl) cTe.g cTe.k cTe.b .nil pass0 (pa_cons (pv 3) pa_nil)) pa_nil)))))) (pg_name (i := 4) scLaw.nd rfl (Or.inl rfl))
          (pss_cons (ps_if (PW.pt (pw_or (pt_not (pt_val (pe_call GR hr (by rfl) cR.g cR.k cR.b .nil pass0 (pa_cons (pe_ix ix_tup (pv 4) pe_int (fun _ _ => rfl)) (pa_cons (pe_ix ix_tup (pv 4) pe_int (fun _ _ => rfl)) pa_nil)))))
              (pw_or1 (pt_not (pt_val (pe_call GR hr (by rfl) cR.g cR.k cR.b .nil pass0 (pa_cons (pe_ix ix_tup (pv 1) pe_int (fun _ _ => rfl)) (pa_cons (pe_ix ix_tup (pv 1) pe_int (fun _ _ => rfl)) pa_nil)))))))) (pss_one (ps_ret pe_bl)) pss_nil)
          (pss_one (ps_set (i := 1) scLaw.nd rfl (Or.inl rfl) (pv 4)))))
        (pss_cons (ps_set (i := 5) scLaw.nd rfl (Or.inl rfl) (pe_op op_add (pe_op op_pow pe_int pe_int) (pe_call GDr hr1 (by rfl) cDr.g cDr.k cDr.b .nil pass0 (pa_cons (pv 3) (pa_cons (pe_op op_pow pe_int pe_int) pa_nil)))))
        (pss_one (ps_for PassesOwn.never rfl (pi_list (pe_lst (pa_cons (pe_make M GI hr3 (by rfl) T.mgC bI1 vd pass0 (pa_cons (pv 5) pa_nil)) (pa_cons (pe_make M GI hr3 (by rfl) T.mgC bI .nil pass0 (pa_cons pe_int (pa_cons (pv 5) pa_nil)))
            (pa_cons (pe_make M GI hr3 (by rfl) T.mgC bI .nil pass0 (pa_cons (pv 5) (pa_cons (pe_op op_add (pv 5) pe_int) pa_nil)))
            (pa_cons (pe_make M GI hr3 (by rfl) T.mgC bI .nil pass0 (pa_cons (pe_op op_mulW (pv 5) (pe_op op_pow pe_int pe_int)) (pa_cons (pe_op op_add (pe_op op_mulW pe_int (pv 5)) pe_int) pa_nil))) pa_nil)))))) (pg_name (i := 6) scLaw.nd rfl (Or.inl rfl))
          (pss_one (ps_if (pt_not (pt_val (pe_call GF hr (by rfl) cF.g cF.k cF.b .nil pass0 (pa_cons (pe_callTy (cr_strO GS ss sf bS (E := E0) pass0 hr4) (by rfl) hst (by decide +kernel) (pa_cons (pv 6) pa_nil)) pa_nil)))) (pss_one (ps_ret pe_bl)) pss_nil)))))))) 
      (pss_one (ps_ret pe_bl))), ?_⟩
    refine ⟨(by show 2 ≤ sizeLine; decide), fun kp0 hk0 => ?_⟩
    have sk := same_upd (o := .tup [.int 7, .int 2]) hk0
    refine ⟨_, rfl, 12, rfl, a, _, rfl, sk.seq hS, fun p1 h1 => ⟨(by show 1 ≤ sizeLine; decide), fun p2 h2 => ?_⟩⟩
    have n12 : p1 ≠ p2 := fun z => by rw [← z, upd_same] at h2; cases h2
    have hcut : (cutV (ns.map V.int) none (some 12)).length ≤ 63 := by
      have := cutV_length (ns.map V.int) none (some 12)
      rw [List.length_map] at this
      omega
    refine ⟨p1, p2, _, _, rfl, rfl, by rw [upd_ne n12]; exact upd_same, upd_same, ?_, fun p3 h3 => ?_⟩
    · have e : ([V.int 3] : List V).length = 1 := rfl
      rw [e]
      exact Nat.le_trans (Nat.add_le_add_right hcut 1) (by decide)
    have allz : ∀ (i : Nat) (x : V), (cutV (ns.map V.int) none (some 12) ++ [V.int 3])[i]? = some x → ∃ z, x = .int z := fun i x hx => by
      have hm := List.mem_of_getElem? hx
      rcases List.mem_append.mp hm with z | z
      · have z2 : x ∈ ns.map V.int := List.mem_of_mem_drop (List.mem_of_mem_take z)
        obtain ⟨n, _, e⟩ := List.mem_map.mp z2
        exact ⟨n, e.symm⟩
      · exact ⟨3, List.mem_singleton.mp z⟩
    have pk0 : PairAt (upd (upd (upd (upd H kp0 (.tup [V.int 7, .int 2])) p1 (.lst (cutV (ns.map V.int) none (some 12)))) p2 (.lst [V.int 3])) p3 (.lst (cutV (ns.map V.int) none (some 12) ++ [V.int 3]))) kp0 :=
      ⟨7, 2, (((same_upd h1).trans (same_upd h2)).trans (same_upd h3)) _ _ upd_same, by decide, by decide, by decide, by decide⟩
    generalize hH0 : upd (upd (upd (upd H kp0 (.tup [V.int 7, .int 2])) p1 (.lst (cutV (ns.map V.int) none (some 12)))) p2 (.lst [V.int 3])) p3 (.lst (cutV (ns.map V.int) none (some 12) ++ [V.int 3])) = H0 at *
    generalize hcs : cutV (ns.map V.int) none (some 12) ++ [V.int 3] = cs at *
    have hL0 : H0 p3 = some (.lst cs) := by rw [← hH0]; exact upd_same
    have pw : ∀ n : Int, 0 ≤ n → n ≤ 1000000 → CPow (10 : Int) n := fun n h1 h2 => ⟨h1, h2, by decide⟩
    have m6 : (10 : Int) ^ (6 : Int).toNat = 1000000 := by decide
    have m9 : (10 : Int) ^ (9 : Int).toNat = 1000000000 := by decide
    have m12 : (10 : Int) ^ (12 : Int).toNat = 1000000000000 := by decide
    refine ⟨p3, rfl, ⟨_, SqL.of hL0⟩, for_list (K := K) (a := p3) (xs := cs) (fun i σ H' => Same H0 H' ∧ ∃ kp v2 v3 v4 v5 v6, σ = [some (.ref a), some (.ref kp), v2, v3, v4, v5, v6] ∧ PairAt H' kp)
      ⟨Same.refl _, kp0, none, none, none, none, none, rfl, pk0⟩ (fun i σ H' _ ⟨e, _⟩ => e.seq (SqL.of hL0)) ?_ ?_⟩
    · rintro i x σ H' hx ⟨e0, kp, v2, v3, v4, v5, v6, rfl, pk⟩
      obtain ⟨z, rfl⟩ := allz i x hx
      refine ⟨_, rfl, z, rfl, fun d hd H1 d1 q1 => ?_⟩
      have e1 : Same H' H1 := fun y o hy => (q1 y (ne_of_none hy hd)).trans hy
      have pk1 := pk.same e1
      have keep : ∀ {Hx Hy : Hp} {p : Addr} {t b : Int}, Hx p = none → 0 ≤ t → t ≤ 999999999999 → 0 < b → b ≤ 999999999999 → Hy p = some (.tup [.int t, .int b]) → PairAt Hy p := fun _ t0 t1 b0 b1 h => ⟨_, _, h, t0, t1, b0, b1⟩
      refine ⟨_, rfl, d, rfl, d1, fun pa ta ba Ha a1 a2 a3 a4 a5 a6 da fa => ⟨_, rfl, d, rfl, da, fun pb tb bb Hb b1 b2 b3 b4 b5 b6 db fb => ⟨_, rfl, d, rfl, db, fun pc tc bc Hc c1 c2 c3 c4 c5 c6 dc fc => ⟨_, rfl, d, rfl, dc, fun pe te be He g1 g2 g3 g4 g5 g6 de fe => ⟨(by show 4 ≤ sizeLine; decide), fun l hl => ?_⟩⟩⟩⟩⟩
      have fl : Fw d He (upd He l (.lst [.ref pa, .ref pb, .ref pc, .ref pe])) := Fw.upd hl
      have dl := de.upd (o := .lst [.ref pa, .ref pb, .ref pc, .ref pe]) hl
      have Pa := (((keep a5 a1 a2 a3 a4 a6).fw da fb).fw db fc).fw dc fe |>.fw de fl
      have Pb := ((keep b5 b1 b2 b3 b4 b6).fw db fc).fw dc fe |>.fw de fl
      have Pc := (keep c5 c1 c2 c3 c4 c6).fw dc fe |>.fw de fl
      have Pe := (keep g5 g1 g2 g3 g4 g6).fw de fl
      have Pk := ((((pk1.fw d1 fa).fw da fb).fw db fc).fw dc fe).fw de fl
      have fall := (((fa.trans fb).trans fc).trans fe).trans fl
      have hd0 : H0 d = none := Fw.same (d := d) e0 d hd
      have s5 : Same H0 (upd He l (.lst [.ref pa, .ref pb, .ref pc, .ref pe])) := fun y o hy => fall.kp y o (ne_of_none hy hd0) (e1 _ _ (e0 _ _ hy))
      have hl5 : (upd He l (.lst [V.ref pa, .ref pb, .ref pc, .ref pe])) l = some (.lst [.ref pa, .ref pb, .ref pc, .ref pe]) := upd_same
      generalize hH5 : upd He l (.lst [V.ref pa, .ref pb, .ref pc, .ref pe]) = H5 at *
      refine ⟨l, rfl, ⟨_, SqL.of hl5⟩, for_list (K := K) (a := l) (xs := [.ref pa, .ref pb, .ref pc, .ref pe]) (fun i σ H2 => Same H5 H2 ∧ ∃ kp v4 v5 v6, σ = [some (.ref a), some (.ref kp), some (.int z), some (.ref d), v4, v5, v6] ∧ PairAt H2 kp) ?_ ?_ ?_ ?_⟩
      · exact ⟨Same.refl _, kp, v4, v5, v6, rfl, Pk⟩
      · exact fun i σ H2 _ ⟨e, _⟩ => e.seq (SqL.of hl5)
      · rintro i2 x2 σ H2 hx2 ⟨s2, kp, v4, v5, v6, rfl, pk2⟩
        obtain ⟨p, rfl, pp⟩ : ∃ p, x2 = .ref p ∧ PairAt H2 p := by
          match i2, hx2 with
          | 0, hx2 => cases hx2; exact ⟨pa, rfl, Pa.same s2⟩
          | 1, hx2 => cases hx2; exact ⟨pb, rfl, Pb.same s2⟩
          | 2, hx2 => cases hx2; exact ⟨pc, rfl, Pc.same s2⟩
          | 3, hx2 => cases hx2; exact ⟨pe, rfl, Pe.same s2⟩
        obtain ⟨t, b, hp, t0, t1, b0, b1⟩ := id pp
        refine ⟨_, rfl, p, _, 0, _, rfl, rfl, SqT.of hp, rfl, _, rfl, p, _, 1, _, rfl, rfl, SqT.of hp, rfl, t, b, rfl, t0, t1, b0, b1, fun H3 s3 => ⟨true, rfl, iteF ?_⟩⟩
        obtain ⟨u, e, hk, u0, u1, w0, w1⟩ := pk2.same s3
        refine ⟨_, rfl, kp, _, 0, _, rfl, rfl, SqT.of hk, rfl, _, rfl, kp, _, 1, _, rfl, rfl, SqT.of hk, rfl, u, e, rfl, u0, u1, w0, w1, fun H4 s4 => ⟨true, rfl, iteF ?_⟩⟩
        exact ⟨_, rfl, (s2.trans s3).trans s4, p, _, _, _, rfl, (pp.same s3).same s4⟩
      · rintro σ H2 ⟨s2, kp, v4, v5, v6, rfl, pk2⟩
        have d2 := dl.same s2
        refine ⟨_, _, rfl, rfl, pw _ (by decide) (by decide), _, rfl, _, _, rfl, rfl, pw _ (by decide) (by decide), d, _, rfl, by rw [m6]; decide, by rw [m6]; decide, d2, fun r r0 r1 H3 d3 e3 => ⟨_, _, rfl, rfl, ?_⟩⟩
        rw [m6] at r1
        have f3 := Fw.draw d3 e3
        have pk3 := pk2.fw d2 f3
        have s3 : Same H0 H3 := fun y o hy => f3.kp y o (ne_of_none hy hd0) (s2 _ _ (s5 _ _ hy))
        have eT : (10 : Int) ^ (12 : Int).toNat + r = 1000000000000 + r := by rw [m12]
        have T0 : (1000000000000 : Int) ≤ 1000000000000 + r := by omega
        have zT : Sz 41 (1000000000000 + r) := by show (1000000000000 + r).natAbs < 2199023255552; omega
        have zT1 : Sz 42 (1000000000000 + r + 1) := by show (1000000000000 + r + 1).natAbs < 4398046511104; omega
        have o1 : Sz 41 1 := by unfold Sz; decide
        have o9 : Sz 41 1000000000 := by unfold Sz; decide
        have o7 : Sz 41 7 := by unfold Sz; decide
        have z4 : Sz 82 ((1000000000000 + r) * 1000000000) := zT.mul o9
        have z5 : Sz 82 (7 * (1000000000000 + r)) := o7.mul zT
        have z6 : Sz 83 (7 * (1000000000000 + r) + 1) := z5.add (o1.mono (by decide))
        rw [m12]
        have Wt : ∀ {t b : Int}, Wn 150 t b → ¬ Few (lowT t b) (lowB t b) → ∀ {Hx : Hp} {x dx : Addr}, Hx x = none → Hx dx = none → Far C (upd (upd (upd Hx dx (.own x)) x (.ins C dx [])) x (.ins C dx (wf (lowT t b) (lowB t b)))) x := fun {t b} n nf {Hx x dx} _ _ =>
          let ⟨l1, l2⟩ := low_low (t := t) n.b0
          ⟨_, _, ⟨dx, upd_same⟩, n.low.mono (by decide), l1, l2, nf⟩
        refine ⟨_, rfl, ?_⟩
        intro xa da na nda nea
        refine ⟨xa, da, 1000000000000 + r, 1, rfl, upd_same, by omega, by decide, o1.mono (by decide), rfl, _, rfl, ?_⟩
        have ga := same_make (C := C) (fs := wf (lowT (1000000000000 + r) 1) (lowB (1000000000000 + r) 1)) na nda
        have Fa := Wt (t := 1000000000000 + r) (b := 1) ⟨by omega, by decide, zT.mono (by decide), o1.mono (by decide)⟩ (far1 T0) na nda
        intro xb db nb ndb neb
        refine ⟨xb, db, 1, 1000000000000 + r, rfl, upd_same, by decide, by omega, zT.mono (by decide), rfl, _, rfl, _, rfl, _, _, rfl, rfl, ?_⟩
        have gb := same_make (C := C) (fs := wf (lowT 1 (1000000000000 + r)) (lowB 1 (1000000000000 + r))) nb ndb
        have Fb := Wt (t := 1) (b := 1000000000000 + r) ⟨by decide, by omega, o1.mono (by decide), zT.mono (by decide)⟩ (far2 T0) nb ndb
        intro xc dc nc ndc nec
        refine ⟨xc, dc, 1000000000000 + r, 1000000000000 + r + 1, rfl, upd_same, by omega, by omega, zT1.mono (by decide), rfl, ?_⟩
        have gc := same_make (C := C) (fs := wf (lowT (1000000000000 + r) (1000000000000 + r + 1)) (lowB (1000000000000 + r) (1000000000000 + r + 1))) nc ndc
        have Fc := Wt (t := 1000000000000 + r) (b := 1000000000000 + r + 1) ⟨by omega, by omega, zT.mono (by decide), zT1.mono (by decide)⟩ (far3 T0) nc ndc
        refine ⟨_, rfl, _, _, rfl, rfl, pw _ (by decide) (by decide), ?_⟩
        refine ⟨_, 1000000000, rfl, congrArg V.int m9, zT.mulOk o9 (by decide) (by decide) (by decide), _, rfl, _, _, rfl, rfl, o7.mulOk zT (by decide) (by decide) (by decide), _, _, rfl, rfl, ?_⟩
        intro xd dd nd ndd ned
        refine ⟨xd, dd, (1000000000000 + r) * 1000000000, 7 * (1000000000000 + r) + 1, rfl, upd_same, by omega, by omega, z6.mono (by decide), rfl, ?_⟩
        have gd := same_make (C := C) (fs := wf (lowT ((1000000000000 + r) * 1000000000) (7 * (1000000000000 + r) + 1)) (lowB ((1000000000000 + r) * 1000000000) (7 * (1000000000000 + r) + 1))) nd ndd
        have Fd := Wt (t := (1000000000000 + r) * 1000000000) (b := 7 * (1000000000000 + r) + 1) ⟨by omega, by omega, z4.mono (by decide), z6.mono (by decide)⟩ (far4 T0) nd ndd
        refine ⟨(by show 4 ≤ sizeLine; decide), fun l2 hl2 => ?_⟩
        have ge := same_upd (o := .lst [.ref xa, .ref xb, .ref xc, .ref xd]) hl2
        have Fa' := (((Fa.same gb).same gc).same gd).same ge
        have Fb' := ((Fb.same gc).same gd).same ge
        have Fc' := (Fc.same gd).same ge
        have Fd' := Fd.same ge
        have gall := (((ga.trans gb).trans gc).trans gd).trans ge
        have pk4 := pk3.same gall
        have s4 := s3.trans gall
        refine ⟨l2, rfl, ⟨_, SqL.of upd_same⟩, for_list (K := K) (a := l2) (xs := [.ref xa, .ref xb, .ref xc, .ref xd]) (fun i σ H2 => (Same H0 H2 ∧ PairAt H2 kp ∧ Far C H2 xa ∧ Far C H2 xb ∧ Far C H2 xc ∧ Far C H2 xd ∧ H2 l2 = some (.lst [.ref xa, .ref xb, .ref xc, .ref xd])) ∧
          ∃ v4 v6, σ = [some (.ref a), some (.ref kp), some (.int z), some (.ref d), v4, some (.int (1000000000000 + r)), v6]) ?_ ?_ ?_ ?_⟩
        · exact ⟨⟨s4, pk4, Fa', Fb', Fc', Fd', upd_same⟩, v4, v6, rfl⟩
        · exact fun i σ H2 _ ⟨⟨_, _, _, _, _, _, e⟩, _⟩ => SqL.of e
        · rintro i3 x3 σ H6 hx3 ⟨⟨t1, t2, t3, t4, t5, t6, t7⟩, v4, v6, rfl⟩
          obtain ⟨p, rfl, fp⟩ : ∃ p, x3 = .ref p ∧ Far C H6 p := by
            match i3, hx3 with
            | 0, hx3 => cases hx3; exact ⟨xa, rfl, t3⟩
            | 1, hx3 => cases hx3; exact ⟨xb, rfl, t4⟩
            | 2, hx3 => cases hx3; exact ⟨xc, rfl, t5⟩
            | 3, hx3 => cases hx3; exact ⟨xd, rfl, t6⟩
          obtain ⟨t, b, hp, n1, l1, l2', nf⟩ := fp
          obtain ⟨dp, hp0⟩ := id hp
          refine ⟨_, rfl, p, dp, _, rfl, hp0, p, t, b, rfl, hp, n1.mono (by decide), fun H7 s7 => ⟨_, rfl, t, b, rfl, n1, l1, l2', nf, fun H8 s8 => ⟨true, rfl, iteF ?_⟩⟩⟩
          have s9 := s7.trans s8
          exact ⟨⟨t1.trans s9, t2.same s9, t3.same s9, t4.same s9, t5.same s9, t6.same s9, s9 _ _ t7⟩, _, _, rfl⟩
        · rintro σ H6 ⟨⟨t1, t2, _, _, _, _, _⟩, v4, v6, rfl⟩
          exact ⟨t1, kp, _, _, _, _, _, rfl, t2⟩
    · rintro σ H' ⟨e0, kp, v2, v3, v4, v5, v6, rfl, pk⟩
      exact k _
end
end K
namespace K
open PySem L2 Rp
theorem bindsI {K : PySem.W.Frag} {f : Addr} {fd : FuncData} (F : FunI K f fd) : Binds K fd ["self", "top", "bottom"] [] := by
  obtain ⟨ds, v, b⟩ := F.binds1 (ps := ["self", "top", "bottom"]) 3 1 (by simp) rfl fun T kV dc pm an cd ct us its hu hi => match us, its, hu, hi with | [_, _, _], [_], _, _ => ⟨_, rfl, rfl⟩
  cases v
  exact b
theorem bindsI1 {K : PySem.W.Frag} {f : Addr} {fd : FuncData} (F : FunI K f fd) : ∃ ds, Vals [V.int 1] ds ∧ Binds K fd ["self", "top", "bottom"] ds := by
  obtain ⟨ds, v, b⟩ := F.binds1 (ps := ["self", "top", "bottom"]) 2 0 (by simp) rfl fun T kV dc pm an cd ct us its hu hi => match us, its, hu, hi with | [_, _], [_], _, _ => ⟨_, rfl, rfl⟩
  exact ⟨ds, v, b⟩
theorem bindsX {K : PySem.W.Frag} {f : Addr} {fd : FuncData} (F : FunX K f fd) : Binds K fd ["self", "row"] [] := by
  obtain ⟨ds, v, b⟩ := F.binds1 (ps := ["self", "row"]) 2 1 (by simp) rfl fun T kV dc pm an cd ct us its hu hi => match us, its, hu, hi with | [_, _], [_], _, _ => ⟨_, rfl, rfl⟩
  cases v
  exact b
theorem all_mk {l : PySem.W.OpenLaw} {w : World} {K : PySem.W.Frag} {h : Heap} {mg : Str → Option Value} {fa C fI fE fS fMd fNl fNb fRd fSh fW fDk fDr fLW fDv fTw fLo fIs fWr fMa fRf fTe fRi fLaw S fU : Addr} (X : K.In h) (G : h.Ns mainGlobals mg) (hfa : mg "law" = some (.ref fa))
    {odI anI : Option Addr} {slI : Array (Option Value)} {ocI kVI dcI pmI cdI ctI : Value}
    {ocDI : Value} {odDI : Option Addr} {nDI : Nat} {slDI : Array (Option Value)} {tkDI : Tok} {DI : Addr}
    {odE anE : Option Addr} {slE : Array (Option Value)} {ocE kVE dcE pmE cdE ctE : Value}
    {odS anS : Option Addr} {slS : Array (Option Value)} {ocS kVS dcS pmS cdS ctS : Value}
    {odMd anMd : Option Addr} {slMd : Array (Option Value)} {ocMd kVMd dcMd pmMd cdMd ctMd : Value}
    {odNl anNl : Option Addr} {slNl : Array (Option Value)} {ocNl kVNl dcNl pmNl cdNl ctNl : Value}
    {odNb anNb : Option Addr} {slNb : Array (Option Value)} {ocNb kVNb dcNb pmNb cdNb ctNb : Value}
    {odRd anRd : Option Addr} {slRd : Array (Option Value)} {ocRd kVRd dcRd pmRd cdRd ctRd : Value}
    {odSh anSh : Option Addr} {slSh : Array (Option Value)} {ocSh kVSh dcSh pmSh cdSh ctSh : Value}
    {odW anW : Option Addr} {slW : Array (Option Value)} {ocW kVW dcW pmW cdW ctW : Value}
    {odDk anDk : Option Addr} {slDk : Array (Option Value)} {ocDk kVDk dcDk pmDk cdDk ctDk : Value}
    {odDr anDr : Option Addr} {slDr : Array (Option Value)} {ocDr kVDr dcDr pmDr cdDr ctDr : Value}
    {odLW anLW : Option Addr} {slLW : Array (Option Value)} {ocLW kVLW dcLW pmLW cdLW ctLW : Value}
    {odDv anDv : Option Addr} {slDv : Array (Option Value)} {ocDv kVDv dcDv pmDv cdDv ctDv : Value}
    {odTw anTw : Option Addr} {slTw : Array (Option Value)} {ocTw kVTw dcTw pmTw cdTw ctTw : Value}
    {odLo anLo : Option Addr} {slLo : Array (Option Value)} {ocLo kVLo dcLo pmLo cdLo ctLo : Value}
    {odIs anIs : Option Addr} {slIs : Array (Option Value)} {ocIs kVIs dcIs pmIs cdIs ctIs : Value}
    {odWr anWr : Option Addr} {slWr : Array (Option Value)} {ocWr kVWr dcWr pmWr cdWr ctWr : Value}
    {odMa anMa : Option Addr} {slMa : Array (Option Value)} {ocMa kVMa dcMa pmMa cdMa ctMa : Value}
    {odRf anRf : Option Addr} {slRf : Array (Option Value)} {ocRf kVRf dcRf pmRf cdRf ctRf : Value}
    {odTe anTe : Option Addr} {slTe : Array (Option Value)} {ocTe kVTe dcTe pmTe cdTe ctTe : Value}
    {odRi anRi : Option Addr} {slRi : Array (Option Value)} {ocRi kVRi dcRi pmRi cdRi ctRi : Value}
    {odLaw anLaw : Option Addr} {slLaw : Array (Option Value)} {ocLaw kVLaw dcLaw pmLaw cdLaw ctLaw : Value}
    {zB : Int} {tB : Tok} {zT : Str} {tT tM : Tok} {zM : Int}
    {nmS qS : Str} {NS : Addr} {bsS bmS : List Value} {snS : List Str} {sbS : List Value} {abS : Bool} {coS : Option Bool} {ddS : Option Addr} {e0S e1S e2S e3S e5S : Option Value}
    {odU anU : Option Addr} {slU : Array (Option Value)} {ocU kVU dcU pmU cdU ctU : Value} {ocDU : Value} {odDU : Option Addr} {nDU : Nat} {slDU : Array (Option Value)} {tkDU : Tok} {DU : Addr}
    {Xc1 Xc2 Xc3 Xc4 Xc5 Xc6 Xc8 Xc9 Xd1 Xd2 Xd3 Xd4 Xd5 Xk Xw : Addr}
    (aC : PySem.W.nsIn K mainGlobals "Weight" = some (some (.ref C)))
    (aI : PySem.W.findIn K (.ref C) "__init__" = some (some (.ref fI)))
    (iI : PySem.W.isFn K (.ref fI) = true)
    (lI : K.lookup fI = some ⟨ocI, odI, .func (PySem.W.fnOf "__init__" "Weight.__init__" (defArgs sInit) (defBody sInit) (defScope sInit) (.ref DI) kVI dcI pmI anI cdI ctI), slI⟩)
    (cI : PySem.W.codeIn K cdI "Weight.__init__" = true)
    (kI : PySem.W.keepIn K (.ref fI) = true)
    (lDI : K.lookup DI = some ⟨ocDI, odDI, .seq ([Value.int 1 tkDI] : List Value).toArray nDI, slDI⟩)
    (aE : PySem.W.findIn K (.ref C) "__eq__" = some (some (.ref fE)))
    (iE : PySem.W.isFn K (.ref fE) = true)
    (lE : K.lookup fE = some ⟨ocE, odE, .func (PySem.W.fnOf "__eq__" "Weight.__eq__" (defArgs sEq) (defBody sEq) (defScope sEq) .none kVE dcE pmE anE cdE ctE), slE⟩)
    (cE : PySem.W.codeIn K cdE "Weight.__eq__" = true)
    (kE : PySem.W.keepIn K (.ref fE) = true)
    (aS : PySem.W.findIn K (.ref C) "__str__" = some (some (.ref fS)))
    (iS : PySem.W.isFn K (.ref fS) = true)
    (lS : K.lookup fS = some ⟨ocS, odS, .func (PySem.W.fnOf "__str__" "Weight.__str__" (defArgs sStr) (defBody sStr) (defScope sStr) .none kVS dcS pmS anS cdS ctS), slS⟩)
    (cS : PySem.W.codeIn K cdS "Weight.__str__" = true)
    (kS : PySem.W.keepIn K (.ref fS) = true)
    (aMd : PySem.W.nsIn K mainGlobals "made_of" = some (some (.ref fMd)))
    (lMd : K.lookup fMd = some ⟨ocMd, odMd, .func (PySem.W.fnOf "made_of" "made_of" (defArgs sMade) (defBody sMade) (defScope sMade) .none kVMd dcMd pmMd anMd cdMd ctMd), slMd⟩)
    (cMd : PySem.W.codeIn K cdMd "made_of" = true)
    (kMd : PySem.W.keepIn K (.ref fMd) = true)
    (aNl : PySem.W.nsIn K mainGlobals "is_numeral" = some (some (.ref fNl)))
    (lNl : K.lookup fNl = some ⟨ocNl, odNl, .func (PySem.W.fnOf "is_numeral" "is_numeral" (defArgs sNumeral) (defBody sNumeral) (defScope sNumeral) .none kVNl dcNl pmNl anNl cdNl ctNl), slNl⟩)
    (cNl : PySem.W.codeIn K cdNl "is_numeral" = true)
    (kNl : PySem.W.keepIn K (.ref fNl) = true)
    (aNb : PySem.W.nsIn K mainGlobals "is_number" = some (some (.ref fNb)))
    (lNb : K.lookup fNb = some ⟨ocNb, odNb, .func (PySem.W.fnOf "is_number" "is_number" (defArgs sNumber) (defBody sNumber) (defScope sNumber) .none kVNb dcNb pmNb anNb cdNb ctNb), slNb⟩)
    (cNb : PySem.W.codeIn K cdNb "is_number" = true)
    (kNb : PySem.W.keepIn K (.ref fNb) = true)
    (aRd : PySem.W.nsIn K mainGlobals "read_weight" = some (some (.ref fRd)))
    (lRd : K.lookup fRd = some ⟨ocRd, odRd, .func (PySem.W.fnOf "read_weight" "read_weight" (defArgs sRead) (defBody sRead) (defScope sRead) .none kVRd dcRd pmRd anRd cdRd ctRd), slRd⟩)
    (cRd : PySem.W.codeIn K cdRd "read_weight" = true)
    (kRd : PySem.W.keepIn K (.ref fRd) = true)
    (aSh : PySem.W.nsIn K mainGlobals "show_whole" = some (some (.ref fSh)))
    (lSh : K.lookup fSh = some ⟨ocSh, odSh, .func (PySem.W.fnOf "show_whole" "show_whole" (defArgs sShow) (defBody sShow) (defScope sShow) .none kVSh dcSh pmSh anSh cdSh ctSh), slSh⟩)
    (cSh : PySem.W.codeIn K cdSh "show_whole" = true)
    (kSh : PySem.W.keepIn K (.ref fSh) = true)
    (aW : PySem.W.nsIn K mainGlobals "is_whole" = some (some (.ref fW)))
    (lW : K.lookup fW = some ⟨ocW, odW, .func (PySem.W.fnOf "is_whole" "is_whole" (defArgs sWhole) (defBody sWhole) (defScope sWhole) .none kVW dcW pmW anW cdW ctW), slW⟩)
    (cW : PySem.W.codeIn K cdW "is_whole" = true)
    (kW : PySem.W.keepIn K (.ref fW) = true)
    (aDk : PySem.W.nsIn K mainGlobals "_law_deck" = some (some (.ref fDk)))
    (lDk : K.lookup fDk = some ⟨ocDk, odDk, .func (PySem.W.fnOf "_law_deck" "_law_deck" (defArgs sDeck) (defBody sDeck) (defScope sDeck) .none kVDk dcDk pmDk anDk cdDk ctDk), slDk⟩)
    (cDk : PySem.W.codeIn K cdDk "_law_deck" = true)
    (kDk : PySem.W.keepIn K (.ref fDk) = true)
    (aDr : PySem.W.nsIn K mainGlobals "_law_draw" = some (some (.ref fDr)))
    (lDr : K.lookup fDr = some ⟨ocDr, odDr, .func (PySem.W.fnOf "_law_draw" "_law_draw" (defArgs sDraw) (defBody sDraw) (defScope sDraw) .none kVDr dcDr pmDr anDr cdDr ctDr), slDr⟩)
    (cDr : PySem.W.codeIn K cdDr "_law_draw" = true)
    (kDr : PySem.W.keepIn K (.ref fDr) = true)
    (aLW : PySem.W.nsIn K mainGlobals "_law_whole" = some (some (.ref fLW)))
    (lLW : K.lookup fLW = some ⟨ocLW, odLW, .func (PySem.W.fnOf "_law_whole" "_law_whole" (defArgs sLWhole) (defBody sLWhole) (defScope sLWhole) .none kVLW dcLW pmLW anLW cdLW ctLW), slLW⟩)
    (cLW : PySem.W.codeIn K cdLW "_law_whole" = true)
    (kLW : PySem.W.keepIn K (.ref fLW) = true)
    (aDv : PySem.W.nsIn K mainGlobals "_law_divides" = some (some (.ref fDv)))
    (lDv : K.lookup fDv = some ⟨ocDv, odDv, .func (PySem.W.fnOf "_law_divides" "_law_divides" (defArgs sDiv) (defBody sDiv) (defScope sDiv) .none kVDv dcDv pmDv anDv cdDv ctDv), slDv⟩)
    (cDv : PySem.W.codeIn K cdDv "_law_divides" = true)
    (kDv : PySem.W.keepIn K (.ref fDv) = true)
    (aTw : PySem.W.nsIn K mainGlobals "_law_two" = some (some (.ref fTw)))
    (lTw : K.lookup fTw = some ⟨ocTw, odTw, .func (PySem.W.fnOf "_law_two" "_law_two" (defArgs sTwo) (defBody sTwo) (defScope sTwo) .none kVTw dcTw pmTw anTw cdTw ctTw), slTw⟩)
    (cTw : PySem.W.codeIn K cdTw "_law_two" = true)
    (kTw : PySem.W.keepIn K (.ref fTw) = true)
    (aLo : PySem.W.nsIn K mainGlobals "_law_lowest" = some (some (.ref fLo)))
    (lLo : K.lookup fLo = some ⟨ocLo, odLo, .func (PySem.W.fnOf "_law_lowest" "_law_lowest" (defArgs sLow) (defBody sLow) (defScope sLow) .none kVLo dcLo pmLo anLo cdLo ctLo), slLo⟩)
    (cLo : PySem.W.codeIn K cdLo "_law_lowest" = true)
    (kLo : PySem.W.keepIn K (.ref fLo) = true)
    (aIs : PySem.W.nsIn K mainGlobals "_law_is" = some (some (.ref fIs)))
    (lIs : K.lookup fIs = some ⟨ocIs, odIs, .func (PySem.W.fnOf "_law_is" "_law_is" (defArgs sIs) (defBody sIs) (defScope sIs) .none kVIs dcIs pmIs anIs cdIs ctIs), slIs⟩)
    (cIs : PySem.W.codeIn K cdIs "_law_is" = true)
    (kIs : PySem.W.keepIn K (.ref fIs) = true)
    (aWr : PySem.W.nsIn K mainGlobals "_law_written" = some (some (.ref fWr)))
    (lWr : K.lookup fWr = some ⟨ocWr, odWr, .func (PySem.W.fnOf "_law_written" "_law_written" (defArgs sWritten) (defBody sWritten) (defScope sWritten) .none kVWr dcWr pmWr anWr cdWr ctWr), slWr⟩)
    (cWr : PySem.W.codeIn K cdWr "_law_written" = true)
    (kWr : PySem.W.keepIn K (.ref fWr) = true)
    (aMa : PySem.W.nsIn K mainGlobals "_law_marks_of" = some (some (.ref fMa)))
    (lMa : K.lookup fMa = some ⟨ocMa, odMa, .func (PySem.W.fnOf "_law_marks_of" "_law_marks_of" (defArgs sMarks) (defBody sMarks) (defScope sMarks) .none kVMa dcMa pmMa anMa cdMa ctMa), slMa⟩)
    (cMa : PySem.W.codeIn K cdMa "_law_marks_of" = true)
    (kMa : PySem.W.keepIn K (.ref fMa) = true)
    (aRf : PySem.W.nsIn K mainGlobals "_law_refused" = some (some (.ref fRf)))
    (lRf : K.lookup fRf = some ⟨ocRf, odRf, .func (PySem.W.fnOf "_law_refused" "_law_refused" (defArgs sRefused) (defBody sRefused) (defScope sRefused) .none kVRf dcRf pmRf anRf cdRf ctRf), slRf⟩)
    (cRf : PySem.W.codeIn K cdRf "_law_refused" = true)
    (kRf : PySem.W.keepIn K (.ref fRf) = true)
    (aTe : PySem.W.nsIn K mainGlobals "_law_twelve" = some (some (.ref fTe)))
    (lTe : K.lookup fTe = some ⟨ocTe, odTe, .func (PySem.W.fnOf "_law_twelve" "_law_twelve" (defArgs sTwelve) (defBody sTwelve) (defScope sTwelve) .none kVTe dcTe pmTe anTe cdTe ctTe), slTe⟩)
    (cTe : PySem.W.codeIn K cdTe "_law_twelve" = true)
    (kTe : PySem.W.keepIn K (.ref fTe) = true)
    (aRi : PySem.W.nsIn K mainGlobals "_law_right" = some (some (.ref fRi)))
    (lRi : K.lookup fRi = some ⟨ocRi, odRi, .func (PySem.W.fnOf "_law_right" "_law_right" (defArgs sRight) (defBody sRight) (defScope sRight) .none kVRi dcRi pmRi anRi cdRi ctRi), slRi⟩)
    (cRi : PySem.W.codeIn K cdRi "_law_right" = true)
    (kRi : PySem.W.keepIn K (.ref fRi) = true)
    (aLaw : PySem.W.nsIn K mainGlobals "law" = some (some (.ref fLaw)))
    (lLaw : K.lookup fLaw = some ⟨ocLaw, odLaw, .func (PySem.W.fnOf "law" "law" (defArgs sLaw) (defBody sLaw) (defScope sLaw) .none kVLaw dcLaw pmLaw anLaw cdLaw ctLaw), slLaw⟩)
    (cLaw : PySem.W.codeIn K cdLaw "law" = true)
    (kLaw : PySem.W.keepIn K (.ref fLaw) = true)
    (pg : PySem.W.plainGet K C Str.empty = true)
    (hd : PySem.W.hasDictIn K C = true)
    (po : PySem.W.plainOver K C = true)
    (sa : PySem.W.findIn K (.ref C) "__setattr__" = some (some (.builtin "object.__setattr__")))
    (mk : PySem.W.makesIn K C = true)
    (kc : PySem.W.keepIn K (.ref C) = true)
    (nT' : PySem.W.findIn K (.ref C) "top" = some none)
    (nB' : PySem.W.findIn K (.ref C) "bottom" = some none)
    (wa : PySem.W.findIn K (.ref C) "__class__" = some (some (.builtin "object.__class__")))
    (wn : PySem.W.specialIn K (.builtin "object.__class__") "__get__" = some (some (.builtin "getset_descriptor.__get__")))
    (wt : PySem.W.takesIn K (.builtin "object.__class__") = some true)
    (wm : PySem.W.mroIn K C (.type "object") = some true)
    (wne : PySem.W.findIn K (.ref C) "__ne__" = some (some (.builtin "object.__ne__")))
    (gcd : PySem.W.nsIn K mainGlobals "gcd" = some (some (.builtin "math.gcd")))
    (blk : PySem.W.nsIn K mainGlobals "BLOCK" = some (some (.int zB tB)))
    (big : (2 : Int) ^ 1600 ≤ zB)
    (gT : PySem.W.nsIn K mainGlobals "TENS" = some (some (.str zT tT)))
    (eT : zT = TENS)
    (gM : PySem.W.nsIn K mainGlobals "MOST_FIGURES" = some (some (.int zM tM)))
    (eM : zM = 12)
    (aSS : PySem.W.nsIn K mainGlobals "NoText" = some (some (.ref S)))
    (xS : K.lookup S = some (excClassObj nmS qS S NS bsS bmS true snS sbS abS coS ddS e0S e1S e2S e3S e5S "ValueError.__new__"))
    (bS : PySem.HandSPX.refsVE bmS = true)
    (saS : PySem.W.findIn K (.ref S) "__setattr__" = some (some (.builtin "object.__setattr__")))
    (exS : PySem.W.subIn K (.ref S) (.type "BaseException") = some true)
    (tyS : PySem.W.typeIn K (.ref S) = some (.type "type"))
    (kSS : PySem.W.keepIn K (.ref S) = true)
    (iSS : PySem.W.findIn K (.ref S) "__init__" = some (some (.ref fU)))
    (tU : PySem.W.typeIn K (.ref fU) = some (.type "function"))
    (nS : PySem.W.findIn K (.ref S) "row" = some none)
    (gaS : PySem.W.findIn K (.ref S) "__getattribute__" = some (some (.builtin "BaseException.__getattribute__")))
    (ggS : PySem.W.findIn K (.ref S) "__getattr__" = some none)
    (hdS : PySem.W.hasDictIn K S = true)
    (waS : PySem.W.findIn K (.ref S) "__class__" = some (some (.builtin "object.__class__")))
    (wmS : PySem.W.mroIn K S (.type "object") = some true)
    (lU : K.lookup fU = some ⟨ocU, odU, .func (PySem.W.fnOf "__init__" "NoText.__init__" (defArgs sTxI) (defBody sTxI) (defScope sTxI) (.ref DU) kVU dcU pmU anU cdU ctU), slU⟩)
    (cU : PySem.W.codeIn K cdU "NoText.__init__" = true)
    (kU : PySem.W.keepIn K (.ref fU) = true)
    (lDU : K.lookup DU = some ⟨ocDU, odDU, .seq ([Value.int 0 tkDU] : List Value).toArray nDU, slDU⟩)
    (g_c1 : PySem.W.nsIn K mainGlobals "NoName" = some (some (.ref Xc1)))
    (q_c1 : PySem.W.kitOne K (.ref S) (.ref Xc1) = some false)
    (g_c2 : PySem.W.nsIn K mainGlobals "NoGrains" = some (some (.ref Xc2)))
    (q_c2 : PySem.W.kitOne K (.ref S) (.ref Xc2) = some false)
    (g_c3 : PySem.W.nsIn K mainGlobals "NoDay" = some (some (.ref Xc3)))
    (q_c3 : PySem.W.kitOne K (.ref S) (.ref Xc3) = some false)
    (g_c4 : PySem.W.nsIn K mainGlobals "NoWeight" = some (some (.ref Xc4)))
    (q_c4 : PySem.W.kitOne K (.ref S) (.ref Xc4) = some false)
    (g_c5 : PySem.W.nsIn K mainGlobals "NoDeed" = some (some (.ref Xc5)))
    (q_c5 : PySem.W.kitOne K (.ref S) (.ref Xc5) = some false)
    (g_c6 : PySem.W.nsIn K mainGlobals "NoRow" = some (some (.ref Xc6)))
    (q_c6 : PySem.W.kitOne K (.ref S) (.ref Xc6) = some false)
    (g_c8 : PySem.W.nsIn K mainGlobals "Unknown" = some (some (.ref Xc8)))
    (q_c8 : PySem.W.kitOne K (.ref S) (.ref Xc8) = some false)
    (g_c9 : PySem.W.nsIn K mainGlobals "Unborne" = some (some (.ref Xc9)))
    (q_c9 : PySem.W.kitOne K (.ref S) (.ref Xc9) = some false)
    (g_d1 : PySem.W.nsIn K mainGlobals "Twice" = some (some (.ref Xd1)))
    (q_d1 : PySem.W.kitOne K (.ref S) (.ref Xd1) = some false)
    (g_d2 : PySem.W.nsIn K mainGlobals "TooLate" = some (some (.ref Xd2)))
    (q_d2 : PySem.W.kitOne K (.ref S) (.ref Xd2) = some false)
    (g_d3 : PySem.W.nsIn K mainGlobals "NoSum" = some (some (.ref Xd3)))
    (q_d3 : PySem.W.kitOne K (.ref S) (.ref Xd3) = some false)
    (g_d4 : PySem.W.nsIn K mainGlobals "Full" = some (some (.ref Xd4)))
    (q_d4 : PySem.W.kitOne K (.ref S) (.ref Xd4) = some false)
    (g_d5 : PySem.W.nsIn K mainGlobals "NotAlike" = some (some (.ref Xd5)))
    (q_d5 : PySem.W.kitOne K (.ref S) (.ref Xd5) = some false)
    (g_k : PySem.W.nsIn K mainGlobals "CaskError" = some (some (.ref Xk)))
    (q_k : PySem.W.kitOne K (.ref S) (.ref Xk) = some true)
    (g_w : PySem.W.nsIn K mainGlobals "Wrong" = some (some (.ref Xw)))
    (q_w : PySem.W.kitOne K (.ref S) (.ref Xw) = some true)
    (q_v : PySem.W.kitOne K (.ref S) (.type "ValueError") = some true)
    (kx1 : PySem.W.subIn K (.ref Xk) (.type "BaseException") = some true)
    (kx2 : PySem.W.hasDictIn K Xk = true)
    (kx3 : PySem.W.typeIn K (.ref Xk) = some (.type "type"))
    (kx4 : PySem.W.subIn K (.ref S) (.ref Xk) = some true)
    (z_isinstance : PySem.W.nsIn K mainGlobals "isinstance" = some none)
    (z_int : PySem.W.nsIn K mainGlobals "int" = some none)
    (z_bool : PySem.W.nsIn K mainGlobals "bool" = some none)
    (z_abs : PySem.W.nsIn K mainGlobals "abs" = some none)
    (z_max : PySem.W.nsIn K mainGlobals "max" = some none)
    (z_range : PySem.W.nsIn K mainGlobals "range" = some none)
    (z_str : PySem.W.nsIn K mainGlobals "str" = some none)
    (z_reversed : PySem.W.nsIn K mainGlobals "reversed" = some none)
    (z_repr : PySem.W.nsIn K mainGlobals "repr" = some none)
    (z_ValueError : PySem.W.nsIn K mainGlobals "ValueError" = some none)
    (z_len : PySem.W.nsIn K mainGlobals "len" = some none)
    (z_all : PySem.W.nsIn K mainGlobals "all" = some none) :
    ∃ fd : FuncData, (∀ (s : Shared) (v : Value), BindsTo s fd ⟨[v], []⟩ [("_law_script", v)]) ∧ ∀ base : Heap, K.In base → base.Ns mainGlobals mg → FnG l.prog w K mg base CX0 7 fa fd ["_law_script"] (spLaw K) := by
  have e := hfa.symm.trans (PySem.W.mg_of X G aLaw)
  cases e
  have T : WTxt K mg C fW := ⟨⟨pg, hd, po, sa⟩, nT', nB', PySem.W.mg_of X G aC, PySem.W.mg_of X G aW, kW, PySem.W.mg_of X G gcd⟩
  have N : WIns K C := ⟨wa, wn, wt, wm⟩
  have B : Blt mg := ⟨PySem.W.mg_none_of X G z_isinstance, PySem.W.mg_none_of X G z_int, PySem.W.mg_none_of X G z_bool⟩
  have ZO : OexC K S := ⟨⟨nmS, qS, NS, bsS, bmS, snS, sbS, abS, coS, ddS, e0S, e1S, e2S, e3S, e5S, xS, bS⟩, saS, exS, tyS, kSS⟩
  have ZS : STxt K mg S fU := ⟨PySem.W.mg_of X G aSS, ZO, iSS, tU, nS⟩
  have MT : MTxt K mg S := ⟨⟨gaS, ggS, exS, hdS, waS, wn, wt, wmS⟩, PySem.W.mg_none_of X G z_isinstance, ⟨_, PySem.W.mg_of X G g_c1, q_c1⟩, ⟨_, PySem.W.mg_of X G g_c2, q_c2⟩, ⟨_, PySem.W.mg_of X G g_c3, q_c3⟩, ⟨_, PySem.W.mg_of X G g_c4, q_c4⟩, ⟨_, PySem.W.mg_of X G g_c5, q_c5⟩, ⟨_, PySem.W.mg_of X G g_c6, q_c6⟩, ⟨S, PySem.W.mg_of X G aSS, kit_self⟩, ⟨_, PySem.W.mg_of X G g_c8, q_c8⟩, ⟨_, PySem.W.mg_of X G g_c9, q_c9⟩, ⟨_, PySem.W.mg_of X G g_d1, q_d1⟩, ⟨_, PySem.W.mg_of X G g_d2, q_d2⟩, ⟨_, PySem.W.mg_of X G g_d3, q_d3⟩, ⟨_, PySem.W.mg_of X G g_d4, q_d4⟩, ⟨_, PySem.W.mg_of X G g_d5, q_d5⟩, ⟨_, PySem.W.mg_of X G g_k, q_k⟩, ⟨_, PySem.W.mg_of X G g_w, q_w⟩, PySem.W.mg_none_of X G z_ValueError, q_v⟩
  have O : OwnE K C fE := ⟨aE, iE, wne, wm⟩
  have FI : FunI K fI _ := ⟨⟨_, _, _, _, _, _, _, _, _, _, rfl, lI, cI, .inr ⟨by simp, DI, _, [Value.int 1 tkDI], _, rfl, lDI, rfl, .cons ⟨_, rfl⟩ .nil⟩, .inl rfl⟩, kI⟩
  have FU : FunX K fU _ := ⟨⟨_, _, _, _, _, _, _, _, _, _, rfl, lU, cU, .inr ⟨by simp, DU, _, [Value.int 0 tkDU], _, rfl, lDU, rfl, .cons ⟨_, rfl⟩ .nil⟩, .inl rfl⟩, kU⟩
  have FE := fun_mk (st := sEq) lE cE kE
  have bEm := FE.binds (ps := ["self", "other"]) fun _ _ _ _ _ _ us hl => match us, hl with | [_, _], _ => rfl
  have FS := fun_mk (st := sStr) lS cS kS
  have bSm := FS.binds (ps := ["self"]) fun _ _ _ _ _ _ us hl => match us, hl with | [_], _ => rfl
  have FMd := fun_mk (st := sMade) lMd cMd kMd
  have qMd : Cl K mg "made_of" fMd _ _ := ⟨PySem.W.mg_of X G aMd, kMd, FMd.binds (ps := ["text", "signs"]) fun _ _ _ _ _ _ us hl => match us, hl with | [_, _], _ => rfl⟩
  have FNl := fun_mk (st := sNumeral) lNl cNl kNl
  have qNl : Cl K mg "is_numeral" fNl _ _ := ⟨PySem.W.mg_of X G aNl, kNl, FNl.binds (ps := ["text", "signs", "most"]) fun _ _ _ _ _ _ us hl => match us, hl with | [_, _, _], _ => rfl⟩
  have FNb := fun_mk (st := sNumber) lNb cNb kNb
  have qNb : Cl K mg "is_number" fNb _ _ := ⟨PySem.W.mg_of X G aNb, kNb, FNb.binds (ps := ["text"]) fun _ _ _ _ _ _ us hl => match us, hl with | [_], _ => rfl⟩
  have FRd := fun_mk (st := sRead) lRd cRd kRd
  have qRd : Cl K mg "read_weight" fRd _ _ := ⟨PySem.W.mg_of X G aRd, kRd, FRd.binds (ps := ["text"]) fun _ _ _ _ _ _ us hl => match us, hl with | [_], _ => rfl⟩
  have FSh := fun_mk (st := sShow) lSh cSh kSh
  have qSh : Cl K mg "show_whole" fSh _ _ := ⟨PySem.W.mg_of X G aSh, kSh, FSh.binds (ps := ["number"]) fun _ _ _ _ _ _ us hl => match us, hl with | [_], _ => rfl⟩
  have FW := fun_mk (st := sWhole) lW cW kW
  have qW : Cl K mg "is_whole" fW _ _ := ⟨PySem.W.mg_of X G aW, kW, FW.binds (ps := ["thing"]) fun _ _ _ _ _ _ us hl => match us, hl with | [_], _ => rfl⟩
  have FDk := fun_mk (st := sDeck) lDk cDk kDk
  have qDk : Cl K mg "_law_deck" fDk _ _ := ⟨PySem.W.mg_of X G aDk, kDk, FDk.binds (ps := ["_law_cell"]) fun _ _ _ _ _ _ us hl => match us, hl with | [_], _ => rfl⟩
  have FDr := fun_mk (st := sDraw) lDr cDr kDr
  have qDr : Cl K mg "_law_draw" fDr _ _ := ⟨PySem.W.mg_of X G aDr, kDr, FDr.binds (ps := ["_law_deck_here", "_law_most"]) fun _ _ _ _ _ _ us hl => match us, hl with | [_, _], _ => rfl⟩
  have FLW := fun_mk (st := sLWhole) lLW cLW kLW
  have qLW : Cl K mg "_law_whole" fLW _ _ := ⟨PySem.W.mg_of X G aLW, kLW, FLW.binds (ps := ["_law_thing"]) fun _ _ _ _ _ _ us hl => match us, hl with | [_], _ => rfl⟩
  have FDv := fun_mk (st := sDiv) lDv cDv kDv
  have qDv : Cl K mg "_law_divides" fDv _ _ := ⟨PySem.W.mg_of X G aDv, kDv, FDv.binds (ps := ["_law_one", "_law_other"]) fun _ _ _ _ _ _ us hl => match us, hl with | [_, _], _ => rfl⟩
  have FTw := fun_mk (st := sTwo) lTw cTw kTw
  have qTw : Cl K mg "_law_two" fTw _ _ := ⟨PySem.W.mg_of X G aTw, kTw, FTw.binds (ps := ["_law_deck_here"]) fun _ _ _ _ _ _ us hl => match us, hl with | [_], _ => rfl⟩
  have FLo := fun_mk (st := sLow) lLo cLo kLo
  have qLo : Cl K mg "_law_lowest" fLo _ _ := ⟨PySem.W.mg_of X G aLo, kLo, FLo.binds (ps := ["_law_top", "_law_bottom"]) fun _ _ _ _ _ _ us hl => match us, hl with | [_, _], _ => rfl⟩
  have FIs := fun_mk (st := sIs) lIs cIs kIs
  have qIs : Cl K mg "_law_is" fIs _ _ := ⟨PySem.W.mg_of X G aIs, kIs, FIs.binds (ps := ["_law_found", "_law_top", "_law_bottom"]) fun _ _ _ _ _ _ us hl => match us, hl with | [_, _, _], _ => rfl⟩
  have FWr := fun_mk (st := sWritten) lWr cWr kWr
  have qWr : Cl K mg "_law_written" fWr _ _ := ⟨PySem.W.mg_of X G aWr, kWr, FWr.binds (ps := ["_law_top", "_law_bottom"]) fun _ _ _ _ _ _ us hl => match us, hl with | [_, _], _ => rfl⟩
  have FMa := fun_mk (st := sMarks) lMa cMa kMa
  have qMa : Cl K mg "_law_marks_of" fMa _ _ := ⟨PySem.W.mg_of X G aMa, kMa, FMa.binds (ps := ["_law_e", "_law_right_here"]) fun _ _ _ _ _ _ us hl => match us, hl with | [_, _], _ => rfl⟩
  have FRf := fun_mk (st := sRefused) lRf cRf kRf
  have qRf : Cl K mg "_law_refused" fRf _ _ := ⟨PySem.W.mg_of X G aRf, kRf, FRf.binds (ps := ["_law_text"]) fun _ _ _ _ _ _ us hl => match us, hl with | [_], _ => rfl⟩
  have FTe := fun_mk (st := sTwelve) lTe cTe kTe
  have qTe : Cl K mg "_law_twelve" fTe _ _ := ⟨PySem.W.mg_of X G aTe, kTe, FTe.binds (ps := ["_law_deck_here"]) fun _ _ _ _ _ _ us hl => match us, hl with | [_], _ => rfl⟩
  have FRi := fun_mk (st := sRight) lRi cRi kRi
  have qRi : Cl K mg "_law_right" fRi _ _ := ⟨PySem.W.mg_of X G aRi, kRi, FRi.binds (ps := ["_law_top", "_law_bottom"]) fun _ _ _ _ _ _ us hl => match us, hl with | [_, _], _ => rfl⟩
  have FLaw := fun_mk (st := sLaw) lLaw cLaw kLaw
  refine ⟨PySem.W.fnOf "law" "law" (defArgs sLaw) (defBody sLaw) (defScope sLaw) .none kVLaw dcLaw pmLaw anLaw cdLaw ctLaw, fun s v => .of_eq rfl, fun base _ _ => ?_⟩
  have M : Mk K C fI := ⟨mk, aI, iI, kc⟩
  have GW := ok_whole (P := l.prog) (w := w) (base := base) FW B
  have GLW := ok_lwhole (P := l.prog) (w := w) (base := base) FLW B
  have GI := ok_init FI T GW qW.b
  obtain ⟨ds, vd, b1⟩ := bindsI1 FI
  have GSh := ok_show (P := l.prog) (w := w) (mg := mg) (base := base) FSh (PySem.W.mg_none_of X G z_str) (PySem.W.mg_none_of X G z_reversed) (PySem.W.mg_of X G blk) big
  have GS := ok_str FS T qSh GSh
  have GE := ok_eq (P := l.prog) (w := w) (base := base) FE T B N
  have GMd := ok_made (P := l.prog) (w := w) (mg := mg) (base := base) FMd (PySem.W.mg_none_of X G z_all)
  have GNl := ok_numeral FNl (PySem.W.mg_none_of X G z_len) qMd GMd
  have GNb := ok_number FNb qNl GNl (PySem.W.mg_of X G gT) eT (PySem.W.mg_of X G gM) eM
  have GU := ok_txI (P := l.prog) (w := w) (base := base) FU ZS
  have GRd := ok_read FRd T B (PySem.W.mg_none_of X G z_str) M GI (bindsI FI) qNb GNb GS aS iS bSm ZS GU (bindsX FU)
  have GDk := ok_deck (P := l.prog) (w := w) (mg := mg) (base := base) FDk B
  have GDr := ok_draw (P := l.prog) (w := w) (mg := mg) (base := base) FDr
  have GDv := ok_div (P := l.prog) (w := w) (mg := mg) (base := base) FDv (PySem.W.mg_none_of X G z_abs)
  have GTw := ok_two FTw (PySem.W.mg_none_of X G z_max) (PySem.W.mg_none_of X G z_range) qDr GDr
  have GTe := ok_twelve FTe qDr GDr
  have GLo := ok_low FLo qDv GDv
  have GIs := ok_is FIs T B N qLW GLW qLo GLo
  have GWr := ok_written FWr (PySem.W.mg_none_of X G z_str) qLo GLo
  have GMa := ok_marks (P := l.prog) (w := w) (base := base) FMa MT
  have GRf := ok_refused FRf (PySem.W.mg_none_of X G z_repr) qRd GRd ZS MT qMa GMa (PySem.W.mg_of X G g_k) (PySem.W.exm_ref kx1 kx2 kx3 kx4)
  have GRi := ok_right FRi T N (PySem.W.mg_none_of X G z_str) (PySem.W.mg_none_of X G z_range) M GI (bindsI FI) GS aS iS bSm qRd GRd O GE bEm qIs GIs qWr GWr
  exact FnG.of (ok_law FLaw T (PySem.W.mg_none_of X G z_str) M GI (bindsI FI) vd b1 GS aS iS bSm qDk GDk qDr GDr qTw GTw qTe GTe qRi GRi qRf GRf)
theorem walk {l : PySem.W.OpenLaw} {q : Program} {loose : List Str} {XP : (Str → Option Value) → Heap → Prop} {YP : World → Heap → Prop} {d : DefRec} {K : Params → PySem.W.Frag} (hn : l.most = some 63) (hdf : d.params.defaults = [])
    (hY : ∀ (w : World) (h : Heap), YP w h → (K w.params).In h)
    (F : ∀ (w : World) (mg : Str → Option Value) (fa : Addr) (h : Heap), (K w.params).In h → h.Ns mainGlobals mg → mg d.name = some (.ref fa) →
      ∃ fd : FuncData, (∀ (s : Shared) (u : Value), BindsTo s fd ⟨[u], []⟩ [("_law_script", u)]) ∧ ∀ base : Heap, (K w.params).In base → base.Ns mainGlobals mg → FnG l.prog w (K w.params) mg base CX0 7 fa fd ["_law_script"] (spLaw (K w.params))) :
    PySem.W.WalkO q loose XP YP l.row.toRowW d [] (fun f vs => PySem.call f vs) :=
  walk_ofG (n := 63) (k := 7) (x := "_law_script") (CX := fun _ => CX0) (sp := fun w => spLaw (K w.params)) hn (by decide) hdf ⟨rfl, by decide, by decide⟩ hY F (fun _ _ a ns hl _ hS => ⟨a, ns, rfl, hS, hl, fun _ => rfl⟩) fun _ _ _ _ _ z => z
end K
open PySem PySem.W PyProof.Rows
set_option maxRecDepth 100000 in
set_option maxHeartbeats 0 in
theorem PySem.Challenge.cw_casknotes_k07_weights_read_holds : PySem.Challenge.rw_casknotes_k07_weights_read.Holds := by
  w_on; o_law; k_head; (case hw => w_witness2)
  k_fill
  refine K.walk (l := PySem.Challenge.rw_casknotes_k07_weights_read) rfl rfl (fun w h Y => PySem.W.kIn_of Y) ?F
  case F =>
    intro w mg fa h KX G hmg
    refine' K.all_mk KX G hmg ?aC ?aI ?iI ?lI ?cI ?kI ?lDI ?aE ?iE ?lE ?cE ?kE ?aS ?iS ?lS ?cS ?kS ?aMd ?lMd ?cMd ?kMd ?aNl ?lNl ?cNl ?kNl ?aNb ?lNb ?cNb ?kNb ?aRd ?lRd ?cRd ?kRd ?aSh ?lSh ?cSh ?kSh ?aW ?lW ?cW ?kW ?aDk ?lDk ?cDk ?kDk ?aDr ?lDr ?cDr ?kDr ?aLW ?lLW ?cLW ?kLW ?aDv ?lDv ?cDv ?kDv ?aTw ?lTw ?cTw ?kTw ?aLo ?lLo ?cLo ?kLo ?aIs ?lIs ?cIs ?kIs ?aWr ?lWr ?cWr ?kWr ?aMa ?lMa ?cMa ?kMa ?aRf ?lRf ?cRf ?kRf ?aTe ?lTe ?cTe ?kTe ?aRi ?lRi ?cRi ?kRi ?aLaw ?lLaw ?cLaw ?kLaw ?pg ?hd ?po ?sa ?mk ?kc ?nT_ ?nB_ ?wa ?wn ?wt ?wm ?wne ?gcd ?blk ?big ?gT ?eT ?gM ?eM ?aSS ?xS ?bS ?saS ?exS ?tyS ?kSS ?iSS ?tU ?nS ?gaS ?ggS ?hdS ?waS ?wmS ?lU ?cU ?kU ?lDU ?g_c1 ?q_c1 ?g_c2 ?q_c2 ?g_c3 ?q_c3 ?g_c4 ?q_c4 ?g_c5 ?q_c5 ?g_c6 ?q_c6 ?g_c8 ?q_c8 ?g_c9 ?q_c9 ?g_d1 ?q_d1 ?g_d2 ?q_d2 ?g_d3 ?q_d3 ?g_d4 ?q_d4 ?g_d5 ?q_d5 ?g_k ?q_k ?g_w ?q_w ?q_v ?kx1 ?kx2 ?kx3 ?kx4 ?z_isinstance ?z_int ?z_bool ?z_abs ?z_max ?z_range ?z_str ?z_reversed ?z_repr ?z_ValueError ?z_len ?z_all
    (case aC => k_is)
    (case aI => k_is)
    (case iI => k_is)
    (case lI => k_is)
    (case cI => k_is)
    (case kI => k_is)
    (case lDI => k_is)
    (case aE => k_is)
    (case iE => k_is)
    (case lE => k_is)
    (case cE => k_is)
    (case kE => k_is)
    (case aS => k_is)
    (case iS => k_is)
    (case lS => k_is)
    (case cS => k_is)
    (case kS => k_is)
    (case aMd => k_is)
    (case lMd => k_is)
    (case cMd => k_is)
    (case kMd => k_is)
    (case aNl => k_is)
    (case lNl => k_is)
    (case cNl => k_is)
    (case kNl => k_is)
    (case aNb => k_is)
    (case lNb => k_is)
    (case cNb => k_is)
    (case kNb => k_is)
    (case aRd => k_is)
    (case lRd => k_is)
    (case cRd => k_is)
    (case kRd => k_is)
    (case aSh => k_is)
    (case lSh => k_is)
    (case cSh => k_is)
    (case kSh => k_is)
    (case aW => k_is)
    (case lW => k_is)
    (case cW => k_is)
    (case kW => k_is)
    (case aDk => k_is)
    (case lDk => k_is)
    (case cDk => k_is)
    (case kDk => k_is)
    (case aDr => k_is)
    (case lDr => k_is)
    (case cDr => k_is)
    (case kDr => k_is)
    (case aLW => k_is)
    (case lLW => k_is)
    (case cLW => k_is)
    (case kLW => k_is)
    (case aDv => k_is)
    (case lDv => k_is)
    (case cDv => k_is)
    (case kDv => k_is)
    (case aTw => k_is)
    (case lTw => k_is)
    (case cTw => k_is)
    (case kTw => k_is)
    (case aLo => k_is)
    (case lLo => k_is)
    (case cLo => k_is)
    (case kLo => k_is)
    (case aIs => k_is)
    (case lIs => k_is)
    (case cIs => k_is)
    (case kIs => k_is)
    (case aWr => k_is)
    (case lWr => k_is)
    (case cWr => k_is)
    (case kWr => k_is)
    (case aMa => k_is)
    (case lMa => k_is)
    (case cMa => k_is)
    (case kMa => k_is)
    (case aRf => k_is)
    (case lRf => k_is)
    (case cRf => k_is)
    (case kRf => k_is)
    (case aTe => k_is)
    (case lTe => k_is)
    (case cTe => k_is)
    (case kTe => k_is)
    (case aRi => k_is)
    (case lRi => k_is)
    (case cRi => k_is)
    (case kRi => k_is)
    (case aLaw => k_is)
    (case lLaw => k_is)
    (case cLaw => k_is)
    (case kLaw => k_is)
    (case pg => k_is)
    (case hd => k_is)
    (case po => k_is)
    (case sa => k_is)
    (case mk => k_is)
    (case kc => k_is)
    (case nT_ => k_is)
    (case nB_ => k_is)
    (case wa => k_is)
    (case wn => k_is)
    (case wt => k_is)
    (case wm => k_is)
    (case wne => k_is)
    (case gcd => k_is)
    (case blk => k_is)
    (case big => decide +kernel)
    (case gT => k_is)
    (case eT => decide +kernel)
    (case gM => k_is)
    (case eM => decide +kernel)
    (case aSS => k_is)
    (case xS => k_is)
    (case bS => decide +kernel)
    (case saS => k_is)
    (case exS => k_is)
    (case tyS => k_is)
    (case kSS => k_is)
    (case iSS => k_is)
    (case tU => k_is)
    (case nS => k_is)
    (case gaS => k_is)
    (case ggS => k_is)
    (case hdS => k_is)
    (case waS => k_is)
    (case wmS => k_is)
    (case lU => k_is)
    (case cU => k_is)
    (case kU => k_is)
    (case lDU => k_is)
    (case g_c1 => k_is)
    (case q_c1 => kit_is)
    (case g_c2 => k_is)
    (case q_c2 => kit_is)
    (case g_c3 => k_is)
    (case q_c3 => kit_is)
    (case g_c4 => k_is)
    (case q_c4 => kit_is)
    (case g_c5 => k_is)
    (case q_c5 => kit_is)
    (case g_c6 => k_is)
    (case q_c6 => kit_is)
    (case g_c8 => k_is)
    (case q_c8 => kit_is)
    (case g_c9 => k_is)
    (case q_c9 => kit_is)
    (case g_d1 => k_is)
    (case q_d1 => kit_is)
    (case g_d2 => k_is)
    (case q_d2 => kit_is)
    (case g_d3 => k_is)
    (case q_d3 => kit_is)
    (case g_d4 => k_is)
    (case q_d4 => kit_is)
    (case g_d5 => k_is)
    (case q_d5 => kit_is)
    (case g_k => k_is)
    (case q_k => kit_is)
    (case g_w => k_is)
    (case q_w => kit_is)
    (case q_v => kit_is)
    (case kx1 => k_is)
    (case kx2 => k_is)
    (case kx3 => k_is)
    (case kx4 => k_is)
    (case z_isinstance => k_is)
    (case z_int => k_is)
    (case z_bool => k_is)
    (case z_abs => k_is)
    (case z_max => k_is)
    (case z_range => k_is)
    (case z_str => k_is)
    (case z_reversed => k_is)
    (case z_repr => k_is)
    (case z_ValueError => k_is)
    (case z_len => k_is)
    (case z_all => k_is)
