import PyProof.Rows.All
import Wide.All
import OpenK.AllK
import Wide.FinOn
import HandS.ForMost
import HandS.IsInst
import HandS.Wide
import HandS.Style
import HandS.Walk
import HandS.Zip
import HandS.Flow
import HandS.ForExc
import HandS.ExcInit
import HandS.Property
import HandS.TupSets
import HandS.Ends
import HandS.OwnEq
import HandS.MakeKw
import HandS.MakeKwOnly
import HandS.SortInts
import HandS.More
import PySem.Challenge.RW_orderlycore_k38_whole_leans
set_option Elab.async false
set_option linter.all false
set_option maxRecDepth 100000
set_option maxHeartbeats 4000000
namespace Hx
open PySem PySem.Spec PyProof.Rows L2
/-! ### own rules -/
section
variable {X : Cx} {CX : CXT} {k : Nat} {f : Addr} {fd : FuncData} {ps ks : List Str} {sp : Sp} {E : XK} {x : Str} {p pos : Pos} {kws : List Keyword} {tk : TA} {g : List Value → List Value → List Value} {gV : List V → List V → List V}
theorem pe_callKA (F : FnOk X.prog X.w X.K X.mg X.base CX k f fd ps sp) (hr : Room k X.A) (hg : Gl X x) (hm : X.mg x = some (.ref f)) (hk : PySem.W.keepIn X.K (.ref f) = true) (hb : KBinds X.K fd ps ks g gV) (hx : Passes CX X E)
    (hkw : PK X kws tk) (hall : (backToKw pos (keywordEach kws X.env)).all (·.1.isSome) = true := by rfl) (hks : (backToKw pos (keywordEach kws X.env)).filterMap (·.1) = ks := by rfl)
    (hdb : (x == ("__debug__" : Str)) = false := by decide)
    (hpl : ((backTo pos (starEach [] X.env)).any (·.1) || (backToKw pos (keywordEach kws X.env)).any (·.1.isNone)) = false := by rfl) :
    PE X (.Call (.Name x p) [] kws pos) (tCallK sp gV E tNil tk) := by
  refine ⟨fun pins s σ H Q I h => ?_⟩
  refine wpAny_Call_Name_kw (ld_glob I hg hm ?_ hdb)
  refine PySem.W.callWith_KW0 (h₀ := X.base) I.ok.mod.kin hk hall ?_ hpl
  refine thn (hkw.run pos pins s σ H _ I h) fun ws s2 ⟨zs, H2, I2, rz, q2⟩ => ⟨I2.kIn, ?_⟩
  rw [hks]
  exact run_fnk F hr hb hx I2 .nil rz q2
/-- all by keywords, in the parameters' own order -/
def kwG {α : Type} (us ws : List α) : List α := match us with | [] => ws | _ => []
theorem kw_binds {K : PySem.W.Frag} {x qual : Str} {st : Stmt} {f : Addr} {fd : FuncData} {ps : List Str} (F : Fun K x qual st f fd) (h0 : 0 < ps.length)
    (h : ∀ (kV doc pm : Value) (an : Option Addr) (cdv ct : Value) (us : List Value), us.length = ps.length → bindArgs (PySem.W.fnOf x qual (defArgs st) (defBody st) (defScope st) .none kV doc pm an cdv ct) ⟨[], ps.zip us⟩ = pure (ps.zip us)) : KBinds K fd ps ps kwG kwG := by
  obtain ⟨oc, od, kV, doc, pm, an, cdv, ct, osl, rfl, lk, hcd⟩ := F.ex
  refine ⟨fun s us ws _ hl => ?_, fun {vs us zs ws} r1 r2 => ?_⟩
  · cases us with
    | nil => exact .of_eq (h kV doc pm an cdv ct ws hl)
    | cons a t => exact absurd hl (by simp [kwG]; omega)
  · cases r1 with
    | nil => exact r2
    | cons a t => exact .nil
theorem pg_pair {i j : Nat} {x y : Str} {p1 p2 : Pos} {kk : Nat} (hc : X.calm = true) (hN : X.N.Nodup) (hi : X.N[i]? = some x) (hj : X.N[j]? = some y) (hx : Loc X.env.scope x) (hy : Loc X.env.scope y)
    (hf : X.fn x = true ∨ X.env.scope.names.lookup x = some .local := by first | exact .inl rfl | exact .inr rfl | assumption) (hf2 : X.fn y = true ∨ X.env.scope.names.lookup y = some .local := by first | exact .inl rfl | exact .inr rfl | assumption)
    (hn : (assignEach [Expr.Name x p1, .Name y p2] X.env).length = 2 := by rfl) (hst : (assignEach [Expr.Name x p1, .Name y p2] X.env).findIdx? (·.1) = none := by rfl)
    (hs : (assignEach [Expr.Name x p1, .Name y p2] X.env).map (·.2) = assign (.Name x p1) X.env :: (assignEach [Expr.Name y p2] X.env).map (·.2) := by rfl)
    (hs2 : (assignEach [Expr.Name y p2] X.env).map (·.2) = assign (.Name y p2) X.env :: (assignEach [] X.env).map (·.2) := by rfl) :
    PG X (.Tuple [.Name x p1, .Name y p2] kk pos) (gTup X.K 2 (gCons (gName i) (gCons (gName j) gNil))) :=
  pg_tup hc (pgs_cons (pg_name hN hi hx hf) (pgs_cons (pg_name hN hj hy hf2) pgs_nil hs2) hs) hn hst
theorem pe_gint {i : Int} (hg : Gl X x) (hm : ∃ t, X.mg x = some (.int i t)) (hd : (x == ("__debug__" : Str)) = false := by decide) : PE X (.Name x pos) (tC (.int i)) := by
  obtain ⟨t, hm⟩ := hm
  exact pe_glob hg hm ⟨_, rfl⟩ hd
end
theorem call_int1i {X : Cx} : CallR X (.type "int") (fun xs H Q => ∃ i, xs = [.int i] ∧ Q (.int i) H) := fun pins s σ H xs us Q I r h => call_int1 pins s σ H xs us Q I r (.inl h)
theorem call_int1b {X : Cx} : CallR X (.type "int") (fun xs H Q => ∃ k, xs = [.bl k] ∧ Q (.int (if k then 1 else 0)) H) := fun pins s σ H xs us Q I r h => call_int1 pins s σ H xs us Q I r (.inr h)
theorem call_len_list {X : Cx} : CallR X (.builtin "len") (fun xs H Q => ∃ p ys, xs = [.ref p] ∧ SqL X.K H p ys ∧ Q (.int ys.length) H) := fun pins s σ H xs us Q I r ⟨p, ys, e, h, q⟩ => call_len_seq pins s σ H xs us Q I r ⟨p, ys, e, .inl h, q⟩
/-- a goal at which the walker of readings stops -/
structure Stop (p : Prop) : Prop where
  h : p
theorem stop_eq {p : Prop} : Stop p = p := propext ⟨fun q => q.h, fun q => ⟨q⟩⟩
def tForS (wi : TI) (g : TG) (tb : TS) : TS := fun D σ H => wi σ H fun J H1 => Stop (∃ W : Nat → Nat → L2.St → Hp → Prop, (∃ m, W 0 m σ H1) ∧ ∀ i m σ H, W i m σ H →
  (J.stop i H ∧ D.nx σ H) ∨ (J.go i H ∧ ∃ N : L2.St → Hp → Prop, (∀ σ' H', N σ' H' → ∃ m', m' < m ∧ W (i + 1) m' σ' H') ∧ ∀ x H', J.yld i H x H' → g x σ H' fun σ2 H2 => tb { D with nx := N, ct := N, bk := D.nx } σ2 H2))
theorem tForS_eq (wi : TI) (g : TG) (tb : TS) : tForS wi g tb = tFor wi g tb := by
  funext D σ H
  unfold tForS tFor
  simp only [stop_eq]
theorem ps_forS {X : Cx} {tg iter : Expr} {body : List Stmt} {wi : TI} {g : TG} {tb : TS} {pos : Pos} (hp : PassesOwn (model X.prog X.w) X.A X.env X.xe) (hc : X.calm = true) (hi : PI X tg iter wi) (hg : PG X tg g) (hb : PSs X body tb)
    (hs : ∀ x, foldedSetIterable iter X.env x = pure x := by intro _; rfl) : PS X (.For tg iter body [] pos) (tForS wi g tb) := by
  rw [tForS_eq]
  exact ps_for hp hc hi hg hb hs
/-! ### heaps -/
theorem same_upd {H : Hp} {p : Addr} {o : HO} (h : H p = none) : Same H (upd H p o) := fun b u e => by rw [upd_ne (ne_of_none e h)]; exact e
theorem Same.upd {H H1 : Hp} {p : Addr} {o : HO} (s : Same H H1) (h : H1 p = none) : Same H (L2.upd H1 p o) := L2.Same.trans s (same_upd h)
theorem Same.free' {H H1 : Hp} (s : Same H H1) {p : Addr} (h : H1 p = none) : H p = none := L2.Same.free s h
/-- all but a is as it was -/
def But (a : Addr) (H H' : Hp) : Prop := ∀ b o, b ≠ a → H b = some o → H' b = some o
theorem But.refl {a : Addr} (H : Hp) : But a H H := fun _ _ _ h => h
theorem But.trans {a : Addr} {H H1 H2 : Hp} (x : But a H H1) (y : But a H1 H2) : But a H H2 := fun b o n h => y b o n (x b o n h)
theorem But.same {a : Addr} {H H1 : Hp} (x : Same H H1) : But a H H1 := fun b o _ h => x b o h
theorem But.set {a : Addr} {H : Hp} {o : HO} : But a H (upd H a o) := fun b u n h => by rw [upd_ne n]; exact h
theorem But.new {a : Addr} {H H1 : Hp} {p : Addr} {o : HO} (x : But a H H1) (h : H1 p = none) : But a H (upd H1 p o) := x.trans (But.same (same_upd h))
theorem size_le {n : Nat} (h : n ≤ 10000) : n ≤ sizeLine := by rw [sizeLine_eq]; omega
theorem size_lt {n : Nat} (h : n ≤ 10000) : n < sizeLine := by rw [sizeLine_eq]; omega
theorem iteD {c A B : Prop} [Decidable c] (h1 : c → A) (h2 : ¬ c → B) : if decide c = true then A else B := by
  by_cases h : c
  · rw [decide_eq_true h]; exact iteT (h1 h)
  · rw [decide_eq_false h]; exact iteF (h2 h)
theorem iteN {c A B : Prop} [Decidable c] (h1 : ¬ c → A) (h2 : c → B) : if (!decide c) = true then A else B := by
  by_cases h : c
  · rw [decide_eq_true h]; exact iteF (h2 h)
  · rw [decide_eq_false h]; exact iteT (h1 h)
theorem qbl {Q : VK} {b c : Bool} {H : Hp} (k : Q (.bl b) H) (e : c = b) : Q (.bl c) H := e ▸ k
theorem qint {Q : VK} {i j : Int} {H : Hp} (k : Q (.int i) H) (e : j = i) : Q (.int j) H := e ▸ k
theorem same_set {H H1 : Hp} {p : Addr} {o : HO} (s : Same H H1) (n : H p = none) : Same H (upd H1 p o) := fun b u e => by rw [upd_ne (ne_of_none e n)]; exact s b u e
theorem old_upd {H : Hp} {p a : Addr} {o u : HO} (n : H p = none) (h : H a = some u) : upd H p o a = some u := same_upd n _ _ h
theorem SqL.new {K : PySem.W.Frag} {H : Hp} {p a : Addr} {o : HO} {xs : List V} (n : H p = none) (h : SqL K H a xs) : SqL K (upd H p o) a xs := L2.Same.seq (same_upd n) h
theorem tyl_new {K : PySem.W.Frag} {H : Hp} {p a : Addr} {o : HO} {xs : List V} (h : H a = some (.lst xs)) (n : H p = none) : tyV K "list" (.ref a) (upd H p o) := Or.inl ⟨rfl, xs, SqL.of (old_upd n h)⟩
theorem tyl_of {K : PySem.W.Frag} {H : Hp} {a : Addr} {xs : List V} (h : H a = some (.lst xs)) : tyV K "list" (.ref a) H := Or.inl ⟨rfl, xs, SqL.of h⟩
theorem same_at {H H' : Hp} {a : Addr} {u : HO} (s : Same H H') (h : H a = some u) : H' a = some u := s _ _ h
theorem same_trans' {H H1 H2 : Hp} (b : Same H1 H2) (a : Same H H1) : Same H H2 := L2.Same.trans a b
/-! ### comprehensions that keep what stood -/
theorem lc_mapS {K : PySem.W.Frag} {a : Addr} {xs : List V} {g : TG} {te : TE} {vs : List Nat} {σ : L2.St} {H1 : Hp} {D : Addr} {Qd : Hp → Prop} (ys : List V) (ha : SqL K H1 a xs) (hD : H1 D = none) (hl : xs.length = ys.length) (hz : xs.length ≤ 10000)
    (hs : ∀ (i : Nat) (x y : V) (H' : Hp) (Q : VK), xs[i]? = some x → ys[i]? = some y → Same H1 H' → (∀ H'', Same H' H'' → Q y H'') → g x (wipe σ vs) H' fun σ2 H2 => wipe σ2 vs = wipe σ vs ∧ te σ2 H2 Q)
    (hd : ∀ H', Same H1 H' → H' D = some (.lst ys) → Qd H') :
    ∃ W : Nat → Nat → Hp → Prop, (∃ m, W 0 m (upd H1 D (.lst []))) ∧ ∀ i m H, W i m H →
      ((Itl K a).stop i H ∧ Qd H) ∨ ((Itl K a).go i H ∧ ∃ Nx : Hp → Prop, (∀ H', Nx H' → ∃ m', m' < m ∧ W (i + 1) m' H') ∧ ∀ x H', (Itl K a).yld i H x H' → g x (wipe σ vs) H' fun σ2 H2 => wipe σ2 vs = wipe σ vs ∧ tYes σ2 H2 fun b H3 =>
        if b = true then te σ2 H3 fun y H4 => ∃ acc, H4 D = some (.lst acc) ∧ acc.length < sizeLine ∧ Nx (upd H4 D (.lst (acc ++ [y]))) else Nx H3) := by
  refine lc_list (xs := xs) (fun i H => Same H1 H ∧ H D = some (.lst (ys.take i))) ⟨same_upd hD, upd_same⟩ (fun i H _ h => L2.Same.seq h.1 ha) (fun i x H hx h => ?_) (fun H h => hd H h.1 (by rw [h.2, List.take_of_length_le (by omega)]))
  have hi : i < ys.length := by have := (List.getElem?_eq_some_iff.mp hx).1; omega
  refine hs i x ys[i] H _ hx (List.getElem?_eq_getElem hi) h.1 (fun H'' s => ?_)
  refine ⟨ys.take i, s _ _ h.2, size_lt (by simp; omega), same_set (L2.Same.trans h.1 s) hD, ?_⟩
  rw [upd_same, List.take_add_one, List.getElem?_eq_getElem hi]; rfl
theorem lc_mapZ {K : PySem.W.Frag} {a b : Addr} {xs zs : List V} {g : TG} {te : TE} {vs : List Nat} {σ : L2.St} {H1 : Hp} {D : Addr} {Qd : Hp → Prop} (ys : List V) (ha : SqL K H1 a xs) (hb : SqL K H1 b zs) (hD : H1 D = none) (hl : xs.length = ys.length) (hl2 : xs.length = zs.length) (hz : xs.length ≤ 10000)
    (hs : ∀ (i : Nat) (x z y : V) (T : Addr) (H' : Hp) (Q : VK), xs[i]? = some x → zs[i]? = some z → ys[i]? = some y → Same H1 H' → H' T = none → (∀ H'', Same (upd H' T (.tup [x, z])) H'' → Q y H'') → g (.ref T) (wipe σ vs) (upd H' T (.tup [x, z])) fun σ2 H2 => wipe σ2 vs = wipe σ vs ∧ te σ2 H2 Q)
    (hd : ∀ H', Same H1 H' → H' D = some (.lst ys) → Qd H') :
    ∃ W : Nat → Nat → Hp → Prop, (∃ m, W 0 m (upd H1 D (.lst []))) ∧ ∀ i m H, W i m H →
      ((Itz K a b).stop i H ∧ Qd H) ∨ ((Itz K a b).go i H ∧ ∃ Nx : Hp → Prop, (∀ H', Nx H' → ∃ m', m' < m ∧ W (i + 1) m' H') ∧ ∀ x H', (Itz K a b).yld i H x H' → g x (wipe σ vs) H' fun σ2 H2 => wipe σ2 vs = wipe σ vs ∧ tYes σ2 H2 fun b H3 =>
        if b = true then te σ2 H3 fun y H4 => ∃ acc, H4 D = some (.lst acc) ∧ acc.length < sizeLine ∧ Nx (upd H4 D (.lst (acc ++ [y]))) else Nx H3) := by
  refine lc_it (walk_zip (xs := xs) (ys := zs) (n := xs.length) (by omega)) (fun i H => Same H1 H ∧ H D = some (.lst (ys.take i))) ⟨same_upd hD, upd_same⟩ (fun i H _ h => ⟨L2.Same.seq h.1 ha, L2.Same.seq h.1 hb⟩) (fun i x H H' hi h y => ?_) (fun H h => hd H h.1 (by rw [h.2, List.take_of_length_le (by omega)]))
  obtain ⟨T, x', z', rfl, hT, rfl, hx, hz'⟩ := y
  have hi' : i < ys.length := by omega
  refine hs i x' z' ys[i] T H _ hx hz' (List.getElem?_eq_getElem hi') h.1 hT (fun H'' s => ?_)
  refine ⟨ys.take i, s _ _ (old_upd hT h.2), size_lt (by simp; omega), same_set (L2.Same.trans (Same.upd h.1 hT) s) hD, ?_⟩
  rw [upd_same, List.take_add_one, List.getElem?_eq_getElem hi']; rfl
/-! ### two lists of the same ints -/
theorem dp_ints {K : PySem.W.Frag} {H : Hp} : ∀ ns : List Int, DpAll K H (ns.map V.int) (ns.map PyData.int)
  | [] => .nil
  | n :: r => .cons (.int n) (dp_ints r)
theorem sh_ints (ns : List Int) : SeqAt.shaped (.list (ns.map PyData.int)) = true := PySem.W.shaped_ints ns
theorem eqv_ints (ns : List Int) : PyData.eqv (.list (ns.map PyData.int)) (.list (ns.map PyData.int)) = true := SeqAt.eqv_refl _ (SeqAt.canLay_of_shaped (sh_ints ns))
theorem op_eqLI {X : Cx} (hu : X.A.units + 64 < cLine) : OpR X (compareOp .Eq) (fun x y H Q => ∃ (p q : Addr) (ns : List Int), x = .ref p ∧ y = .ref q ∧ SqL X.K H p (ns.map V.int) ∧ SqL X.K H q (ns.map V.int) ∧ Q (.bl true) H) := by
  intro pins s σ H x y v u Q I rx ry ⟨p, q, ns, e1, e2, h1, h2, k⟩
  refine op_eqD hu pins s σ H x y v u Q I rx ry ⟨.list (ns.map PyData.int), .list (ns.map PyData.int), ?_, ?_, ?_, ?_, ?_⟩
  · rw [e1]; exact .lst h1 (dp_ints ns)
  · rw [e2]; exact .lst h2 (dp_ints ns)
  · exact sh_ints ns
  · exact sh_ints ns
  · rw [eqv_ints]; exact k
theorem op_neLI {X : Cx} (hu : X.A.units + 64 < cLine) : OpR X (compareOp .NotEq) (fun x y H Q => ∃ (p q : Addr) (ns : List Int), x = .ref p ∧ y = .ref q ∧ SqL X.K H p (ns.map V.int) ∧ SqL X.K H q (ns.map V.int) ∧ Q (.bl false) H) := by
  intro pins s σ H x y v u Q I rx ry ⟨p, q, ns, e1, e2, h1, h2, k⟩
  refine op_neD hu pins s σ H x y v u Q I rx ry ⟨.list (ns.map PyData.int), .list (ns.map PyData.int), ?_, ?_, ?_, ?_, ?_⟩
  · rw [e1]; exact .lst h1 (dp_ints ns)
  · rw [e2]; exact .lst h2 (dp_ints ns)
  · exact sh_ints ns
  · exact sh_ints ns
  · rw [eqv_ints]; exact k
/-! ### the pot -/
structure Pot (H : Hp) (a : Addr) : Prop where
  ex : ∃ x y : Int, H a = some (.lst [.int x, .int y]) ∧ 0 ≤ x ∧ 0 ≤ y ∧ y < 4294967296
theorem Pot.same {H H' : Hp} {a : Addr} (s : Same H H') (h : Pot H a) : Pot H' a := by
  obtain ⟨x, y, e, r⟩ := h
  exact ⟨x, y, s _ _ e, r⟩
theorem Pot.new {H : Hp} {a p : Addr} {o : HO} (h : Pot H a) (n : H p = none) : Pot (upd H p o) a := h.same (same_upd n)
theorem Pot.ne {H : Hp} {a p : Addr} (h : Pot H a) (n : H p = none) : p ≠ a := by
  obtain ⟨x, y, e, r⟩ := h
  exact fun z => by rw [z, e] at n; cases n
theorem mulw {i j : Int} {a b : Nat} (ha : i.natAbs < 2 ^ a) (hb : j.natAbs < 2 ^ b) (h0 : 0 < a := by decide) (h1 : 0 < b := by decide) (h : a + b ≤ 1000000 := by decide) : CMulW i j := wide_mul ha hb h0 h1 h
theorem mulw64 {i j : Int} (ha : i.natAbs < 18446744073709551616) (hb : j.natAbs < 18446744073709551616) : CMulW i j := wide_mul (a := 64) (b := 64) ha hb (by decide) (by decide) (by decide)
theorem pick_at {xs : List V} {d : Int} (h0 : 0 ≤ d) (h1 : d < xs.length) : ∃ v, atI xs d = some v ∧ v ∈ xs := by
  have hd : d.toNat < xs.length := by omega
  exact ⟨xs[d.toNat], at_of (j := d.toNat) (by omega) (List.getElem?_eq_getElem hd), List.getElem_mem hd⟩
theorem take_fold {α β : Type} {f : β → α → β} {z : β} {l : List α} {i : Nat} {x : α} (h : l[i]? = some x) : (l.take (i + 1)).foldl f z = f ((l.take i).foldl f z) x := by
  rw [List.take_add_one, h, Option.toList_some, List.foldl_append]; rfl
theorem int_get {ns : List Int} {i : Nat} {x : V} (h : (ns.map V.int)[i]? = some x) : ∃ z, x = .int z ∧ ns[i]? = some z := by
  rw [List.getElem?_map] at h
  obtain ⟨z, hz, e⟩ := Option.map_eq_some_iff.mp h
  exact ⟨z, e.symm, hz⟩
/-- called with the pot and how many: a number below that, and the pot is still one -/
def spDraw : Sp := fun vs H Q _ => ∃ (a : Addr) (n : Int), vs = [.ref a, .int n] ∧ Pot H a ∧ 0 < n ∧ n < 1073741824 ∧
  ∀ (d : Int) (H' : Hp), 0 ≤ d → d < n → Pot H' a → But a H H' → Q (.int d) H'
end Hx

set_option Elab.async false
set_option linter.all false
set_option maxRecDepth 100000
set_option maxHeartbeats 4000000
namespace Hx
open PySem PySem.Spec PyProof.Rows L2
/-! ### own rules for objects and errors -/
def kwM {α : Type} (us ws : List α) : List α := match us with | [x] => x :: ws | _ => []
theorem kw_bindsM {K : PySem.W.Frag} {x qual : Str} {st : Stmt} {f : Addr} {fd : FuncData} {ps : List Str} (F : Fun K x qual st f fd) (h0 : 0 < ps.length)
    (h : ∀ (kV doc pm : Value) (an : Option Addr) (cdv ct : Value) (u : Value) (us : List Value), us.length = ps.tail.length → bindArgs (PySem.W.fnOf x qual (defArgs st) (defBody st) (defScope st) .none kV doc pm an cdv ct) ⟨[u], ps.tail.zip us⟩ = pure (ps.zip (u :: us))) : KBinds K fd ps ps.tail kwM kwM := by
  obtain ⟨oc, od, kV, doc, pm, an, cdv, ct, osl, rfl, lk, hcd⟩ := F.ex
  refine ⟨fun s us ws _ hl => ?_, fun {vs us zs ws} r1 r2 => ?_⟩
  · match us, hl with
    | [], hl => exact absurd hl (by simp [kwM]; omega)
    | [u], hl => exact .of_eq (h kV doc pm an cdv ct u ws (by simp [kwM] at hl ⊢; omega))
    | _ :: _ :: _, hl => exact absurd hl (by simp [kwM]; omega)
  · cases r1 with
    | nil => exact .nil
    | cons a t =>
      cases t with
      | nil => exact .cons a r2
      | cons b t => exact .nil
section
variable {X : Cx} {CX : CXT} {k : Nat} {f C : Addr} {fd : FuncData} {ps ks : List Str} {sp : Sp} {E : L2.St → XK} {E1 : XK} {x m : Str} {p pos apos : Pos} {e o : Expr} {es : List Expr} {ta : TE} {t tk : TA} {kws : List Keyword} {g : List Value → List Value → List Value} {gV : List V → List V → List V}
def tMethA (C : Addr) (m : Str) (sp : Sp) (E : L2.St → XK) (ta : TE) (t : TA) : TE := fun σ H Q => ta σ H fun x H1 => ∃ a dx fs, x = .ref a ∧ H1 a = some (.ins C dx fs) ∧ fs.lookup m = none ∧ t σ H1 fun vs H2 => sp (x :: vs) H2 Q (E σ)
/-- o.m(e, ..) that may raise, within a try -/
theorem pe_methA {E : L2.St → XK} {pl : Sem Bool} (he : PE X o ta) (c : Cls X.K C) (hm : Meth X.K C m f) (F : FnOk X.prog X.w X.K X.mg X.base CX k f fd ps sp) (hr : Room k X.A) (hb : Binds X.K fd ps []) (hx : ∀ σ, PassesAt CX X σ (E σ)) (ha : PA X (e :: es) t)
    (hst : starEach (e :: es) X.env = (false, eval e X.env) :: starEach es X.env := by rfl) (hpl : (backTo pos (starEach es X.env)).any (·.1) = false := by rfl)
    (ht : eval (.Call (.Attribute o m apos) (e :: es) [] pos) X.env = (do
      let ov ← eval o X.env
      standAt apos.atName
      let (f, first) ← holding [ov] (getMethod ov m pl)
      callWith pos f first (backTo pos (starEach (e :: es) X.env)) (backToKw pos (keywordEach [] X.env))) := by rfl) :
    PE X (.Call (.Attribute o m apos) (e :: es) [] pos) (tMethA C m sp E ta t) := by
  refine ⟨fun pins s σ H Q I h => ?_⟩
  refine PySem.W.methodCall_KW (pl := pl) (thn (he.run pins s σ H _ I h) fun u s1 ⟨x, H1, I1, rx, a, dx, fs, ex, ea, l, q⟩ => ?_) ht
  subst ex
  obtain rfl : u = Value.ref a := rx
  refine getmeth_ok I1 ea c hm l ?_
  refine PySem.W.callWith_K (first := [.ref a]) (h₀ := X.base) I.ok.mod.kin hm.kp (thn (ha.run pos pins s1 σ H1 _ I1 q) fun us s2 ⟨vs, H2, I2, r, q2⟩ => ⟨I2.kIn, ?_⟩) hst hpl
  exact run_fnS (us := .ref a :: us) (vs := .ref a :: vs) F hr hb (hx σ) I2 (.cons rfl r) q2
def tMethK (C : Addr) (m : Str) (sp : Sp) (gV : List V → List V → List V) (E : XK) (ta : TE) (tk : TA) : TE := fun σ H Q => ta σ H fun x H1 => ∃ a dx fs, x = .ref a ∧ H1 a = some (.ins C dx fs) ∧ fs.lookup m = none ∧ tk σ H1 fun zs H2 => sp (gV [x] zs) H2 Q E
/-- o.m(k=e, ..) -/
theorem pe_methKA {pl : Sem Bool} (he : PE X o ta) (c : Cls X.K C) (hm : Meth X.K C m f) (F : FnOk X.prog X.w X.K X.mg X.base CX k f fd ps sp) (hr : Room k X.A) (hb : KBinds X.K fd ps ks g gV) (hx : Passes CX X E1)
    (hkw : PK X kws tk) (hall : (backToKw pos (keywordEach kws X.env)).all (·.1.isSome) = true := by rfl) (hks : (backToKw pos (keywordEach kws X.env)).filterMap (·.1) = ks := by rfl)
    (hpl : ((backTo pos (starEach [] X.env)).any (·.1) || (backToKw pos (keywordEach kws X.env)).any (·.1.isNone)) = false := by rfl)
    (ht : eval (.Call (.Attribute o m apos) [] kws pos) X.env = (do
      let ov ← eval o X.env
      standAt apos.atName
      let (f, first) ← holding [ov] (getMethod ov m pl)
      callWith pos f first (backTo pos (starEach [] X.env)) (backToKw pos (keywordEach kws X.env))) := by rfl) :
    PE X (.Call (.Attribute o m apos) [] kws pos) (tMethK C m sp gV E1 ta tk) := by
  refine ⟨fun pins s σ H Q I h => ?_⟩
  refine PySem.W.methodCall_KW (pl := pl) (thn (he.run pins s σ H _ I h) fun u s1 ⟨x, H1, I1, rx, a, dx, fs, ex, ea, l, q⟩ => ?_) ht
  subst ex
  obtain rfl : u = Value.ref a := rx
  refine getmeth_ok I1 ea c hm l ?_
  refine PySem.W.callWith_KW0 (first := [.ref a]) (h₀ := X.base) I.ok.mod.kin hm.kp hall ?_ hpl
  refine thn (hkw.run pos pins s1 σ H1 _ I1 q) fun ws s2 ⟨zs, H2, I2, rz, q2⟩ => ⟨I2.kIn, ?_⟩
  rw [hks]
  exact run_fnk (us := [.ref a]) (vs := [.ref a]) F hr hb hx I2 (.cons rfl .nil) rz q2
theorem PI.or {tg iter : Expr} {w1 w2 : TI} (h1 : PI X tg iter w1) (h2 : PI X tg iter w2) : PI X tg iter (fun σ H R => w1 σ H R ∨ w2 σ H R) := ⟨fun pins s σ H R I h => h.elim (h1.run pins s σ H R I) (h2.run pins s σ H R I)⟩
end
theorem exm_self {K : PySem.W.Frag} {S : Addr} (h1 : PySem.W.subIn K (.ref S) (.type "BaseException") = some true) (h2 : PySem.W.isClsIn K S = true) (h3 : PySem.W.typeIn K (.ref S) = some (.type "type")) (h4 : PySem.W.subIn K (.ref S) (.ref S) = some true) :
    PySem.W.exmOne K (.ref S) (.ref S) = some true := by
  have e1 : (PySem.W.subIn K (.ref S) (.type "BaseException") == some true) = true := by rw [h1] <;> rfl
  have e2 : ((PySem.W.clsIn K S).isSome && PySem.W.typeIn K (.ref S) == some (.type "type")) = true := by
    have h2' : (PySem.W.clsIn K S).isSome = true := h2
    rw [h2', h3] <;> rfl
  show (if (PySem.W.subIn K (.ref S) (.type "BaseException") == some true) = true then (if ((PySem.W.clsIn K S).isSome && PySem.W.typeIn K (.ref S) == some (.type "type")) = true then PySem.W.subIn K (.ref S) (.ref S) else none) else none) = some true
  rw [if_pos e1, if_pos e2]
  exact h4
def tStop (t : TS) : TS := fun D σ H => t { D with nx := fun σ H => Stop (D.nx σ H) } σ H
theorem ps_stop {X : Cx} {st : Stmt} {t : TS} (h : PS X st t) : PS X st (tStop t) := by
  have e : tStop t = t := by
    funext D σ H
    unfold tStop
    simp only [stop_eq]
  rw [e]
  exact h
theorem lc_mapT {K : PySem.W.Frag} {a : Addr} {xs : List V} {g : TG} {te : TE} {vs : List Nat} {σ : L2.St} {H1 : Hp} {D : Addr} {Qd : Hp → Prop} (ys : List V) (ha : SqT K H1 a xs) (hD : H1 D = none) (hl : xs.length = ys.length) (hz : xs.length ≤ 10000)
    (hs : ∀ (i : Nat) (x y : V) (H' : Hp) (Q : VK), xs[i]? = some x → ys[i]? = some y → Same H1 H' → (∀ H'', Same H' H'' → Q y H'') → g x (wipe σ vs) H' fun σ2 H2 => wipe σ2 vs = wipe σ vs ∧ te σ2 H2 Q)
    (hd : ∀ H', Same H1 H' → H' D = some (.lst ys) → Qd H') :
    ∃ W : Nat → Nat → Hp → Prop, (∃ m, W 0 m (upd H1 D (.lst []))) ∧ ∀ i m H, W i m H →
      ((Itt K a).stop i H ∧ Qd H) ∨ ((Itt K a).go i H ∧ ∃ Nx : Hp → Prop, (∀ H', Nx H' → ∃ m', m' < m ∧ W (i + 1) m' H') ∧ ∀ x H', (Itt K a).yld i H x H' → g x (wipe σ vs) H' fun σ2 H2 => wipe σ2 vs = wipe σ vs ∧ tYes σ2 H2 fun b H3 =>
        if b = true then te σ2 H3 fun y H4 => ∃ acc, H4 D = some (.lst acc) ∧ acc.length < sizeLine ∧ Nx (upd H4 D (.lst (acc ++ [y]))) else Nx H3) := by
  refine lc_tup (xs := xs) (fun i H => Same H1 H ∧ H D = some (.lst (ys.take i))) ⟨same_upd hD, upd_same⟩ (fun i H _ h => ha.elim (fun r => r.elim (fun e => .inl (.inl (h.1 _ _ e))) (fun ⟨o, e⟩ => .inl (.inr ⟨o, h.1 _ _ e⟩))) .inr) (fun i x H hx h => ?_) (fun H h => hd H h.1 (by rw [h.2, List.take_of_length_le (by omega)]))
  have hi : i < ys.length := by have := (List.getElem?_eq_some_iff.mp hx).1; omega
  refine hs i x ys[i] H _ hx (List.getElem?_eq_getElem hi) h.1 (fun H'' s => ?_)
  refine ⟨ys.take i, s _ _ h.2, size_lt (by simp; omega), same_set (L2.Same.trans h.1 s) hD, ?_⟩
  rw [upd_same, List.take_add_one, List.getElem?_eq_getElem hi]; rfl
/-! ### two things of the same data -/
def FlatD (n : Nat) (d : PyData) : Prop := d.canLay0 = true ∧ d.depth ≤ n
theorem flat_all {n : Nat} : ∀ ds : List PyData, (∀ d ∈ ds, FlatD n d) → PyData.canLayAll0 ds = true ∧ PyData.depthAll ds ≤ n
  | [], _ => by simp [PyData.canLayAll0, PyData.depthAll]
  | d :: r, h => by
    have i := flat_all r fun x hx => h x (List.mem_cons_of_mem _ hx)
    have j := h d List.mem_cons_self
    unfold FlatD at j
    simp only [PyData.canLayAll0, PyData.depthAll, j.1, i.1, Bool.and_self, true_and]
    omega
theorem flat_list {n : Nat} {ds : List PyData} (h : ∀ d ∈ ds, FlatD n d) : FlatD (n + 1) (.list ds) := by
  have i := flat_all ds h
  exact ⟨by simp only [PyData.canLay0]; exact i.1, by simp only [PyData.depth]; omega⟩
theorem flat_tup {n : Nat} {ds : List PyData} (h : ∀ d ∈ ds, FlatD n d) : FlatD (n + 1) (.tuple ds) := by
  have i := flat_all ds h
  exact ⟨by simp only [PyData.canLay0]; exact i.1, by simp only [PyData.depth]; omega⟩
theorem flat_int (n : Nat) (i : Int) : FlatD n (.int i) := ⟨by simp [PyData.canLay0], by simp [PyData.depth]⟩
theorem flat_sh {n : Nat} {d : PyData} (h : FlatD n d) (hn : n ≤ 64 := by decide) : SeqAt.shaped d = true := by
  show (PyData.canLay0 d && decide (PyData.depth d ≤ 64)) = true
  rw [Bool.and_eq_true]
  exact ⟨h.1, decide_eq_true (Nat.le_trans h.2 hn)⟩
theorem op_eqS {X : Cx} (hu : X.A.units + 64 < cLine) : OpR X (compareOp .Eq) (fun x y H Q => ∃ d, Dp X.K H x d ∧ Dp X.K H y d ∧ SeqAt.shaped d = true ∧ Q (.bl true) H) := by
  intro pins s σ H x y v u Q I rx ry ⟨d, h1, h2, hs, k⟩
  refine op_eqD hu pins s σ H x y v u Q I rx ry ⟨d, d, h1, h2, hs, hs, ?_⟩
  rw [SeqAt.eqv_refl d (SeqAt.canLay_of_shaped hs)]; exact k
theorem op_neS {X : Cx} (hu : X.A.units + 64 < cLine) : OpR X (compareOp .NotEq) (fun x y H Q => ∃ d, Dp X.K H x d ∧ Dp X.K H y d ∧ SeqAt.shaped d = true ∧ Q (.bl false) H) := by
  intro pins s σ H x y v u Q I rx ry ⟨d, h1, h2, hs, k⟩
  refine op_neD hu pins s σ H x y v u Q I rx ry ⟨d, d, h1, h2, hs, hs, ?_⟩
  rw [SeqAt.eqv_refl d (SeqAt.canLay_of_shaped hs)]; exact k
/-- the only error's __init__: self.value = value -/
def spEI (C : Addr) : Sp := fun vs H Q _ => ∃ (a : Addr) (v : V), vs = [.ref a, v] ∧ H a = some (exo a C none) ∧ ∀ dx, H dx = none → dx ≠ a → Q .non (upd (upd H dx (exd dx [("value", v)])) a (exo a C (some dx)))
theorem ei_same {H : Hp} {a dx C : Addr} {fs : List (Str × V)} {o u : HO} (ha : H a = none) (hd : upd H a o dx = none) (ne : dx ≠ a) :
    Same H (upd (del (upd (upd (upd H a o) dx u) a (exo a C (some dx))) a) dx (.xd fs)) := fun b v e => by
  have n1 : b ≠ a := ne_of_none e ha
  have n2 : b ≠ dx := by
    intro z
    rw [z] at e
    rw [upd_ne ne] at hd
    rw [hd] at e
    cases e
  rw [upd_ne n2, del_ne n1, upd_ne n1, upd_ne n2, upd_ne n1]
  exact e
end Hx

set_option Elab.async false
set_option linter.all false
set_option maxRecDepth 100000
set_option maxHeartbeats 4000000
namespace Hx
open PySem PySem.Spec PyProof.Rows L2
/-! ### promises of defs under which no repr is under way -/
/-- as FnOk, for calls around which nothing is being written out -/
structure FnG (P : Program) (w : World) (K : PySem.W.Frag) (mg : Str → Option Value) (base : Heap) (k : Nat) (f : Addr) (fd : FuncData) (ps : List Str) (sp : Sp) : Prop where
  len : ∀ vs H Q E, sp vs H Q E → vs.length = ps.length
  run : ∀ (A : Around) (outer : List Env) (s : Shared) (H : Hp) (args : Args) (us : List Value) (vs : List V) (Q : VK) (E : XK), A.guards = some [] → Room k A → Env0 P w K mg base A outer s H → BindsTo s fd args (ps.zip us) → Vals vs us → sp vs H Q E →
    codeAny (model P w) A (.call (.ref f) args) (CR CX0 outer P w H s Q E) s
theorem FnG.mono {P : Program} {w : World} {K : PySem.W.Frag} {mg : Str → Option Value} {base : Heap} {j k : Nat} {f : Addr} {fd : FuncData} {ps : List Str} {sp : Sp} (F : FnG P w K mg base j f fd ps sp) (h : j ≤ k) : FnG P w K mg base k f fd ps sp :=
  ⟨F.len, fun A o s H a us vs Q E g r => F.run A o s H a us vs Q E g (r.mono h)⟩
theorem fnG {P : Program} {w : World} {K : PySem.W.Frag} {mg : Str → Option Value} {base : Heap} {x qual : Str} {st : Stmt} {f : Addr} {fd : FuncData} {N ps : List Str} {k : Nat} {sp : Sp} (F : Fun K x qual st f fd) (S : FnScope N ps (defScope st)) (len : ∀ vs H Q E, sp vs H Q E → vs.length = ps.length)
    (hbody : ∀ (cdv : Value) (A : Around) (outer : List Env) (s : Shared) (H : Hp) (vs : List V) (Q : VK) (E : XK), Room k (A.deeper (envOfC qual (defScope st) s.heap.objs.size f cdv)) → (A.deeper (envOfC qual (defScope st) s.heap.objs.size f cdv)).guards = some [] → sp vs H Q E →
      ∃ t, PSs (cxOf CX0 P w K mg base N qual (defScope st) f cdv A outer s H E).nox (defBody st) t ∧ t { nx := fun _ H' => Q .non H', rt := Q } (start N vs) H) : FnG P w K mg base (k + 1) f fd ps sp := by
  obtain ⟨oc, od, kV, doc, pm, an, cdv, ct, osl, rfl, lk, hcd⟩ := F.ex
  constructor
  · exact len
  intro A outer s H args us vs Q E hg hr e0 hb r hsp
  have old := fun b o e => (e0.bs b o e).1
  have KX := e0.mod.kin.keeps old
  have lim := e0.mod.nolimit.keeps old
  apply codeAny_call_function hr.depth (KX _ _ lk) rfl S.co S.gen rfl (PySem.W.codeRec_of KX hcd)
  apply hb
  apply wpAny_newFunctionEnv_cells S.kind
  · intro y hy
    exact (S.par y.1 (List.of_mem_zip hy).1).imp id fun q => ⟨q, PySem.W.cellsFrom_some _ _ _ (.inl q)⟩
  intro env he s1 x
  subst he
  refine ⟨lim.keeps x.toInCall.keep, codeAny_func ?_⟩
  obtain ⟨t, ht, hq⟩ := hbody cdv A outer s H vs Q E (hr.deeper _) hg hsp
  have I := inv_start (CX := CX0) (E := E) (base := base) S hr.hd e0 (len _ _ _ _ hsp) r x
  refine wpAny_mono (ht.nox.run [] s1 _ H _ I hq) (fun fl s' hs => ?_) fun e s' hs => hs
  match fl, hs with
  | .ret u, ⟨v, _, H', J, rv, q⟩ => exact ⟨v, H', J.os, J.bare, J.base, J.hok, rv, q⟩
  | .next, ⟨_, H', J, q⟩ => exact ⟨V.non, H', J.os, J.bare, J.base, J.hok, rfl, q⟩
  | .brk, ⟨_, _, _, q⟩ => exact q.elim
  | .cont, ⟨_, _, _, q⟩ => exact q.elim
section
variable {X : Cx} {k : Nat} {f : Addr} {fd : FuncData} {ps : List Str} {sp : Sp} {E : XK} {x : Str} {p pos : Pos} {e : Expr} {es : List Expr} {t : TA}
/-- f(e, ..) of such a def -/
theorem pe_callG (hu : X.A.guards = some []) (F : FnG X.prog X.w X.K X.mg X.base k f fd ps sp) (hr : Room k X.A) (hg : Gl X x) (hm : X.mg x = some (.ref f)) (hk : PySem.W.keepIn X.K (.ref f) = true) (hb : Binds X.K fd ps [])
    (ha : PA X (e :: es) t) (hdb : (x == ("__debug__" : Str)) = false := by decide) (he : starEach (e :: es) X.env = (false, eval e X.env) :: starEach es X.env := by rfl) (hpl : (backTo pos (starEach es X.env)).any (·.1) = false := by rfl) :
    PE X (.Call (.Name x p) (e :: es) [] pos) (tCall sp [] E t) := by
  constructor
  intro pins s σ H Q I h
  apply wpAny_Call_Name_kw (ld_glob I hg hm ?_ hdb)
  refine PySem.W.callWith_K (h₀ := X.base) I.ok.mod.kin hk (thn (ha.run pos pins s σ H _ I h) fun us s1 ⟨vs, H1, I1, r, q⟩ => ⟨I1.kIn, ?_⟩) he hpl
  have q : sp (vs ++ []) H1 Q E := q
  rw [List.append_nil] at q
  have hl : us.length = ps.length := by rw [← r.length]; exact F.len _ _ _ _ q
  have b := hb s1 us I1.kIn (by rw [List.append_nil]; exact hl)
  rw [List.append_nil] at b
  refine wpAny_call (codeAny_mono (F.run X.A X.stack s1 H1 ⟨us, []⟩ us vs Q E hu hr I1.env0 b r q) fun r s' hq => ?_)
  match r, hq with
  | .ok (.ret u), hq => exact I1.after hq
  | .error e, hq => exact False.elim hq
  | .ok .next, hq => exact False.elim hq
  | .ok .brk, hq => exact False.elim hq
  | .ok .cont, hq => exact False.elim hq
/-- repr of a list, a tuple, of things that show -/
theorem call_reprG (hg : X.A.guards = some []) (hr : Room 0 X.A) : CallR X (.builtin "repr") (fun xs H Q => ∃ (a : Addr) (d : PyData), xs = [.ref a] ∧ Dp X.K H (.ref a) d ∧ d.showable = true ∧ d.hasDict = false ∧ d.depth ≤ 64 ∧ d.shown.length ≤ sizeLine ∧ Q (.str d.shown) H) := by
  intro pins s σ H xs us Q I r h
  obtain ⟨a, d, rfl, hd, hs, hn, hp, hz, q⟩ := h
  rw [Vals.ref1 r]
  obtain ⟨as, hR⟩ := Dp.reads I d _ (.ref a) hd rfl
  have hu := hr.un
  exact repr_of_reads' hR hs (fun z => by rw [hn] at z; cases z) hg (by omega) (fun _ _ e => e) (fun h' u tk hk => ⟨.str _, H, I.kept hk, ⟨_, rfl⟩, q⟩) hz
end
theorem call_repr_bl {X : Cx} : CallR X (.builtin "repr") (fun xs H Q => ∃ b : Bool, xs = [.bl b] ∧ Q (.str (if b then "True" else "False")) H) := by
  intro pins s σ H xs us Q I r h
  obtain ⟨b, rfl, q⟩ := h
  cases r with
  | cons ru rn =>
    cases rn
    cases ru
    exact PySem.P.repr_of_bool ⟨.str _, H, I.tok _, ⟨_, rfl⟩, q⟩
/-! ### the head's call of such a law -/
theorem law_callG {P : Program} {w : World} {K : PySem.W.Frag} {mg mb : Str → Option Value} {k : Nat} {fa a : Addr} {fd : FuncData} {x : Str} {sp : Sp} {s : Shared} {vs : List Value} {ns : List Int}
    (KX : K.In s.heap) (hns : s.heap.Ns mainGlobals mg) (hb : s.heap.Ns builtinsNs mb) (hbb : ∀ x : Str, x ≠ "__name__" → mb x = bootBuiltins x) (hlim : s.heap.NoLimit) (hg : s.gens = #[])
    (ha : s.heap.get? a = some { cls := .type "list", data := .seq vs.toArray }) (hi : IntsAre vs ns) (hl : ns.length ≤ sizeLine) (hr : Room k callerA)
    (F : ∀ base : Heap, K.In base → base.Ns mainGlobals mg → FnG P w K mg base k fa fd [x] sp) (hbind : ∀ (s : Shared) (u : Value), BindsTo s fd ⟨[u], []⟩ [(x, u)])
    (hsp : ∀ H : Hp, Only H → SqL K H a (ns.map V.int) → sp [.ref a] H (fun v _ => v = .bl true) fun _ _ _ => False) :
    codeAny (model P w) callerA (.call (.ref fa) ⟨[.ref a], []⟩) (fun r s' => r = .ok (.ret (.bool true)) ∧ OldK s.heap s'.heap ∧ s'.os = s.os ∧ AllBare s'.gens) s := by
  let fz : HO := .frz { cls := .type "list", data := .seq vs.toArray } (.lst (ns.map V.int))
  let H : Hp := fun b => if b = a ∧ K.lookup a = none then some fz else none
  have rv := vals_ints hi
  have hH : ∀ {b : Addr} {u : HO}, H b = some u → b = a ∧ K.lookup a = none ∧ u = fz := fun {b u} z => by
    by_cases q : b = a ∧ K.lookup a = none
    · have z' := (if_pos q).symm.trans z
      exact ⟨q.1, q.2, (Option.some.inj z').symm⟩
    · have z' := (if_neg q).symm.trans z
      cases z'
  have hO : Only H := fun b => by
    by_cases q : b = a ∧ K.lookup a = none
    · exact .inr ⟨_, _, if_pos q⟩
    · exact .inl (if_neg q)
  have hok : HOk P w H s.heap := fun b u z => by
    obtain ⟨rfl, _, rfl⟩ := hH z
    exact ⟨ha, by rw [List.length_map]; exact hl, vs, _, rv, ha⟩
  have hS : SqL K H a (ns.map V.int) := by
    cases hk : K.lookup a with
    | some o =>
      have e := KX a o hk
      rw [ha] at e
      cases e
      exact .inr ⟨_, vs.toArray, _, hk, rfl, rfl, rfl, by rw [List.size_toArray, hi.length]; exact hl, by simpa using rv⟩
    | none => exact .inl (.inr ⟨_, if_pos ⟨rfl, hk⟩⟩)
  have hid : ∀ {b : Addr} {o : Obj}, s.heap.get? b = some o → (b = a → K.lookup a = none → False) → (hidT s.heap H).get? b = some o := fun {b o} e n => hidT_get e (by
    cases q : H b with
    | none => rfl
    | some u => exact (n (hH q).1 (hH q).2.1).elim)
  have nsK : ∀ {b : Addr} {m : Str → Option Value}, s.heap.Ns b m → (hidT s.heap H).Ns b m := fun {b m} ⟨o, es, ep, e, d, r⟩ => ⟨o, es, ep, hid e (fun z _ => by
    subst z
    rw [ha] at e
    cases e
    have d' : Data.seq vs.toArray _ = Data.dict es ep := d
    cases d'), d, r⟩
  have hKb : K.In (hidT s.heap H) := fun b o e => hid (KX b o e) fun z n => by
    subst z
    rw [n] at e
    cases e
  have e0 : Env0 P w K mg (hidT s.heap H) callerA [] s H := ⟨rfl, ⟨hKb, nsK hns, ⟨mb, nsK hb, hbb⟩, hlim.elim fun mc h => ⟨mc, nsK h.1, h.2⟩⟩, fun b o e => of_hidT e, Nat.le_of_eq (hidT_size _ _), trivial, fun b hb => absurd hb List.not_mem_nil, hok, .of_eq hg⟩
  refine codeAny_mono ((F _ hKb (nsK hns)).run callerA [] s H ⟨[.ref a], []⟩ [.ref a] [.ref a] _ _ rfl hr e0 (hbind s (.ref a)) (.cons rfl .nil) (hsp H hO hS)) fun r s' h => ?_
  match r, h with
  | .error e, h => exact h.elim
  | .ok .next, h => exact False.elim h
  | .ok .brk, h => exact False.elim h
  | .ok .cont, h => exact False.elim h
  | .ok (.ret u), ⟨v, H', os, bare, un, hok', r', q⟩ =>
    obtain rfl : v = .bl true := q
    obtain rfl : u = Value.bool true := r'
    refine ⟨rfl, OldK.of_keep fun b o e => ?_, os, bare⟩
    cases q : H b with
    | none => exact un.keep b o e q (fun z => List.not_mem_nil z) List.not_mem_nil
    | some u =>
      obtain ⟨rfl, _, rfl⟩ := hH q
      obtain ⟨e1, _⟩ := hok _ _ q
      obtain ⟨e2, _⟩ := hok' _ _ (un.frzs _ _ _ q)
      rw [e] at e1
      cases e1
      exact e2
theorem walk_ofG {l : PySem.W.OpenLaw} {n k : Nat} {q : Program} {loose : List Str} {XP : (Str → Option Value) → Heap → Prop} {YP : World → Heap → Prop} {d : DefRec} {K : Params → PySem.W.Frag} {sp : World → Sp} {x : Str}
    (hn : l.most = some n) (hn2 : n ≤ sizeLine) (hdf : d.params.defaults = []) (hr : Room k callerA)
    (hY : ∀ (w : World) (h : Heap), YP w h → (K w.params).In h)
    (F : ∀ (w : World) (mg : Str → Option Value) (fa : Addr) (h : Heap), (K w.params).In h → h.Ns mainGlobals mg → mg d.name = some (.ref fa) →
      ∃ fd : FuncData, (∀ (s : Shared) (u : Value), BindsTo s fd ⟨[u], []⟩ [(x, u)]) ∧ ∀ base : Heap, (K w.params).In base → base.Ns mainGlobals mg → FnG l.prog w (K w.params) mg base k fa fd [x] (sp w))
    (hsp : ∀ (w : World) (H : Hp) (a : Addr) (ns : List Int), ns.length ≤ n → Only H → SqL (K w.params) H a (ns.map V.int) → sp w [.ref a] H (fun v _ => v = .bl true) fun _ _ _ => False) :
    PySem.W.WalkO q loose XP YP l.row.toRowW d [] (fun f vs => PySem.call f vs) := by
  apply Att.attach_call hn hdf
  intro w s₀ s₁ mg mb fa o pm cd doc a vs ns G Y ho hd hcd hmg hobj hints hlen hg
  obtain ⟨fd, hb, hF⟩ := F w mg fa _ (hY w _ Y) G.T.g hmg
  exact law_callG (hY w _ Y) G.T.g G.T.b G.T.builtins G.T.nolimit hg hobj hints (Nat.le_trans hlen hn2) hr hF hb fun H hO hS => hsp w H a ns hlen hO hS
end Hx

set_option Elab.async false
set_option linter.all false
set_option maxRecDepth 100000
set_option maxHeartbeats 4000000
namespace Hx
open PySem PySem.Spec PyProof.Rows L2
/-- x == y by the class's own ==, whatever it answers -/
theorem op_eqOwn {X : Cx} {n : Nat} {C f : Addr} {fd : FuncData} {ps : List Str} {sp : Sp} (F : FnOk X.prog X.w X.K X.mg X.base CX0 n f fd ps sp) (hr : Room n X.A)
    (hs : PySem.W.findIn X.K (.ref C) "__eq__" = some (some (.ref f))) (hf : PySem.W.isFn X.K (.ref f) = true) (hb : Binds X.K fd ps []) :
    OpR X (compareOp .Eq) (fun x y H Q => ∃ a b dx dy fs gs, x = .ref a ∧ y = .ref b ∧ H a = some (.ins C dx fs) ∧ H b = some (.ins C dy gs) ∧ sp [.ref a, .ref b] H (fun v H' => ∃ c, v = .bl c ∧ Q (.bl c) H') (fun _ _ _ => False)) := by
  intro pins s σ H x y v u Q I rx ry h
  obtain ⟨a, b, dx, dy, fs, gs, rfl, rfl, ha, hb', hsp⟩ := h
  cases rx
  cases ry
  obtain ⟨mA, J, _⟩ := ins_get I.hok ha
  obtain ⟨mB, J', _⟩ := ins_get I.hok hb'
  obtain ⟨od, J, _⟩ := J.look
  obtain ⟨od', J', _⟩ := J'.look
  obtain ⟨m, hF⟩ := I.fr
  have hu := hr.un
  refine PySem.W.cmp_K (op := .Eq) (tb := .ref C) (by omega) hF I.ok.mod.kin J J'.type (by simp [PySem.W.notFirst]) hs hf ?_
  have hl := F.len _ _ _ _ hsp
  have r2 : Vals [V.ref a, V.ref b] [Value.ref a, Value.ref b] := .cons rfl (.cons rfl .nil)
  have hB : BindsTo s fd ⟨[.ref a, .ref b], []⟩ (ps.zip [.ref a, .ref b]) := by
    have := hb s [.ref a, .ref b] I.kIn (by simpa using hl)
    simpa using this
  refine wpAny_call (codeAny_mono (F.run X.A X.stack s H ⟨[.ref a, .ref b], []⟩ [.ref a, .ref b] [.ref a, .ref b] _ _ hr I.env0 hB r2 hsp) fun r s' hq => ?_)
  match r, hq with
  | .ok (.ret w), hq =>
    obtain ⟨z, H', I', rz, c, rfl, q⟩ := I.after hq
    cases rz
    exact ⟨.bl c, H', I', rfl, q⟩
  | .error e, hq => exact False.elim hq
  | .ok .next, hq => exact False.elim hq
  | .ok .brk, hq => exact False.elim hq
  | .ok .cont, hq => exact False.elim hq
/-! ### how long the text of whole numbers is -/
theorem text_le : ∀ (ts : List Str) (k : Nat) (acc : Str), (textFrom k acc ts).length ≤ acc.length + piled ts
  | [], _, acc => Nat.le_add_right _ _
  | t :: r, k, acc => by
    have ih := text_le r (k + 1) (acc ++ (if k > 0 then ", " else "" : String) ++ t)
    have e : (acc ++ (if k > 0 then ", " else "" : String) ++ t).length ≤ acc.length + 2 + t.length := by
      rw [strLen_append, strLen_append]
      split
      · exact Nat.le_refl _
      · exact Nat.add_le_add_right (Nat.add_le_add_left (Nat.zero_le 2) _) _
    show (textFrom (k + 1) _ r).length ≤ _
    rw [piled_cons]; omega
theorem piled_words : ∀ ns : List Int, (∀ n ∈ ns, 0 ≤ n ∧ n < 10 ^ 20) → piled (PyData.shownAll (ns.map PyData.int)) ≤ 22 * ns.length
  | [], _ => Nat.le_refl _
  | n :: r, h => by
    have i := piled_words r fun x hx => h x (List.mem_cons_of_mem _ hx)
    have j := toString_length_le (h n List.mem_cons_self).1 (by decide : 0 < 20) (h n List.mem_cons_self).2
    rw [List.map_cons, PyData.shownAll, piled_cons, PyData.shown, List.length_cons]
    omega
theorem words_dict : ∀ ns : List Int, PyData.hasDictAll (ns.map PyData.int) = false
  | [] => rfl
  | n :: r => by rw [List.map_cons, PyData.hasDictAll, PyData.hasDict, words_dict r] <;> rfl
theorem log_small {n : Int} (h : 0 ≤ n ∧ n < 10 ^ 20) : n.natAbs.log2 < 1920 := by
  by_cases z : n.natAbs = 0
  · rw [z]; decide
  · refine Nat.lt_trans (m := 67) ?_ (by decide)
    rw [Nat.log2_lt z]
    omega
theorem words_show : ∀ ns : List Int, (∀ n ∈ ns, 0 ≤ n ∧ n < 10 ^ 20) → PyData.showableAll (ns.map PyData.int) = true
  | [], _ => rfl
  | n :: r, h => by
    rw [List.map_cons, PyData.showableAll, PyData.showable, words_show r fun x hx => h x (List.mem_cons_of_mem _ hx), decide_eq_true (log_small (h n List.mem_cons_self))] <;> rfl
theorem words_depth : ∀ ns : List Int, PyData.depthAll (ns.map PyData.int) = 0
  | [] => by simp [PyData.depthAll]
  | n :: r => by simp [PyData.depthAll, PyData.depth, words_depth r]
/-- a list of words: all that repr asks -/
theorem shown_words {ns : List Int} (h : ∀ n ∈ ns, 0 ≤ n ∧ n < 10 ^ 20) (hl : ns.length ≤ 400) : (PyData.list (ns.map PyData.int)).showable = true ∧ (PyData.list (ns.map PyData.int)).hasDict = false ∧ (PyData.list (ns.map PyData.int)).depth ≤ 64 ∧ (PyData.list (ns.map PyData.int)).shown.length ≤ sizeLine := by
  refine ⟨by rw [PyData.showable]; exact words_show ns h, by rw [PyData.hasDict]; exact words_dict ns, by rw [PyData.depth, words_depth]; decide, ?_⟩
  rw [PyData.shown]
  have a := text_le (PyData.shownAll (ns.map PyData.int)) 0 "["
  have b := piled_words ns h
  show (textFrom 0 "[" _ ++ "]").length ≤ _
  rw [strLen_append, sizeLine_eq]
  have e : (("[" : String) : Str).length = 1 := rfl
  have e2 : (("]" : String) : Str).length = 1 := rfl
  rw [e] at a
  rw [e2]
  omega
/-! ### o.m(b=.., a=..) of two, in the other sequence -/
def kwR {α : Type} (us ws : List α) : List α := match us, ws with | [x], [b, a] => [x, a, b] | _, _ => []
theorem kw_bindsR {K : PySem.W.Frag} {x qual : Str} {st : Stmt} {f : Addr} {fd : FuncData} {ps : List Str} {p0 p1 p2 : Str} (F : Fun K x qual st f fd) (hp : ps = [p0, p1, p2])
    (h : ∀ (kV doc pm : Value) (an : Option Addr) (cdv ct : Value) (u a b : Value), bindArgs (PySem.W.fnOf x qual (defArgs st) (defBody st) (defScope st) .none kV doc pm an cdv ct) ⟨[u], [(p2, b), (p1, a)]⟩ = pure [(p0, u), (p1, a), (p2, b)]) : KBinds K fd ps [p2, p1] kwR kwR := by
  obtain ⟨oc, od, kV, doc, pm, an, cdv, ct, osl, rfl, lk, hcd⟩ := F.ex
  subst hp
  refine ⟨fun s us ws _ hl => ?_, fun {vs us zs ws} r1 r2 => ?_⟩
  · match us, ws, hl with
    | [u], [b, a], _ => exact .of_eq (h kV doc pm an cdv ct u a b)
    | [], _, hl => simp [kwR] at hl
    | [_], [], hl => simp [kwR] at hl
    | [_], [_], hl => simp [kwR] at hl
    | [_], _ :: _ :: _ :: _, hl => simp [kwR] at hl
    | _ :: _ :: _, _, hl => simp [kwR] at hl
  · cases r1 with
    | nil => exact .nil
    | cons a t =>
      cases t with
      | cons b t => exact .nil
      | nil =>
        cases r2 with
        | nil => exact .nil
        | cons b r2 =>
          cases r2 with
          | nil => exact .nil
          | cons c r2 =>
            cases r2 with
            | nil => exact .cons a (.cons c (.cons b .nil))
            | cons _ _ => exact .nil
/-! ### a list of ints beside the empty one -/
theorem eqv_nil (ns : List Int) : PyData.eqv (.list (ns.map PyData.int)) (.list []) = ns.isEmpty := by
  cases ns with
  | nil => exact eqv_ints []
  | cons a r => simp [PyData.eqv, PyData.eqvAll]
theorem op_neNil {X : Cx} (hu : X.A.units + 64 < cLine) : OpR X (compareOp .NotEq) (fun x y H Q => ∃ (p q : Addr) (ns : List Int), x = .ref p ∧ y = .ref q ∧ SqL X.K H p (ns.map V.int) ∧ SqL X.K H q [] ∧ Q (.bl (!ns.isEmpty)) H) := by
  intro pins s σ H x y v u Q I rx ry ⟨p, q, ns, e1, e2, h1, h2, k⟩
  refine op_neD hu pins s σ H x y v u Q I rx ry ⟨.list (ns.map PyData.int), .list [], ?_, ?_, ?_, ?_, ?_⟩
  · rw [e1]; exact .lst h1 (dp_ints ns)
  · rw [e2]; exact .lst h2 .nil
  · exact sh_ints ns
  · exact sh_ints []
  · rw [eqv_nil]; exact k
end Hx

set_option Elab.async false
set_option linter.all false
set_option maxRecDepth 100000
set_option maxHeartbeats 4000000
namespace Hx
open PySem PySem.Spec PyProof.Rows L2
/-! ### lists of pairs of ints; things of the same data in a grown heap -/
def rowD (r : Int × Int) : PyData := .tuple [.int r.1, .int r.2]
def rowsD (rs : List (Int × Int)) : PyData := .list (rs.map rowD)
theorem dp_rows {K : PySem.W.Frag} {H : Hp} : ∀ (ts : List Addr) (rs : List (Int × Int)), ts.length = rs.length → (∀ (i : Nat) (t : Addr) (r : Int × Int), ts[i]? = some t → rs[i]? = some r → H t = some (.tup [.int r.1, .int r.2])) → DpAll K H (ts.map V.ref) (rs.map rowD)
  | [], [], _, _ => .nil
  | t :: ts, r :: rs, hl, h => .cons (.tup (SqT.of (h 0 t r rfl rfl)) (.cons (.int _) (.cons (.int _) .nil))) (dp_rows ts rs (by simpa using hl) fun i t' r' h1 h2 => h (i + 1) t' r' (by simpa using h1) (by simpa using h2))
  | [], _ :: _, hl, _ => by simp at hl
  | _ :: _, [], hl, _ => by simp at hl
theorem rows_sh (rs : List (Int × Int)) : SeqAt.shaped (rowsD rs) = true := flat_sh (n := 2) (flat_list (n := 1) fun d hd => by
  obtain ⟨r, _, rfl⟩ := List.mem_map.mp hd
  exact flat_tup (n := 0) fun d hd => by
    simp at hd
    rcases hd with rfl | rfl <;> exact flat_int 0 _)
theorem sqt_same {K : PySem.W.Frag} {H H' : Hp} {a : Addr} {xs : List V} (s : Same H H') (h : SqT K H a xs) : SqT K H' a xs := h.elim (fun r => r.elim (fun e => .inl (.inl (s _ _ e))) (fun ⟨o, e⟩ => .inl (.inr ⟨o, s _ _ e⟩))) .inr
mutual
theorem dp_same {K : PySem.W.Frag} {H H' : Hp} (s : Same H H') : ∀ (d : PyData) (v : V), Dp K H v d → Dp K H' v d
  | .none, _, h => by cases h; exact .non
  | .bool b, _, h => by cases h; exact .bl b
  | .int i, _, h => by cases h; exact .int i
  | .str x, _, h => by cases h; exact .str x
  | .list ds, _, h => by cases h with | lst h1 h2 => exact .lst (L2.Same.seq s h1) (dpA_same s ds _ h2)
  | .tuple ds, _, h => by cases h with | tup h1 h2 => exact .tup (sqt_same s h1) (dpA_same s ds _ h2)
  | .dict _, _, h => by cases h
theorem dpA_same {K : PySem.W.Frag} {H H' : Hp} (s : Same H H') : ∀ (ds : List PyData) (vs : List V), DpAll K H vs ds → DpAll K H' vs ds
  | [], _, h => by cases h; exact .nil
  | d :: ds, _, h => by cases h with | cons h1 h2 => exact .cons (dp_same s d _ h1) (dpA_same s ds _ h2)
end
end Hx

set_option Elab.async false
set_option linter.all false
set_option maxRecDepth 100000
set_option maxHeartbeats 4000000
namespace Hx
open PySem PySem.Spec PyProof.Rows L2
/-! ### keywords in any sequence: n values by place, then those of the permutation -/
def kwP {α : Type} (n : Nat) (perm : List Nat) (us ws : List α) : List α := if us.length = n ∧ ws.length = perm.length then us ++ perm.filterMap (fun i => ws[i]?) else []
theorem vals_append {a b : List V} {x y : List Value} (h : Vals a x) (k : Vals b y) : Vals (a ++ b) (x ++ y) := by
  induction h with
  | nil => exact k
  | cons r t ih => exact .cons r ih
theorem vals_get {a : List V} {x : List Value} (h : Vals a x) : ∀ i : Nat, (∃ v u, a[i]? = some v ∧ x[i]? = some u ∧ RelV v u) ∨ (a[i]? = none ∧ x[i]? = none) := by
  induction h with
  | nil => exact fun i => .inr ⟨by simp, by simp⟩
  | cons r t ih =>
    intro i
    cases i with
    | zero => exact .inl ⟨_, _, rfl, rfl, r⟩
    | succ j => simpa using ih j
theorem vals_perm {a : List V} {x : List Value} (h : Vals a x) : ∀ perm : List Nat, Vals (perm.filterMap (fun i => a[i]?)) (perm.filterMap (fun i => x[i]?))
  | [] => .nil
  | i :: r => by
    have t := vals_perm h r
    rcases vals_get h i with ⟨v, u, e1, e2, q⟩ | ⟨e1, e2⟩
    · rw [List.filterMap_cons, List.filterMap_cons, e1, e2]; exact .cons q t
    · rw [List.filterMap_cons, List.filterMap_cons, e1, e2]; exact t
theorem vals_kwP {n : Nat} {perm : List Nat} {vs zs : List V} {us ws : List Value} (h : Vals vs us) (k : Vals zs ws) : Vals (kwP n perm vs zs) (kwP n perm us ws) := by
  unfold kwP
  rw [h.length, k.length]
  split
  · exact vals_append h (vals_perm k perm)
  · exact .nil
theorem kw_bindsP {K : PySem.W.Frag} {x qual : Str} {st : Stmt} {f : Addr} {fd : FuncData} {ps ks : List Str} {n : Nat} {perm : List Nat} (F : Fun K x qual st f fd) (h0 : 0 < ps.length)
    (h : ∀ (kV doc pm : Value) (an : Option Addr) (cdv ct : Value) (us ws : List Value), us.length = n → ws.length = perm.length → bindArgs (PySem.W.fnOf x qual (defArgs st) (defBody st) (defScope st) .none kV doc pm an cdv ct) ⟨us, ks.zip ws⟩ = pure (ps.zip (kwP n perm us ws))) : KBinds K fd ps ks (kwP n perm) (kwP n perm) := by
  obtain ⟨oc, od, kV, doc, pm, an, cdv, ct, osl, rfl, lk, hcd⟩ := F.ex
  refine ⟨fun s us ws _ hl => ?_, fun r1 r2 => vals_kwP r1 r2⟩
  by_cases q : us.length = n ∧ ws.length = perm.length
  · exact .of_eq (h kV doc pm an cdv ct us ws q.1 q.2)
  · unfold kwP at hl; rw [if_neg q] at hl; simp at hl; omega
theorem kw_bindsN {K : PySem.W.Frag} {x qual : Str} {st : Stmt} {f : Addr} {fd : FuncData} {ps ks : List Str} {n : Nat} {perm : List Nat} (F : Fun K x qual st f fd) (h0 : ks.length = perm.length)
    (h : ∀ (kV doc pm : Value) (an : Option Addr) (cdv ct : Value) (us ws : List Value), us.length = n → ws.length = perm.length → bindArgs (PySem.W.fnOf x qual (defArgs st) (defBody st) (defScope st) .none kV doc pm an cdv ct) ⟨us, ks.zip ws⟩ = pure (ps.zip (kwP n perm us ws))) : KBn K fd ps n ks (kwP n perm) (kwP n perm) := by
  obtain ⟨oc, od, kV, doc, pm, an, cdv, ct, osl, rfl, lk, hcd⟩ := F.ex
  exact ⟨fun s us ws _ l1 l2 => .of_eq (h kV doc pm an cdv ct us ws l1 (l2.trans h0)), fun r1 r2 => vals_kwP r1 r2⟩
/-! ### an own == beside a list -/
theorem op_eqOwnL {X : Cx} {n : Nat} {C f : Addr} {fd : FuncData} {ps : List Str} {sp : Sp} (F : FnOk X.prog X.w X.K X.mg X.base CX0 n f fd ps sp) (hr : Room n X.A)
    (hs : PySem.W.findIn X.K (.ref C) "__eq__" = some (some (.ref f))) (hf : PySem.W.isFn X.K (.ref f) = true) (hb : Binds X.K fd ps []) (hsl : PySem.W.subIn X.K (.type "list") (.ref C) = some false) :
    OpR X (compareOp .Eq) (fun x y H Q => ∃ a b dx fs xs, x = .ref a ∧ y = .ref b ∧ H a = some (.ins C dx fs) ∧ H b = some (.lst xs) ∧ sp [.ref a, .ref b] H (fun v H' => ∃ c, v = .bl c ∧ Q (.bl c) H') (fun _ _ _ => False)) := by
  intro pins s σ H x y v u Q I rx ry h
  obtain ⟨a, b, dx, fs, xs, rfl, rfl, ha, hb', hsp⟩ := h
  cases rx
  cases ry
  obtain ⟨mA, J, _⟩ := ins_get I.hok ha
  obtain ⟨od, J, _⟩ := J.look
  obtain ⟨_, _, nn, _, h1⟩ := (show ObjOk X.prog X.w H s.heap b (.lst xs) from I.hok b _ hb')
  obtain ⟨m, hF⟩ := I.fr
  have hu := hr.un
  refine PySem.W.cmp_K (op := .Eq) (tb := .type "list") (by omega) hF I.ok.mod.kin J (fun A Q E s k q => wpAny_typeOf_ref (k _ _ h1) q) (by simp [PySem.W.notFirst, hsl]) hs hf ?_
  have hl := F.len _ _ _ _ hsp
  have r2 : Vals [V.ref a, V.ref b] [Value.ref a, Value.ref b] := .cons rfl (.cons rfl .nil)
  have hB : BindsTo s fd ⟨[.ref a, .ref b], []⟩ (ps.zip [.ref a, .ref b]) := by
    have := hb s [.ref a, .ref b] I.kIn (by simpa using hl)
    simpa using this
  refine wpAny_call (codeAny_mono (F.run X.A X.stack s H ⟨[.ref a, .ref b], []⟩ [.ref a, .ref b] [.ref a, .ref b] _ _ hr I.env0 hB r2 hsp) fun r s' hq => ?_)
  match r, hq with
  | .ok (.ret w), hq =>
    obtain ⟨z, H', I', rz, c, rfl, q⟩ := I.after hq
    cases rz
    exact ⟨.bl c, H', I', rfl, q⟩
  | .error e, hq => exact False.elim hq
  | .ok .next, hq => exact False.elim hq
  | .ok .brk, hq => exact False.elim hq
  | .ok .cont, hq => exact False.elim hq
theorem kit_not {K : PySem.W.Frag} {C : Addr} (h1 : PySem.W.isClsIn K C = true) (h2 : PySem.W.typeIn K (.ref C) = some (.type "type")) (h3 : PySem.W.subIn K (.type "list") (.ref C) = some false) : PySem.W.kitOne K (.type "list") (.ref C) = some false := by
  have e : ((PySem.W.clsIn K C).isSome && PySem.W.typeIn K (.ref C) == some (.type "type")) = true := by
    have h1' : (PySem.W.clsIn K C).isSome = true := h1
    rw [h1', h2] <;> rfl
  show (if ((Value.type "list" == .ref C) = true) then some true else (if ((PySem.W.clsIn K C).isSome && PySem.W.typeIn K (.ref C) == some (.type "type")) = true then PySem.W.subIn K (.type "list") (.ref C) else none)) = some false
  rw [if_neg (by intro z; cases z), if_pos e]
  exact h3
/-! ### a comprehension that sifts -/
theorem lc_filt {α : Type} {K : PySem.W.Frag} {a : Addr} {g : TG} {tt : TT} {te : TE} {vs : List Nat} {σ : L2.St} {H1 : Hp} {D : Addr} {Qd : Hp → Prop} (zs : List α) (f : α → V) (t : α → Bool) (ha : SqL K H1 a (zs.map f)) (hD : H1 D = none) (hz : zs.length ≤ 10000)
    (hs : ∀ (i : Nat) (z : α) (H' : Hp) (Qn : Hp → Prop) (Qy : VK), zs[i]? = some z → Same H1 H' → (t z = false → ∀ H'', Same H' H'' → Qn H'') → (t z = true → ∀ H'', Same H' H'' → Qy (f z) H'') → g (f z) (wipe σ vs) H' fun σ2 H2 => wipe σ2 vs = wipe σ vs ∧ tt σ2 H2 fun b H3 => if b = true then te σ2 H3 Qy else Qn H3)
    (hd : ∀ H', Same H1 H' → H' D = some (.lst ((zs.filter t).map f)) → Qd H') :
    ∃ W : Nat → Nat → Hp → Prop, (∃ m, W 0 m (upd H1 D (.lst []))) ∧ ∀ i m H, W i m H →
      ((Itl K a).stop i H ∧ Qd H) ∨ ((Itl K a).go i H ∧ ∃ Nx : Hp → Prop, (∀ H', Nx H' → ∃ m', m' < m ∧ W (i + 1) m' H') ∧ ∀ x H', (Itl K a).yld i H x H' → g x (wipe σ vs) H' fun σ2 H2 => wipe σ2 vs = wipe σ vs ∧ tt σ2 H2 fun b H3 =>
        if b = true then te σ2 H3 fun y H4 => ∃ acc, H4 D = some (.lst acc) ∧ acc.length < sizeLine ∧ Nx (upd H4 D (.lst (acc ++ [y]))) else Nx H3) := by
  refine lc_list (xs := zs.map f) (fun i H => Same H1 H ∧ H D = some (.lst (((zs.take i).filter t).map f))) ⟨same_upd hD, upd_same⟩ (fun i H _ h => L2.Same.seq h.1 ha) (fun i x H hx h => ?_) (fun H h => hd H h.1 (by rw [h.2, List.length_map, List.take_length]))
  rw [List.getElem?_map] at hx
  obtain ⟨z, hz1, rfl⟩ := Option.map_eq_some_iff.mp hx
  have et : zs.take (i + 1) = zs.take i ++ [z] := by rw [List.take_add_one, hz1]; rfl
  refine hs i z H _ _ hz1 h.1 (fun tn H'' s => ?_) (fun ty H'' s => ?_)
  · refine ⟨L2.Same.trans h.1 s, ?_⟩
    rw [s _ _ h.2, et, List.filter_append, List.filter_cons_of_neg (by simp [tn]), List.filter_nil, List.append_nil]
  · refine ⟨((zs.take i).filter t).map f, s _ _ h.2, size_lt ?_, same_set (L2.Same.trans h.1 s) hD, ?_⟩
    · have := List.length_filter_le t (zs.take i)
      simp at this ⊢; omega
    · rw [upd_same, et, List.filter_append, List.filter_cons_of_pos ty, List.filter_nil, List.map_append]; rfl
/-! ### parts of a list -/
theorem cut_from (xs : List V) (k : Nat) : cutV xs (some (k : Int)) none = xs.drop k := by
  unfold cutV
  rw [HT.sIx_nat, HT.sIx_none, List.take_of_length_le (by rw [List.length_drop]; omega)]
  by_cases h : k ≤ xs.length
  · rw [Nat.min_eq_left h]
  · rw [Nat.min_eq_right (by omega), List.drop_length, List.drop_of_length_le (by omega)]
theorem cut_to (xs : List V) (k : Nat) : cutV xs none (some (k : Int)) = xs.take k := by
  unfold cutV
  rw [HT.sIx_nat, HT.sIx_none, List.drop_zero, Nat.sub_zero]
  by_cases h : k ≤ xs.length
  · rw [Nat.min_eq_left h]
  · rw [Nat.min_eq_right (by omega), List.take_length, List.take_of_length_le (by omega)]
/-! ### a list beside the empty one -/
theorem eqv_nilD (ds : List PyData) : PyData.eqv (.list ds) (.list []) = ds.isEmpty := by
  cases ds with
  | nil => rfl
  | cons a r => simp [PyData.eqv, PyData.eqvAll]
end Hx

set_option Elab.async false
set_option linter.all false
set_option maxRecDepth 100000
set_option maxHeartbeats 8000000

namespace K38
open PySem PySem.Spec PyProof.Rows L2 Hx
def top (i : Nat) : Stmt := PySem.Challenge.pw_orderlycore_k38_whole_leans.main.body.getD i (.Pass ⟨0, 0, 0, 0⟩)
abbrev s_is_integer : Stmt := top 13
theorem sc_is_integer : FnScope ["value"] ["value"] (defScope s_is_integer) := ⟨rfl, rfl, rfl, by decide +kernel, rfl, by decide +kernel, by decide +kernel⟩
abbrev s_is_between : Stmt := top 14
theorem sc_is_between : FnScope ["value", "least", "most"] ["value", "least", "most"] (defScope s_is_between) := ⟨rfl, rfl, rfl, by decide +kernel, rfl, by decide +kernel, by decide +kernel⟩
abbrev s_is_word : Stmt := top 22
theorem sc_is_word : FnScope ["value"] ["value"] (defScope s_is_word) := ⟨rfl, rfl, rfl, by decide +kernel, rfl, by decide +kernel, by decide +kernel⟩
abbrev s_is_address : Stmt := top 23
theorem sc_is_address : FnScope ["value"] ["value"] (defScope s_is_address) := ⟨rfl, rfl, rfl, by decide +kernel, rfl, by decide +kernel, by decide +kernel⟩
abbrev s_is_place : Stmt := top 24
theorem sc_is_place : FnScope ["value"] ["value"] (defScope s_is_place) := ⟨rfl, rfl, rfl, by decide +kernel, rfl, by decide +kernel, by decide +kernel⟩
abbrev s_need_word : Stmt := top 25
theorem sc_need_word : FnScope ["value"] ["value"] (defScope s_need_word) := ⟨rfl, rfl, rfl, by decide +kernel, rfl, by decide +kernel, by decide +kernel⟩
abbrev s_need_address : Stmt := top 26
theorem sc_need_address : FnScope ["value"] ["value"] (defScope s_need_address) := ⟨rfl, rfl, rfl, by decide +kernel, rfl, by decide +kernel, by decide +kernel⟩
abbrev s_need_place : Stmt := top 27
theorem sc_need_place : FnScope ["value"] ["value"] (defScope s_need_place) := ⟨rfl, rfl, rfl, by decide +kernel, rfl, by decide +kernel, by decide +kernel⟩
abbrev s_need_bits : Stmt := top 28
theorem sc_need_bits : FnScope ["word", "low", "many"] ["word", "low", "many"] (defScope s_need_bits) := ⟨rfl, rfl, rfl, by decide +kernel, rfl, by decide +kernel, by decide +kernel⟩
abbrev s_bits : Stmt := top 29
theorem sc_bits : FnScope ["word", "low", "many"] ["word", "low", "many"] (defScope s_bits) := ⟨rfl, rfl, rfl, by decide +kernel, rfl, by decide +kernel, by decide +kernel⟩
abbrev s_Memory_init : Stmt := inClass (top 32) 0
theorem sc_Memory_init : FnScope ["self"] ["self"] (defScope s_Memory_init) := ⟨rfl, rfl, rfl, by decide +kernel, rfl, by decide +kernel, by decide +kernel⟩
abbrev s_Memory_word : Stmt := inClass (top 32) 1
theorem sc_Memory_word : FnScope ["self", "place"] ["self", "place"] (defScope s_Memory_word) := ⟨rfl, rfl, rfl, by decide +kernel, rfl, by decide +kernel, by decide +kernel⟩
abbrev s_Memory_put : Stmt := inClass (top 32) 2
theorem sc_Memory_put : FnScope ["self", "place", "word"] ["self", "place", "word"] (defScope s_Memory_put) := ⟨rfl, rfl, rfl, by decide +kernel, rfl, by decide +kernel, by decide +kernel⟩
abbrev s_need_memory : Stmt := top 33
theorem sc_need_memory : FnScope ["value"] ["value"] (defScope s_need_memory) := ⟨rfl, rfl, rfl, by decide +kernel, rfl, by decide +kernel, by decide +kernel⟩
abbrev s_is_memory_place : Stmt := top 34
theorem sc_is_memory_place : FnScope ["value"] ["value"] (defScope s_is_memory_place) := ⟨rfl, rfl, rfl, by decide +kernel, rfl, by decide +kernel, by decide +kernel⟩
abbrev s_need_memory_place : Stmt := top 35
theorem sc_need_memory_place : FnScope ["value"] ["value"] (defScope s_need_memory_place) := ⟨rfl, rfl, rfl, by decide +kernel, rfl, by decide +kernel, by decide +kernel⟩
abbrev s_need_frame : Stmt := top 47
theorem sc_need_frame : FnScope ["value"] ["value"] (defScope s_need_frame) := ⟨rfl, rfl, rfl, by decide +kernel, rfl, by decide +kernel, by decide +kernel⟩
abbrev s_need_way : Stmt := top 48
theorem sc_need_way : FnScope ["value"] ["value"] (defScope s_need_way) := ⟨rfl, rfl, rfl, by decide +kernel, rfl, by decide +kernel, by decide +kernel⟩
abbrev s_need_side : Stmt := top 49
theorem sc_need_side : FnScope ["value"] ["value"] (defScope s_need_side) := ⟨rfl, rfl, rfl, by decide +kernel, rfl, by decide +kernel, by decide +kernel⟩
abbrev s_entry_parts : Stmt := top 50
theorem sc_entry_parts : FnScope ["word"] ["word"] (defScope s_entry_parts) := ⟨rfl, rfl, rfl, by decide +kernel, rfl, by decide +kernel, by decide +kernel⟩
abbrev s_by_entry : Stmt := top 51
theorem sc_by_entry : FnScope ["word", "address", "way", "is_user", "is_there", "flags", "frame", "place"] ["word", "address", "way", "is_user"] (defScope s_by_entry) := ⟨rfl, rfl, rfl, by decide +kernel, rfl, by decide +kernel, by decide +kernel⟩
abbrev s_translated : Stmt := top 52
theorem sc_translated : FnScope ["memory", "root", "address", "way", "is_user", "place", "cause", "leans", "_"] ["memory", "root", "address", "way", "is_user"] (defScope s_translated) := ⟨rfl, rfl, rfl, by decide +kernel, rfl, by decide +kernel, by decide +kernel⟩
abbrev s_walked : Stmt := top 53
theorem sc_walked : FnScope ["words", "root", "address", "way", "is_user", "page", "first", "is_there", "_", "table", "second", "word", "place", "cause"] ["words", "root", "address", "way", "is_user"] (defScope s_walked) := ⟨rfl, rfl, rfl, by decide +kernel, rfl, by decide +kernel, by decide +kernel⟩
abbrev s_page_walk : Stmt := top 54
theorem sc_page_walk : FnScope ["memory", "root", "page"] ["memory", "root", "page"] (defScope s_page_walk) := ⟨rfl, rfl, rfl, by decide +kernel, rfl, by decide +kernel, by decide +kernel⟩
abbrev s_leaning : Stmt := top 55
theorem sc_leaning : FnScope ["memory", "root", "place", "page"] ["memory", "root", "place"] (defScope s_leaning) := ⟨rfl, rfl, rfl, by decide +kernel, rfl, by decide +kernel, by decide +kernel⟩
abbrev s__is_frame : Stmt := top 56
theorem sc__is_frame : FnScope ["value"] ["value"] (defScope s__is_frame) := ⟨rfl, rfl, rfl, by decide +kernel, rfl, by decide +kernel, by decide +kernel⟩
abbrev s__lets : Stmt := top 57
theorem sc__lets : FnScope ["flags", "way", "is_user"] ["flags", "way", "is_user"] (defScope s__lets) := ⟨rfl, rfl, rfl, by decide +kernel, rfl, by decide +kernel, by decide +kernel⟩
abbrev s__entry_place : Stmt := top 58
theorem sc__entry_place : FnScope ["frame", "number"] ["frame", "number"] (defScope s__entry_place) := ⟨rfl, rfl, rfl, by decide +kernel, rfl, by decide +kernel, by decide +kernel⟩
abbrev s_Lpot : Stmt := top 60
theorem sc_Lpot : FnScope ["_law_script", "_law_k", "_law_cell", "_law_mixed"] ["_law_script", "_law_k"] (defScope s_Lpot) := ⟨rfl, rfl, rfl, by decide +kernel, rfl, by decide +kernel, by decide +kernel⟩
abbrev s_Ldraw : Stmt := top 61
theorem sc_Ldraw : FnScope ["_law_pot_here", "_law_size", "_law_digit"] ["_law_pot_here", "_law_size"] (defScope s_Ldraw) := ⟨rfl, rfl, rfl, by decide +kernel, rfl, by decide +kernel, by decide +kernel⟩
abbrev s_Lpick : Stmt := top 62
theorem sc_Lpick : FnScope ["_law_pot_here", "_law_some"] ["_law_pot_here", "_law_some"] (defScope s_Lpick) := ⟨rfl, rfl, rfl, by decide +kernel, rfl, by decide +kernel, by decide +kernel⟩
abbrev s_Lword : Stmt := top 63
theorem sc_Lword : FnScope ["_law_rows", "_law_place", "_law_where", "_law_word_here"] ["_law_rows", "_law_place"] (defScope s_Lword) := ⟨rfl, rfl, rfl, by decide +kernel, rfl, by decide +kernel, by decide +kernel⟩
abbrev s_Lcause : Stmt := top 64
theorem sc_Lcause : FnScope ["_law_way"] ["_law_way"] (defScope s_Lcause) := ⟨rfl, rfl, rfl, by decide +kernel, rfl, by decide +kernel, by decide +kernel⟩
abbrev s_Lsecond : Stmt := top 65
theorem sc_Lsecond : FnScope ["_law_word_here", "_law_address", "_law_way", "_law_is_user", "_law_place"] ["_law_word_here", "_law_address", "_law_way", "_law_is_user"] (defScope s_Lsecond) := ⟨rfl, rfl, rfl, by decide +kernel, rfl, by decide +kernel, by decide +kernel⟩
abbrev s_Ltold : Stmt := top 66
theorem sc_Ltold : FnScope ["_law_rows", "_law_root", "_law_address", "_law_way", "_law_is_user", "_law_first", "_law_word_here", "_law_second_here", "_law_place", "_law_cause_here"] ["_law_rows", "_law_root", "_law_address", "_law_way", "_law_is_user"] (defScope s_Ltold) := ⟨rfl, rfl, rfl, by decide +kernel, rfl, by decide +kernel, by decide +kernel⟩
abbrev s_Lentry : Stmt := top 67
theorem sc_Lentry : FnScope ["_law_pot_here", "_law_frame", "_law_word_here"] ["_law_pot_here", "_law_frame"] (defScope s_Lentry) := ⟨rfl, rfl, rfl, by decide +kernel, rfl, by decide +kernel, by decide +kernel⟩
abbrev s_Lput : Stmt := top 68
theorem sc_Lput : FnScope ["_law_pot_here", "_law_memory", "_law_rows", "_law_place", "_law_word_here", "_law_where", "_law_old"] ["_law_pot_here", "_law_memory", "_law_rows", "_law_place", "_law_word_here"] (defScope s_Lput) := ⟨rfl, rfl, rfl, by decide +kernel, rfl, by decide +kernel, by decide +kernel⟩
abbrev s_Llean : Stmt := top 69
theorem sc_Llean : FnScope ["_law_rows", "_law_root", "_law_place", "_law_pages", "_law_found", "_law_page"] ["_law_rows", "_law_root", "_law_place", "_law_pages"] (defScope s_Llean) := ⟨rfl, rfl, rfl, by decide +kernel, rfl, by decide +kernel, by decide +kernel⟩
abbrev s_Lright : Stmt := top 70
theorem sc_Lright : FnScope ["_law_pot_here", "_law_root", "_law_memory", "_law_rows", "_law_tables", "_law_number", "_law_word_here", "_law_turn", "_law_place", "_law_address", "_law_way", "_law_is_user", "_law_before", "_law_told_here", "_law_places", "_law_after", "_law_pages", "_law_page"] ["_law_pot_here"] (defScope s_Lright) := ⟨rfl, rfl, rfl, by decide +kernel, rfl, by decide +kernel, by decide +kernel⟩
abbrev s_law : Stmt := top 71
theorem sc_law : FnScope ["_law_script"] ["_law_script"] (defScope s_law) := ⟨rfl, rfl, rfl, by decide +kernel, rfl, by decide +kernel, by decide +kernel⟩
structure Txt (w : World) (K : PySem.W.Frag) (mg : Str → Option Value) where
  C_Memory : Addr
  cl_Memory : Cls K C_Memory
  g_Memory : mg "Memory" = some (.ref C_Memory)
  n_Memory_words : NoAttr K C_Memory "_words"
  f_is_integer : Addr
  fd_is_integer : FuncData
  F_is_integer : Fun K "is_integer" "is_integer" s_is_integer f_is_integer fd_is_integer
  g_is_integer : mg "is_integer" = some (.ref f_is_integer)
  b_is_integer : Binds K fd_is_integer ["value"] []
  f_is_between : Addr
  fd_is_between : FuncData
  F_is_between : Fun K "is_between" "is_between" s_is_between f_is_between fd_is_between
  g_is_between : mg "is_between" = some (.ref f_is_between)
  b_is_between : Binds K fd_is_between ["value", "least", "most"] []
  f_is_word : Addr
  fd_is_word : FuncData
  F_is_word : Fun K "is_word" "is_word" s_is_word f_is_word fd_is_word
  g_is_word : mg "is_word" = some (.ref f_is_word)
  b_is_word : Binds K fd_is_word ["value"] []
  f_is_address : Addr
  fd_is_address : FuncData
  F_is_address : Fun K "is_address" "is_address" s_is_address f_is_address fd_is_address
  g_is_address : mg "is_address" = some (.ref f_is_address)
  b_is_address : Binds K fd_is_address ["value"] []
  f_is_place : Addr
  fd_is_place : FuncData
  F_is_place : Fun K "is_place" "is_place" s_is_place f_is_place fd_is_place
  g_is_place : mg "is_place" = some (.ref f_is_place)
  b_is_place : Binds K fd_is_place ["value"] []
  f_need_word : Addr
  fd_need_word : FuncData
  F_need_word : Fun K "need_word" "need_word" s_need_word f_need_word fd_need_word
  g_need_word : mg "need_word" = some (.ref f_need_word)
  b_need_word : Binds K fd_need_word ["value"] []
  f_need_address : Addr
  fd_need_address : FuncData
  F_need_address : Fun K "need_address" "need_address" s_need_address f_need_address fd_need_address
  g_need_address : mg "need_address" = some (.ref f_need_address)
  b_need_address : Binds K fd_need_address ["value"] []
  f_need_place : Addr
  fd_need_place : FuncData
  F_need_place : Fun K "need_place" "need_place" s_need_place f_need_place fd_need_place
  g_need_place : mg "need_place" = some (.ref f_need_place)
  b_need_place : Binds K fd_need_place ["value"] []
  f_need_bits : Addr
  fd_need_bits : FuncData
  F_need_bits : Fun K "need_bits" "need_bits" s_need_bits f_need_bits fd_need_bits
  g_need_bits : mg "need_bits" = some (.ref f_need_bits)
  b_need_bits : Binds K fd_need_bits ["word", "low", "many"] []
  f_bits : Addr
  fd_bits : FuncData
  F_bits : Fun K "bits" "bits" s_bits f_bits fd_bits
  g_bits : mg "bits" = some (.ref f_bits)
  b_bits : Binds K fd_bits ["word", "low", "many"] []
  f_Memory_init : Addr
  fd_Memory_init : FuncData
  F_Memory_init : Fun K "__init__" "Memory.__init__" s_Memory_init f_Memory_init fd_Memory_init
  b_Memory_init : Binds K fd_Memory_init ["self"] []
  mk_Memory : Mk K C_Memory f_Memory_init
  f_Memory_word : Addr
  fd_Memory_word : FuncData
  F_Memory_word : Fun K "word" "Memory.word" s_Memory_word f_Memory_word fd_Memory_word
  b_Memory_word : Binds K fd_Memory_word ["self", "place"] []
  me_Memory_word : Meth K C_Memory "word" f_Memory_word
  f_Memory_put : Addr
  fd_Memory_put : FuncData
  F_Memory_put : Fun K "put" "Memory.put" s_Memory_put f_Memory_put fd_Memory_put
  b_Memory_put : Binds K fd_Memory_put ["self", "place", "word"] []
  me_Memory_put : Meth K C_Memory "put" f_Memory_put
  f_need_memory : Addr
  fd_need_memory : FuncData
  F_need_memory : Fun K "need_memory" "need_memory" s_need_memory f_need_memory fd_need_memory
  g_need_memory : mg "need_memory" = some (.ref f_need_memory)
  b_need_memory : Binds K fd_need_memory ["value"] []
  f_is_memory_place : Addr
  fd_is_memory_place : FuncData
  F_is_memory_place : Fun K "is_memory_place" "is_memory_place" s_is_memory_place f_is_memory_place fd_is_memory_place
  g_is_memory_place : mg "is_memory_place" = some (.ref f_is_memory_place)
  b_is_memory_place : Binds K fd_is_memory_place ["value"] []
  f_need_memory_place : Addr
  fd_need_memory_place : FuncData
  F_need_memory_place : Fun K "need_memory_place" "need_memory_place" s_need_memory_place f_need_memory_place fd_need_memory_place
  g_need_memory_place : mg "need_memory_place" = some (.ref f_need_memory_place)
  b_need_memory_place : Binds K fd_need_memory_place ["value"] []
  f_need_frame : Addr
  fd_need_frame : FuncData
  F_need_frame : Fun K "need_frame" "need_frame" s_need_frame f_need_frame fd_need_frame
  g_need_frame : mg "need_frame" = some (.ref f_need_frame)
  b_need_frame : Binds K fd_need_frame ["value"] []
  f_need_way : Addr
  fd_need_way : FuncData
  F_need_way : Fun K "need_way" "need_way" s_need_way f_need_way fd_need_way
  g_need_way : mg "need_way" = some (.ref f_need_way)
  b_need_way : Binds K fd_need_way ["value"] []
  f_need_side : Addr
  fd_need_side : FuncData
  F_need_side : Fun K "need_side" "need_side" s_need_side f_need_side fd_need_side
  g_need_side : mg "need_side" = some (.ref f_need_side)
  b_need_side : Binds K fd_need_side ["value"] []
  f_entry_parts : Addr
  fd_entry_parts : FuncData
  F_entry_parts : Fun K "entry_parts" "entry_parts" s_entry_parts f_entry_parts fd_entry_parts
  g_entry_parts : mg "entry_parts" = some (.ref f_entry_parts)
  b_entry_parts : Binds K fd_entry_parts ["word"] []
  f_by_entry : Addr
  fd_by_entry : FuncData
  F_by_entry : Fun K "by_entry" "by_entry" s_by_entry f_by_entry fd_by_entry
  g_by_entry : mg "by_entry" = some (.ref f_by_entry)
  b_by_entry : Binds K fd_by_entry ["word", "address", "way", "is_user"] []
  f_translated : Addr
  fd_translated : FuncData
  F_translated : Fun K "translated" "translated" s_translated f_translated fd_translated
  g_translated : mg "translated" = some (.ref f_translated)
  b_translated : Binds K fd_translated ["memory", "root", "address", "way", "is_user"] []
  f_walked : Addr
  fd_walked : FuncData
  F_walked : Fun K "walked" "walked" s_walked f_walked fd_walked
  g_walked : mg "walked" = some (.ref f_walked)
  b_walked : Binds K fd_walked ["words", "root", "address", "way", "is_user"] []
  f_page_walk : Addr
  fd_page_walk : FuncData
  F_page_walk : Fun K "page_walk" "page_walk" s_page_walk f_page_walk fd_page_walk
  g_page_walk : mg "page_walk" = some (.ref f_page_walk)
  b_page_walk : Binds K fd_page_walk ["memory", "root", "page"] []
  f_leaning : Addr
  fd_leaning : FuncData
  F_leaning : Fun K "leaning" "leaning" s_leaning f_leaning fd_leaning
  g_leaning : mg "leaning" = some (.ref f_leaning)
  b_leaning : Binds K fd_leaning ["memory", "root", "place"] []
  f__is_frame : Addr
  fd__is_frame : FuncData
  F__is_frame : Fun K "_is_frame" "_is_frame" s__is_frame f__is_frame fd__is_frame
  g__is_frame : mg "_is_frame" = some (.ref f__is_frame)
  b__is_frame : Binds K fd__is_frame ["value"] []
  f__lets : Addr
  fd__lets : FuncData
  F__lets : Fun K "_lets" "_lets" s__lets f__lets fd__lets
  g__lets : mg "_lets" = some (.ref f__lets)
  b__lets : Binds K fd__lets ["flags", "way", "is_user"] []
  f__entry_place : Addr
  fd__entry_place : FuncData
  F__entry_place : Fun K "_entry_place" "_entry_place" s__entry_place f__entry_place fd__entry_place
  g__entry_place : mg "_entry_place" = some (.ref f__entry_place)
  b__entry_place : Binds K fd__entry_place ["frame", "number"] []
  f_Lpot : Addr
  fd_Lpot : FuncData
  F_Lpot : Fun K "_law_pot" "_law_pot" s_Lpot f_Lpot fd_Lpot
  g_Lpot : mg "_law_pot" = some (.ref f_Lpot)
  b_Lpot : Binds K fd_Lpot ["_law_script", "_law_k"] []
  f_Ldraw : Addr
  fd_Ldraw : FuncData
  F_Ldraw : Fun K "_law_draw" "_law_draw" s_Ldraw f_Ldraw fd_Ldraw
  g_Ldraw : mg "_law_draw" = some (.ref f_Ldraw)
  b_Ldraw : Binds K fd_Ldraw ["_law_pot_here", "_law_size"] []
  f_Lpick : Addr
  fd_Lpick : FuncData
  F_Lpick : Fun K "_law_pick" "_law_pick" s_Lpick f_Lpick fd_Lpick
  g_Lpick : mg "_law_pick" = some (.ref f_Lpick)
  b_Lpick : Binds K fd_Lpick ["_law_pot_here", "_law_some"] []
  f_Lword : Addr
  fd_Lword : FuncData
  F_Lword : Fun K "_law_word" "_law_word" s_Lword f_Lword fd_Lword
  g_Lword : mg "_law_word" = some (.ref f_Lword)
  b_Lword : Binds K fd_Lword ["_law_rows", "_law_place"] []
  f_Lcause : Addr
  fd_Lcause : FuncData
  F_Lcause : Fun K "_law_cause" "_law_cause" s_Lcause f_Lcause fd_Lcause
  g_Lcause : mg "_law_cause" = some (.ref f_Lcause)
  b_Lcause : Binds K fd_Lcause ["_law_way"] []
  f_Lsecond : Addr
  fd_Lsecond : FuncData
  F_Lsecond : Fun K "_law_second" "_law_second" s_Lsecond f_Lsecond fd_Lsecond
  g_Lsecond : mg "_law_second" = some (.ref f_Lsecond)
  b_Lsecond : Binds K fd_Lsecond ["_law_word_here", "_law_address", "_law_way", "_law_is_user"] []
  f_Ltold : Addr
  fd_Ltold : FuncData
  F_Ltold : Fun K "_law_told" "_law_told" s_Ltold f_Ltold fd_Ltold
  g_Ltold : mg "_law_told" = some (.ref f_Ltold)
  b_Ltold : Binds K fd_Ltold ["_law_rows", "_law_root", "_law_address", "_law_way", "_law_is_user"] []
  f_Lentry : Addr
  fd_Lentry : FuncData
  F_Lentry : Fun K "_law_entry" "_law_entry" s_Lentry f_Lentry fd_Lentry
  g_Lentry : mg "_law_entry" = some (.ref f_Lentry)
  b_Lentry : Binds K fd_Lentry ["_law_pot_here", "_law_frame"] []
  f_Lput : Addr
  fd_Lput : FuncData
  F_Lput : Fun K "_law_put" "_law_put" s_Lput f_Lput fd_Lput
  g_Lput : mg "_law_put" = some (.ref f_Lput)
  b_Lput : Binds K fd_Lput ["_law_pot_here", "_law_memory", "_law_rows", "_law_place", "_law_word_here"] []
  f_Llean : Addr
  fd_Llean : FuncData
  F_Llean : Fun K "_law_lean" "_law_lean" s_Llean f_Llean fd_Llean
  g_Llean : mg "_law_lean" = some (.ref f_Llean)
  b_Llean : Binds K fd_Llean ["_law_rows", "_law_root", "_law_place", "_law_pages"] []
  f_Lright : Addr
  fd_Lright : FuncData
  F_Lright : Fun K "_law_right" "_law_right" s_Lright f_Lright fd_Lright
  g_Lright : mg "_law_right" = some (.ref f_Lright)
  b_Lright : Binds K fd_Lright ["_law_pot_here"] []
  f_law : Addr
  fd_law : FuncData
  F_law : Fun K "law" "law" s_law f_law fd_law
  g_law : mg "law" = some (.ref f_law)
  b_law : Binds K fd_law ["_law_script"] []
  m_abs : mg "abs" = none
  m_bool : mg "bool" = none
  m_divmod : mg "divmod" = none
  m_int : mg "int" = none
  m_isinstance : mg "isinstance" = none
  m_len : mg "len" = none
  m_max : mg "max" = none
  m_range : mg "range" = none
  m_sorted : mg "sorted" = none
  m_str : mg "str" = none
  c_NO_CAUSE : ∃ t, mg "NO_CAUSE" = some (.int 0 t)
  c_NO_SUCH_PLACE : ∃ t, mg "NO_SUCH_PLACE" = some (.int 7 t)
  c__WORD_BITS : ∃ t, mg "_WORD_BITS" = some (.int 16 t)
  c_WORDS : ∃ t, mg "WORDS" = some (.int 65536 t)
  c_ADDRESSES : ∃ t, mg "ADDRESSES" = some (.int 4096 t)
  c_PLACES : ∃ t, mg "PLACES" = some (.int 1024 t)
  c_MEMORY_PLACES : ∃ t, mg "MEMORY_PLACES" = some (.int 960 t)
  c_PAGE_WORDS : ∃ t, mg "PAGE_WORDS" = some (.int 16 t)
  c__PAGES : ∃ t, mg "_PAGES" = some (.int 256 t)
  c__FRAMES : ∃ t, mg "_FRAMES" = some (.int 64 t)
  c__USERS_FLAG : ∃ t, mg "_USERS_FLAG" = some (.int 1 t)
  c__WRITABLE_FLAG : ∃ t, mg "_WRITABLE_FLAG" = some (.int 2 t)
  c__THERE_BIT : ∃ t, mg "_THERE_BIT" = some (.int 15 t)
  c__FLAGS_BIT : ∃ t, mg "_FLAGS_BIT" = some (.int 13 t)
  c__FLAGS_BITS : ∃ t, mg "_FLAGS_BITS" = some (.int 2 t)
  c__FRAME_BITS : ∃ t, mg "_FRAME_BITS" = some (.int 6 t)
  ic_Memory : PySem.W.findIn K (.ref C_Memory) "__class__" = some (some (.builtin "object.__class__"))
  in_Memory : PySem.W.specialIn K (.builtin "object.__class__") "__get__" = some (some (.builtin "getset_descriptor.__get__"))
  it_Memory : PySem.W.takesIn K (.builtin "object.__class__") = some true
  im_Memory : PySem.W.mroIn K C_Memory (.type "object") = some true
  D_W : Addr
  es_W : Array DictEntry
  nn_W : Nat
  g_W : mg "_WAY_CAUSES" = some (.ref D_W)
  k_W : KDict K w D_W es_W nn_W
  w0_W : ∃ t, PySem.W.nsIn K D_W "fetch" = some (some (.int 4 t))
  w1_W : ∃ t, PySem.W.nsIn K D_W "load" = some (some (.int 5 t))
  w2_W : ∃ t, PySem.W.nsIn K D_W "store" = some (some (.int 6 t))
end K38

set_option Elab.async false
set_option linter.all false
set_option maxRecDepth 100000
set_option maxHeartbeats 8000000

namespace K38
open PySem PySem.Spec PyProof.Rows L2 Hx 
local macro_rules | `(tactic| walk_at "sm") => `(tactic| repeat' (first | assumption | apply Hx.Same.upd | exact L2.Same.refl _ | apply same_trans'))
local macro_rules | `(tactic| walk_at "hp") => `(tactic| repeat' (first | assumption | exact upd_same | apply old_upd | apply same_at))
local macro_rules | `(tactic| walk_at "rd") => `(tactic| repeat' (first | rfl | apply Exists.intro | apply And.intro | refine iteT ?_ | refine iteF ?_ | exact upd_same | exact SqL.of (by assumption) | exact SqL.of upd_same | exact SqT.of upd_same | exact SqT.of (by assumption) | ((with_reducible show (_ : Int) < _); omega) | ((with_reducible show (_ : Int) ≤ _); omega) | (show (_ : Prop); assumption) | exact Or.inl ⟨_, by assumption, rfl⟩ | exact Or.inl ⟨rfl, _, SqL.of (by assumption)⟩ | exact Or.inl ⟨rfl, _, SqL.of upd_same⟩ | apply old_upd | apply Hx.SqL.new | apply tyl_new | apply Pot.new | exact same_at (by assumption) (by assumption) | exact Or.inl (SqL.of (by assumption)) | exact Or.inl (by assumption) | exact Or.inl (SqL.of upd_same) | exact size_le (Nat.le_of_ble_eq_true rfl) | exact Nat.le_of_ble_eq_true rfl | exact True.intro | exact Or.inl rfl | exact Or.inr rfl | (show (_ : Prop); omega) | (show (_ : Prop); dsimp only; omega) | exact mulw64 (by omega) (by omega) | exact mulw64 (by (try dsimp only); omega) (by (try dsimp only); omega)))

section
variable {P : Program} {w : World} {K : PySem.W.Frag} {mg : Str → Option Value} {base : Heap}
def sp_is_integer : Sp := fun vs H Q _ => ∃ i : Int, vs = [.int i] ∧ Q (.bl true) H
theorem ok_is_integer (T : Txt w K mg) : FnOk P w K mg base CX0 1 T.f_is_integer T.fd_is_integer ["value"] (sp_is_integer) := by
  refine T.F_is_integer.ok sc_is_integer (fun vs H Q E h => ?_) (fun cdv A outer s H vs Q E hr h => ?_)
  · obtain ⟨i, rfl, k⟩ := h; rfl
  · obtain ⟨i, rfl, k⟩ := h
    refine ⟨_, (pss_one (ps_ret (pe_and (pe_callB call_isi (by rfl) T.m_isinstance (by decide +kernel) (pa_cons (pv 0) (pa_cons (pe_bltn (v := .ty "int") (u := .type "int") (by rfl) T.m_int (by decide +kernel) rfl) pa_nil))) (pe_one (pe_not (pe_callB call_isi (by rfl) T.m_isinstance (by decide +kernel) (pa_cons (pv 0) (pa_cons (pe_bltn (v := .ty "bool") (u := .type "bool") (by rfl) T.m_bool (by decide +kernel) rfl) pa_nil)))))))), ?_⟩
    clear hr
    refine ⟨_, rfl, _, _, _, _, true, rfl, .ty _, .base (.int _), kit_ty (by decide +kernel), true, rfl, iteT ?_⟩
    refine ⟨_, rfl, _, _, _, _, false, rfl, .ty _, .base (.int _), kit_ty (by decide +kernel), false, rfl, k⟩
def sp_is_between : Sp := fun vs H Q _ => ∃ i a b : Int, vs = [.int i, .int a, .int b] ∧ Q (.bl (decide (a ≤ i ∧ i ≤ b))) H
theorem ok_is_between (T : Txt w K mg) : FnOk P w K mg base CX0 2 T.f_is_between T.fd_is_between ["value", "least", "most"] (sp_is_between) := by
  have G_is_integer := ok_is_integer (P := P) (w := w) (base := base) T
  refine T.F_is_between.ok sc_is_between (fun vs H Q E h => ?_) (fun cdv A outer s H vs Q E hr h => ?_)
  · obtain ⟨i, a, b, rfl, k⟩ := h; rfl
  · obtain ⟨i, a, b, rfl, k⟩ := h
    refine ⟨_, (pss_one (ps_ret (pe_and (pe_call G_is_integer (hr.mono (by decide)) rfl T.g_is_integer T.F_is_integer.kp T.b_is_integer .nil pass0 (pa_cons (pv 0) pa_nil)) (pe_one (pe_chain op_le op_le (pv 1) (pv 0) (pv 2)))))), ?_⟩
    clear G_is_integer
    clear hr
    walk_at "rd"
    refine iteD (fun h1 => ?_) (fun h1 => ?_)
    · walk_at "rd"; exact qbl k (by simp [h1])
    · exact qbl k (by simp [h1])
def sp_is_word : Sp := fun vs H Q _ => ∃ i : Int, vs = [.int i] ∧ (0 ≤ i ∧ i < 65536) ∧ Q (.bl true) H
theorem ok_is_word (T : Txt w K mg) : FnOk P w K mg base CX0 3 T.f_is_word T.fd_is_word ["value"] (sp_is_word) := by
  have G_is_between := ok_is_between (P := P) (w := w) (base := base) T
  refine T.F_is_word.ok sc_is_word (fun vs H Q E h => ?_) (fun cdv A outer s H vs Q E hr h => ?_)
  · obtain ⟨i, rfl, hi, k⟩ := h; rfl
  · obtain ⟨i, rfl, hi, k⟩ := h
    refine ⟨_, (pss_one (ps_ret (pe_call G_is_between (hr.mono (by decide)) rfl T.g_is_between T.F_is_between.kp T.b_is_between .nil pass0 (pa_cons (pv 0) (pa_cons pe_int (pa_cons (pe_op op_sub (pe_gint rfl T.c_WORDS) pe_int) pa_nil)))))), ?_⟩
    clear G_is_between
    clear hr
    walk_at "rd"
    exact qbl k (decide_eq_true (by omega))
def sp_is_address : Sp := fun vs H Q _ => ∃ i : Int, vs = [.int i] ∧ (0 ≤ i ∧ i < 4096) ∧ Q (.bl true) H
theorem ok_is_address (T : Txt w K mg) : FnOk P w K mg base CX0 3 T.f_is_address T.fd_is_address ["value"] (sp_is_address) := by
  have G_is_between := ok_is_between (P := P) (w := w) (base := base) T
  refine T.F_is_address.ok sc_is_address (fun vs H Q E h => ?_) (fun cdv A outer s H vs Q E hr h => ?_)
  · obtain ⟨i, rfl, hi, k⟩ := h; rfl
  · obtain ⟨i, rfl, hi, k⟩ := h
    refine ⟨_, (pss_one (ps_ret (pe_call G_is_between (hr.mono (by decide)) rfl T.g_is_between T.F_is_between.kp T.b_is_between .nil pass0 (pa_cons (pv 0) (pa_cons pe_int (pa_cons (pe_op op_sub (pe_gint rfl T.c_ADDRESSES) pe_int) pa_nil)))))), ?_⟩
    clear G_is_between
    clear hr
    walk_at "rd"
    exact qbl k (decide_eq_true (by omega))
def sp_is_place : Sp := fun vs H Q _ => ∃ i : Int, vs = [.int i] ∧ (0 ≤ i ∧ i < 1024) ∧ Q (.bl true) H
theorem ok_is_place (T : Txt w K mg) : FnOk P w K mg base CX0 3 T.f_is_place T.fd_is_place ["value"] (sp_is_place) := by
  have G_is_between := ok_is_between (P := P) (w := w) (base := base) T
  refine T.F_is_place.ok sc_is_place (fun vs H Q E h => ?_) (fun cdv A outer s H vs Q E hr h => ?_)
  · obtain ⟨i, rfl, hi, k⟩ := h; rfl
  · obtain ⟨i, rfl, hi, k⟩ := h
    refine ⟨_, (pss_one (ps_ret (pe_call G_is_between (hr.mono (by decide)) rfl T.g_is_between T.F_is_between.kp T.b_is_between .nil pass0 (pa_cons (pv 0) (pa_cons pe_int (pa_cons (pe_op op_sub (pe_gint rfl T.c_PLACES) pe_int) pa_nil)))))), ?_⟩
    clear G_is_between
    clear hr
    walk_at "rd"
    exact qbl k (decide_eq_true (by omega))
def sp_need_word : Sp := fun vs H Q _ => ∃ i : Int, vs = [.int i] ∧ (0 ≤ i ∧ i < 65536) ∧ Q .non H
theorem ok_need_word (T : Txt w K mg) : FnOk P w K mg base CX0 4 T.f_need_word T.fd_need_word ["value"] (sp_need_word) := by
  have G_is_word := ok_is_word (P := P) (w := w) (base := base) T
  refine T.F_need_word.ok sc_need_word (fun vs H Q E h => ?_) (fun cdv A outer s H vs Q E hr h => ?_)
  · obtain ⟨i, rfl, hi, k⟩ := h; rfl
  · obtain ⟨i, rfl, hi, k⟩ := h
    refine ⟨_, (pss_one (ps_if (pt_not (pt_val (pe_call G_is_word (hr.mono (by decide)) rfl T.g_is_word T.F_is_word.kp T.b_is_word .nil pass0 (pa_cons (pv 0) pa_nil))))
          (pss_one ps_never)
          pss_nil)), ?_⟩
    clear G_is_word
    clear hr
    walk_at "rd"
def sp_need_address : Sp := fun vs H Q _ => ∃ i : Int, vs = [.int i] ∧ (0 ≤ i ∧ i < 4096) ∧ Q .non H
theorem ok_need_address (T : Txt w K mg) : FnOk P w K mg base CX0 4 T.f_need_address T.fd_need_address ["value"] (sp_need_address) := by
  have G_is_address := ok_is_address (P := P) (w := w) (base := base) T
  refine T.F_need_address.ok sc_need_address (fun vs H Q E h => ?_) (fun cdv A outer s H vs Q E hr h => ?_)
  · obtain ⟨i, rfl, hi, k⟩ := h; rfl
  · obtain ⟨i, rfl, hi, k⟩ := h
    refine ⟨_, (pss_one (ps_if (pt_not (pt_val (pe_call G_is_address (hr.mono (by decide)) rfl T.g_is_address T.F_is_address.kp T.b_is_address .nil pass0 (pa_cons (pv 0) pa_nil))))
          (pss_one ps_never)
          pss_nil)), ?_⟩
    clear G_is_address
    clear hr
    walk_at "rd"
def sp_need_place : Sp := fun vs H Q _ => ∃ i : Int, vs = [.int i] ∧ (0 ≤ i ∧ i < 1024) ∧ Q .non H
theorem ok_need_place (T : Txt w K mg) : FnOk P w K mg base CX0 4 T.f_need_place T.fd_need_place ["value"] (sp_need_place) := by
  have G_is_place := ok_is_place (P := P) (w := w) (base := base) T
  refine T.F_need_place.ok sc_need_place (fun vs H Q E h => ?_) (fun cdv A outer s H vs Q E hr h => ?_)
  · obtain ⟨i, rfl, hi, k⟩ := h; rfl
  · obtain ⟨i, rfl, hi, k⟩ := h
    refine ⟨_, (pss_one (ps_if (pt_not (pt_val (pe_call G_is_place (hr.mono (by decide)) rfl T.g_is_place T.F_is_place.kp T.b_is_place .nil pass0 (pa_cons (pv 0) pa_nil))))
          (pss_one ps_never)
          pss_nil)), ?_⟩
    clear G_is_place
    clear hr
    walk_at "rd"
def sp_need_bits : Sp := fun vs H Q _ => ∃ (i : Int) (l m : Nat), vs = [.int i, .int (l : Int), .int (m : Int)] ∧ (0 ≤ i ∧ i < 65536) ∧ l ≤ 15 ∧ 1 ≤ m ∧ l + m ≤ 16 ∧ Q .non H
theorem pow16 {m : Nat} (h : m ≤ 16) : (0 : Int) < 2 ^ m ∧ (2 : Int) ^ m ≤ 65536 := by
  have e : ∀ k : Nat, k ≤ 16 → (0 : Int) < 2 ^ k ∧ (2 : Int) ^ k ≤ 65536 := by decide
  exact e m h
theorem ok_need_bits (T : Txt w K mg) : FnOk P w K mg base CX0 5 T.f_need_bits T.fd_need_bits ["word", "low", "many"] (sp_need_bits) := by
  have G_need_word := ok_need_word (P := P) (w := w) (base := base) T
  have G_is_between := ok_is_between (P := P) (w := w) (base := base) T
  refine T.F_need_bits.ok sc_need_bits (fun vs H Q E h => ?_) (fun cdv A outer s H vs Q E hr h => ?_)
  · obtain ⟨i, l, m, rfl, hi, hl, hm, hlm, k⟩ := h; rfl
  · obtain ⟨i, l, m, rfl, hi, hl, hm, hlm, k⟩ := h
    refine ⟨_, (pss_cons (ps_expr (pe_call G_need_word (hr.mono (by decide)) rfl T.g_need_word T.F_need_word.kp T.b_need_word .nil pass0 (pa_cons (pv 0) pa_nil)))
        (pss_cons (ps_if (pt_not (pt_val (pe_call G_is_between (hr.mono (by decide)) rfl T.g_is_between T.F_is_between.kp T.b_is_between .nil pass0 (pa_cons (pv 1) (pa_cons pe_int (pa_cons (pe_op op_sub (pe_gint rfl T.c__WORD_BITS) pe_int) pa_nil))))))
          (pss_one ps_never)
          pss_nil)
        (pss_one (ps_if (pt_not (pt_val (pe_call G_is_between (hr.mono (by decide)) rfl T.g_is_between T.F_is_between.kp T.b_is_between .nil pass0 (pa_cons (pv 2) (pa_cons pe_int (pa_cons (pe_op op_sub (pe_gint rfl T.c__WORD_BITS) (pv 1)) pa_nil))))))
          (pss_one ps_never)
          pss_nil)))), ?_⟩
    clear G_need_word G_is_between
    clear hr
    walk_at "rd"
    refine iteN (fun h => absurd h (fun z => z (by omega))) (fun _ => ?_)
    walk_at "rd"
    refine iteN (fun h => absurd h (fun z => z (by omega))) (fun _ => ?_)
    exact k
def sp_bits : Sp := fun vs H Q _ => ∃ (i : Int) (l m : Nat), vs = [.int i, .int (l : Int), .int (m : Int)] ∧ (0 ≤ i ∧ i < 65536) ∧ l ≤ 15 ∧ 1 ≤ m ∧ l + m ≤ 16 ∧ Q (.int (i / 2 ^ l % 2 ^ m)) H
theorem ok_bits (T : Txt w K mg) : FnOk P w K mg base CX0 6 T.f_bits T.fd_bits ["word", "low", "many"] (sp_bits) := by
  have G_need_bits := ok_need_bits (P := P) (w := w) (base := base) T
  refine T.F_bits.ok sc_bits (fun vs H Q E h => ?_) (fun cdv A outer s H vs Q E hr h => ?_)
  · obtain ⟨i, l, m, rfl, hi, hl, hm, hlm, k⟩ := h; rfl
  · obtain ⟨i, l, m, rfl, hi, hl, hm, hlm, k⟩ := h
    refine ⟨_, (pss_cons (ps_expr (pe_call G_need_bits (hr.mono (by decide)) rfl T.g_need_bits T.F_need_bits.kp T.b_need_bits .nil pass0 (pa_cons (pv 0) (pa_cons (pv 1) (pa_cons (pv 2) pa_nil)))))
        (pss_one (ps_ret (pe_op op_mod (pe_op op_shr (pv 0) (pv 1)) (pe_op op_shl pe_int (pv 2)))))), ?_⟩
    clear G_need_bits
    clear hr
    have pm := pow16 (show m ≤ 16 by omega)
    walk_at "rd"
    · simp only [Int.one_mul, Int.toNat_natCast]; omega
    · exact qint k (by simp only [Int.one_mul, Int.toNat_natCast])
def sp_is_mplace : Sp := fun vs H Q _ => ∃ i : Int, vs = [.int i] ∧ Q (.bl (decide (0 ≤ i ∧ i < 960))) H
theorem ok_is_memory_place (T : Txt w K mg) : FnOk P w K mg base CX0 3 T.f_is_memory_place T.fd_is_memory_place ["value"] (sp_is_mplace) := by
  have G_is_between := ok_is_between (P := P) (w := w) (base := base) T
  refine T.F_is_memory_place.ok sc_is_memory_place (fun vs H Q E h => ?_) (fun cdv A outer s H vs Q E hr h => ?_)
  · obtain ⟨i, rfl, k⟩ := h; rfl
  · obtain ⟨i, rfl, k⟩ := h
    refine ⟨_, (pss_one (ps_ret (pe_call G_is_between (hr.mono (by decide)) rfl T.g_is_between T.F_is_between.kp T.b_is_between .nil pass0 (pa_cons (pv 0) (pa_cons pe_int (pa_cons (pe_op op_sub (pe_gint rfl T.c_MEMORY_PLACES) pe_int) pa_nil)))))), ?_⟩
    clear G_is_between
    clear hr
    walk_at "rd"
    exact qbl k (decide_eq_decide.mpr (by omega))
def sp_need_mplace : Sp := fun vs H Q _ => ∃ i : Int, vs = [.int i] ∧ (0 ≤ i ∧ i < 960) ∧ Q .non H
theorem ok_need_memory_place (T : Txt w K mg) : FnOk P w K mg base CX0 4 T.f_need_memory_place T.fd_need_memory_place ["value"] (sp_need_mplace) := by
  have G_is_memory_place := ok_is_memory_place (P := P) (w := w) (base := base) T
  refine T.F_need_memory_place.ok sc_need_memory_place (fun vs H Q E h => ?_) (fun cdv A outer s H vs Q E hr h => ?_)
  · obtain ⟨i, rfl, hi, k⟩ := h; rfl
  · obtain ⟨i, rfl, hi, k⟩ := h
    refine ⟨_, (pss_one (ps_if (pt_not (pt_val (pe_call G_is_memory_place (hr.mono (by decide)) rfl T.g_is_memory_place T.F_is_memory_place.kp T.b_is_memory_place .nil pass0 (pa_cons (pv 0) pa_nil))))
          (pss_one ps_never)
          pss_nil)), ?_⟩
    clear G_is_memory_place
    clear hr
    walk_at "rd"
    refine iteN (fun h => absurd hi h) (fun _ => ?_)
    walk_at "rd"
abbrev F1 (l : Addr) : List (Str × V) := [("_words", .ref l)]
theorem pf1 (l : Addr) : putF "_words" (.ref l) [] = F1 l := rfl
theorem pu1 (l l' : Addr) : putF "_words" (.ref l') (F1 l) = F1 l' := rfl
theorem gt1 (l : Addr) : (F1 l).lookup ("_words" : Str) = some (.ref l) := rfl
/-- a memory stands at x, its words at l -/
structure MemAt (C : Addr) (H : Hp) (x l : Addr) (ws : List Int) : Prop where
  ob : ∃ dx, H x = some (.ins C dx (F1 l))
  at_ : H l = some (.lst (ws.map V.int))
  len : ws.length = 960
  bd : ∀ z ∈ ws, 0 ≤ z ∧ z < 65536
def m0 : List Int := List.replicate 960 0
def sp_init (C : Addr) : Sp := fun vs H Q _ => ∃ (x dx : Addr), vs = [.ref x] ∧ H x = some (.ins C dx []) ∧ ∀ (l : Addr) (H' : Hp), H l = none → MemAt C H' x l m0 → But x H H' → Q .non H'
theorem ok_Memory_init (T : Txt w K mg) : FnOk P w K mg base CX0 1 T.f_Memory_init T.fd_Memory_init ["self"] (sp_init T.C_Memory) := by
  refine T.F_Memory_init.ok sc_Memory_init (fun vs H Q E h => ?_) (fun cdv A outer s H vs Q E hr h => ?_)
  · obtain ⟨x, dx, rfl, hx, k⟩ := h; rfl
  · obtain ⟨x, dx, rfl, hx, k⟩ := h
    refine ⟨_, (pss_one (ps_stop (ps_fld (pv 0) (pe_op op_rep (pe_lst (pa_cons pe_int pa_nil)) (pe_gint rfl T.c_MEMORY_PLACES)) rfl))), ?_⟩
    clear hr
    have c1 := T.cl_Memory
    have n1 := T.n_Memory_words
    walk_at "rd"
    intro t ft
    have tx : t ≠ x := Ne.symm (ne_of_none hx ft)
    walk_at "rd"
    intro l fl
    have hx2 := old_upd ft hx (o := .lst [.int 0])
    walk_at "rd"
    refine ⟨?_⟩
    rw [pf1]
    have ef : (List.replicate (Int.toNat 960) [V.int 0]).flatten = m0.map V.int := by
      show (List.replicate 960 [V.int 0]).flatten = (List.replicate 960 (0 : Int)).map V.int
      rw [List.flatten_replicate_singleton, List.map_replicate]
    rw [ef]
    have lx : l ≠ x := Ne.symm (ne_of_none hx2 fl)
    refine k l _ ((same_upd ft).free fl) ⟨⟨dx, upd_same⟩, by rw [upd_ne lx]; exact upd_same, by unfold m0; rw [List.length_replicate], fun z hz => by rw [List.eq_of_mem_replicate hz]; decide⟩ (fun b u nb hb => by rw [upd_ne nb]; exact old_upd fl (old_upd ft hb))
theorem MemAt.same {C : Addr} {H H' : Hp} {x l : Addr} {ws : List Int} (h : MemAt C H x l ws) (s : Same H H') : MemAt C H' x l ws := by
  obtain ⟨dx, e⟩ := h.ob
  exact ⟨⟨dx, s _ _ e⟩, s _ _ h.at_, h.len, h.bd⟩
theorem MemAt.ne {C : Addr} {H : Hp} {x l : Addr} {ws : List Int} (h : MemAt C H x l ws) : l ≠ x := fun z => by
  obtain ⟨dx, e⟩ := h.ob
  have a := h.at_
  rw [z, e] at a; cases a
theorem atW {ws : List Int} {i : Nat} (h : i < ws.length) : atI (ws.map V.int) (i : Int) = some (.int (ws.getD i 0)) := atI_nat (by
  rw [List.getElem?_map, List.getElem?_eq_getElem h, List.getD_eq_getElem?_getD, List.getElem?_eq_getElem h]; rfl)
theorem ixW {ws : List V} {i : Nat} (h : i < ws.length) : ixN ws.length (i : Int) = some i := by
  unfold ixN
  rw [if_pos (by omega), if_pos (by omega), Int.toNat_natCast]
/-- the word at p -/
def G (ws : List Int) (p : Int) : Int := ws.getD p.toNat 0
def sp_word (C : Addr) : Sp := fun vs H Q _ => ∃ (x l : Addr) (ws : List Int) (p : Int), vs = [.ref x, .int p] ∧ MemAt C H x l ws ∧ (0 ≤ p ∧ p < 960) ∧ Q (.int (G ws p)) H
theorem ok_Memory_word (T : Txt w K mg) : FnOk P w K mg base CX0 5 T.f_Memory_word T.fd_Memory_word ["self", "place"] (sp_word T.C_Memory) := by
  have G_need_memory_place := ok_need_memory_place (P := P) (w := w) (base := base) T
  refine T.F_Memory_word.ok sc_Memory_word (fun vs H Q E h => ?_) (fun cdv A outer s H vs Q E hr h => ?_)
  · obtain ⟨x, l, ws, p, rfl, hm, hp, k⟩ := h; rfl
  · obtain ⟨x, l, ws, p, rfl, hm, hp, k⟩ := h
    refine ⟨_, (pss_cons (ps_expr (pe_call G_need_memory_place (hr.mono (by decide)) rfl T.g_need_memory_place T.F_need_memory_place.kp T.b_need_memory_place .nil pass0 (pa_cons (pv 1) pa_nil)))
        (pss_one (ps_ret (pe_ix ix_list (pe_fld (pv 0) rfl) (pv 1) (fun _ _ => rfl))))), ?_⟩
    clear G_need_memory_place
    clear hr
    obtain ⟨dx, hx⟩ := id hm.ob
    have c1 := T.cl_Memory
    have n1 := T.n_Memory_words
    have g1 := gt1 l
    have hl := hm.at_
    have len := hm.len
    have ha := atW (ws := ws) (i := p.toNat) (by omega)
    rw [Int.toNat_of_nonneg hp.1] at ha
    walk_at "rd"
def sp_put (C : Addr) : Sp := fun vs H Q _ => ∃ (x l : Addr) (ws : List Int) (p w : Int), vs = [.ref x, .int p, .int w] ∧ MemAt C H x l ws ∧ (0 ≤ p ∧ p < 960) ∧ (0 ≤ w ∧ w < 65536) ∧ ∀ H', MemAt C H' x l (ws.set p.toNat w) → But l H H' → Q .non H'
theorem ok_Memory_put (T : Txt w K mg) : FnOk P w K mg base CX0 5 T.f_Memory_put T.fd_Memory_put ["self", "place", "word"] (sp_put T.C_Memory) := by
  have G_need_memory_place := ok_need_memory_place (P := P) (w := w) (base := base) T
  have G_need_word := ok_need_word (P := P) (w := w) (base := base) T
  refine T.F_Memory_put.ok sc_Memory_put (fun vs H Q E h => ?_) (fun cdv A outer s H vs Q E hr h => ?_)
  · obtain ⟨x, l, ws, p, w, rfl, hm, hp, hw, k⟩ := h; rfl
  · obtain ⟨x, l, ws, p, w, rfl, hm, hp, hw, k⟩ := h
    refine ⟨_, (pss_cons (ps_expr (pe_call G_need_memory_place (hr.mono (by decide)) rfl T.g_need_memory_place T.F_need_memory_place.kp T.b_need_memory_place .nil pass0 (pa_cons (pv 1) pa_nil)))
        (pss_cons (ps_expr (pe_call G_need_word (hr.mono (by decide)) rfl T.g_need_word T.F_need_word.kp T.b_need_word .nil pass0 (pa_cons (pv 2) pa_nil)))
        (pss_one (ps_asg (pv 2) (pg_sub (pe_fld (pv 0) rfl) (pv 1) set_list))))), ?_⟩
    clear G_need_memory_place G_need_word
    clear hr
    obtain ⟨dx, hx⟩ := id hm.ob
    have c1 := T.cl_Memory
    have n1 := T.n_Memory_words
    have g1 := gt1 l
    have hl := hm.at_
    have len := hm.len
    have hix := ixW (ws := ws.map V.int) (i := p.toNat) (by simp; omega)
    rw [Int.toNat_of_nonneg hp.1] at hix
    walk_at "rd"
    refine k _ ⟨⟨dx, by rw [upd_ne (Ne.symm hm.ne)]; exact hx⟩, by rw [upd_same, List.map_set], by simpa using len, fun z hz => ?_⟩ But.set
    rcases List.mem_or_eq_of_mem_set hz with h | h
    · exact hm.bd z h
    · rw [h]; exact hw
theorem kit_self {K : PySem.W.Frag} {C : Addr} : PySem.W.kitOne K (.ref C) (.ref C) = some true := if_pos (beq_self_eq_true _)
def sp_need_memory (C : Addr) : Sp := fun vs H Q _ => ∃ (x l : Addr) (ws : List Int), vs = [.ref x] ∧ MemAt C H x l ws ∧ Q .non H
theorem ok_need_memory (T : Txt w K mg) : FnOk P w K mg base CX0 1 T.f_need_memory T.fd_need_memory ["value"] (sp_need_memory T.C_Memory) := by
  refine T.F_need_memory.ok sc_need_memory (fun vs H Q E h => ?_) (fun cdv A outer s H vs Q E hr h => ?_)
  · obtain ⟨x, l, ws, rfl, hm, k⟩ := h; rfl
  · obtain ⟨x, l, ws, rfl, hm, k⟩ := h
    refine ⟨_, (pss_one (ps_if (pt_not (pt_val (pe_callB call_isi (by rfl) T.m_isinstance (by decide +kernel) (pa_cons (pv 0) (pa_cons (pe_glob (v := .ref T.C_Memory) rfl T.g_Memory rfl) pa_nil)))))
          (pss_one ps_never)
          pss_nil)), ?_⟩
    clear hr
    obtain ⟨dx, hx⟩ := id hm.ob
    have c1 := T.cl_Memory
    have cv : ClsV (.ref T.C_Memory) (.ref T.C_Memory) := .own _
    have ty : TyX K H (.ref x) (.ref T.C_Memory) := .base (.ins hx c1 T.ic_Memory T.in_Memory T.it_Memory T.im_Memory)
    have ks : PySem.W.kitOne K (.ref T.C_Memory) (.ref T.C_Memory) = some true := kit_self
    walk_at "rd"
def sp_is_frame : Sp := fun vs H Q _ => ∃ i : Int, vs = [.int i] ∧ (0 ≤ i ∧ i < 64) ∧ Q (.bl true) H
theorem ok__is_frame (T : Txt w K mg) : FnOk P w K mg base CX0 3 T.f__is_frame T.fd__is_frame ["value"] (sp_is_frame) := by
  have G_is_between := ok_is_between (P := P) (w := w) (base := base) T
  refine T.F__is_frame.ok sc__is_frame (fun vs H Q E h => ?_) (fun cdv A outer s H vs Q E hr h => ?_)
  · obtain ⟨i, rfl, hi, k⟩ := h; rfl
  · obtain ⟨i, rfl, hi, k⟩ := h
    refine ⟨_, (pss_one (ps_ret (pe_call G_is_between (hr.mono (by decide)) rfl T.g_is_between T.F_is_between.kp T.b_is_between .nil pass0 (pa_cons (pv 0) (pa_cons pe_int (pa_cons (pe_op op_sub (pe_gint rfl T.c__FRAMES) pe_int) pa_nil)))))), ?_⟩
    clear G_is_between
    clear hr
    walk_at "rd"
    exact qbl k (decide_eq_true (by omega))
def sp_need_frame : Sp := fun vs H Q _ => ∃ i : Int, vs = [.int i] ∧ (0 ≤ i ∧ i < 64) ∧ Q .non H
theorem ok_need_frame (T : Txt w K mg) : FnOk P w K mg base CX0 4 T.f_need_frame T.fd_need_frame ["value"] (sp_need_frame) := by
  have G__is_frame := ok__is_frame (P := P) (w := w) (base := base) T
  refine T.F_need_frame.ok sc_need_frame (fun vs H Q E h => ?_) (fun cdv A outer s H vs Q E hr h => ?_)
  · obtain ⟨i, rfl, hi, k⟩ := h; rfl
  · obtain ⟨i, rfl, hi, k⟩ := h
    refine ⟨_, (pss_one (ps_if (pt_not (pt_val (pe_call G__is_frame (hr.mono (by decide)) rfl T.g__is_frame T.F__is_frame.kp T.b__is_frame .nil pass0 (pa_cons (pv 0) pa_nil))))
          (pss_one ps_never)
          pss_nil)), ?_⟩
    clear G__is_frame
    clear hr
    walk_at "rd"
/-- the three ways -/
def wy : Nat → Str
  | 0 => "fetch"
  | 1 => "load"
  | _ => "store"
theorem wayK {K : PySem.W.Frag} {mg : Str → Option Value} {w : World} (T : Txt w K mg) {i : Nat} (h : i < 3) : ∃ t, PySem.W.nsIn K T.D_W (wy i) = some (some (.int (4 + (i : Int)) t)) := by
  match i, h with
  | 0, _ => exact T.w0_W
  | 1, _ => exact T.w1_W
  | 2, _ => exact T.w2_W
theorem wayD {K : PySem.W.Frag} {mg : Str → Option Value} {w : World} (T : Txt w K mg) {i : Nat} (h : i < 3) : KDct K w T.D_W (wy i) (.int (4 + (i : Int))) := by
  obtain ⟨t, e⟩ := wayK T h
  exact ⟨_, _, _, T.k_W.at_, T.k_W.lit, e, ⟨t, rfl⟩⟩
theorem ix_way {X : Cx} {mg : Str → Option Value} (T : Txt X.w X.K mg) : IxR X (fun x y H Q => ∃ i : Nat, x = .ref T.D_W ∧ y = .str (wy i) ∧ i < 3 ∧ Q (.int (4 + (i : Int))) H) := by
  intro value slice pins s σ H x y v u Q I rx ry h hs
  obtain ⟨i, rfl, rfl, hi, q⟩ := h
  exact ix_kdict value slice pins s σ H _ _ v u Q I rx ry ⟨_, _, _, rfl, rfl, wayD T hi, q⟩ hs
def sp_need_way : Sp := fun vs H Q _ => ∃ i : Nat, vs = [.str (wy i)] ∧ i < 3 ∧ Q .non H
theorem ok_need_way (T : Txt w K mg) : FnOk P w K mg base CX0 1 T.f_need_way T.fd_need_way ["value"] (sp_need_way) := by
  refine T.F_need_way.ok sc_need_way (fun vs H Q E h => ?_) (fun cdv A outer s H vs Q E hr h => ?_)
  · obtain ⟨i, rfl, hi, k⟩ := h; rfl
  · obtain ⟨i, rfl, hi, k⟩ := h
    refine ⟨_, (pss_one (ps_if (pt_not (PW.pt (pw_and (pt_val (pe_callB call_isi (by rfl) T.m_isinstance (by decide +kernel) (pa_cons (pv 0) (pa_cons (pe_bltn (v := .ty "str") (u := .type "str") (by rfl) T.m_str (by decide +kernel) rfl) pa_nil)))) (pw_and1 (pt_cmpR (op_in_kd T.k_W) (pv 0) (pe_glob (v := .ref T.D_W) rfl T.g_W rfl) (by rfl))))))
          (pss_one ps_never)
          pss_nil)), ?_⟩
    clear hr
    obtain ⟨t, e⟩ := wayK T hi
    refine ⟨_, rfl, _, _, _, _, true, rfl, .ty _, .base (.str _), kit_ty (by decide +kernel), ?_⟩
    walk_at "rd"
def sp_need_side : Sp := fun vs H Q _ => ∃ b : Bool, vs = [.bl b] ∧ Q .non H
theorem ok_need_side (T : Txt w K mg) : FnOk P w K mg base CX0 1 T.f_need_side T.fd_need_side ["value"] (sp_need_side) := by
  refine T.F_need_side.ok sc_need_side (fun vs H Q E h => ?_) (fun cdv A outer s H vs Q E hr h => ?_)
  · obtain ⟨b, rfl, k⟩ := h; rfl
  · obtain ⟨b, rfl, k⟩ := h
    refine ⟨_, (pss_one (ps_if (pt_not (pt_val (pe_callB call_isi (by rfl) T.m_isinstance (by decide +kernel) (pa_cons (pv 0) (pa_cons (pe_bltn (v := .ty "bool") (u := .type "bool") (by rfl) T.m_bool (by decide +kernel) rfl) pa_nil)))))
          (pss_one ps_never)
          pss_nil)), ?_⟩
    clear hr
    refine ⟨_, rfl, _, _, _, _, true, rfl, .ty _, .base (.bl _), kit_ty (by decide +kernel), ?_⟩
    walk_at "rd"
def sp_parts : Sp := fun vs H Q _ => ∃ i : Int, vs = [.int i] ∧ (0 ≤ i ∧ i < 65536) ∧ ∀ (t : Addr) (H' : Hp), Same H H' → H' t = some (.tup [.bl (decide (32768 ≤ i)), .int (i / 8192 % 4), .int (i % 64)]) → Q (.ref t) H'
theorem ok_entry_parts (T : Txt w K mg) : FnOk P w K mg base CX0 7 T.f_entry_parts T.fd_entry_parts ["word"] (sp_parts) := by
  have G_bits := ok_bits (P := P) (w := w) (base := base) T
  refine T.F_entry_parts.ok sc_entry_parts (fun vs H Q E h => ?_) (fun cdv A outer s H vs Q E hr h => ?_)
  · obtain ⟨i, rfl, hi, k⟩ := h; rfl
  · obtain ⟨i, rfl, hi, k⟩ := h
    refine ⟨_, (pss_one (ps_ret (pe_tup (pa_cons (pe_cmpR op_eq (pe_call G_bits (hr.mono (by decide)) rfl T.g_bits T.F_bits.kp T.b_bits .nil pass0 (pa_cons (pv 0) (pa_cons (pe_gint rfl T.c__THERE_BIT) (pa_cons pe_int pa_nil)))) pe_int (nomark _)) (pa_cons (pe_call G_bits (hr.mono (by decide)) rfl T.g_bits T.F_bits.kp T.b_bits .nil pass0 (pa_cons (pv 0) (pa_cons (pe_gint rfl T.c__FLAGS_BIT) (pa_cons (pe_gint rfl T.c__FLAGS_BITS) pa_nil)))) (pa_cons (pe_call G_bits (hr.mono (by decide)) rfl T.g_bits T.F_bits.kp T.b_bits .nil pass0 (pa_cons (pv 0) (pa_cons pe_int (pa_cons (pe_gint rfl T.c__FRAME_BITS) pa_nil)))) pa_nil)))))), ?_⟩
    clear G_bits
    clear hr
    walk_at "rd"
    intro t ht
    refine k t _ (same_upd ht) ?_
    rw [upd_same]
    have e1 : decide (V.int (i / 2 ^ 15 % 2 ^ 1) = V.int 1) = decide (32768 ≤ i) := decide_eq_decide.mpr ⟨fun h => by have := V.int.inj h; omega, fun h => congrArg V.int (by omega)⟩
    have e2 : i / 2 ^ 13 % 2 ^ 2 = i / 8192 % 4 := by omega
    have e3 : i / 2 ^ 0 % 2 ^ 6 = i % 64 := by omega
    rw [e1, e2, e3]
def lets (f : Int) (i : Nat) (u : Bool) : Bool := !(u && decide (f % 2 = 0)) && (decide (i ≠ 2) || decide (f / 2 % 2 ≠ 0))
theorem wy2 {i : Nat} (h : i < 3) (e : V.str (wy i) = V.str "store") : i = 2 := by
  match i, h with
  | 0, _ => injection e with e; exact absurd e (by decide)
  | 1, _ => injection e with e; exact absurd e (by decide)
  | 2, _ => rfl
theorem wy0 {i : Nat} (h : i < 3) (e : V.str (wy i) = V.str "fetch") : i = 0 := by
  match i, h with
  | 0, _ => rfl
  | 1, _ => injection e with e; exact absurd e (by decide)
  | 2, _ => injection e with e; exact absurd e (by decide)
def sp_lets : Sp := fun vs H Q _ => ∃ (f : Int) (i : Nat) (u : Bool), vs = [.int f, .str (wy i), .bl u] ∧ (0 ≤ f ∧ f < 4) ∧ i < 3 ∧ Q (.bl (lets f i u)) H
theorem ok__lets (T : Txt w K mg) : FnOk P w K mg base CX0 1 T.f__lets T.fd__lets ["flags", "way", "is_user"] (sp_lets) := by
  refine T.F__lets.ok sc__lets (fun vs H Q E h => ?_) (fun cdv A outer s H vs Q E hr h => ?_)
  · obtain ⟨f, i, u, rfl, hf, hi, k⟩ := h; rfl
  · obtain ⟨f, i, u, rfl, hf, hi, k⟩ := h
    refine ⟨_, (pss_cons (ps_if (PW.pt (pw_and (pt_val (pv 2)) (pw_and1 (pt_cmpR op_eq (pe_op op_and (pv 0) (pe_gint rfl T.c__USERS_FLAG)) pe_int (nomark _)))))
          (pss_one (ps_ret pe_bl))
          pss_nil)
        (pss_one (ps_ret (pe_or (pe_cmpR op_ne (pv 1) pe_str (nomark _)) (pe_one (pe_cmpR op_ne (pe_op op_and (pv 0) (pe_gint rfl T.c__WRITABLE_FLAG)) pe_int (nomark _))))))), ?_⟩
    clear hr
    have hf4 : f = 0 ∨ f = 1 ∨ f = 2 ∨ f = 3 := by omega
    have b1 : decide (V.int (Builtin.bitAnd f 1) = V.int 0) = decide (f % 2 = 0) := by rcases hf4 with rfl | rfl | rfl | rfl <;> decide
    have b2 : decide (V.int (Builtin.bitAnd f 2) = V.int 0) = !decide (f / 2 % 2 ≠ 0) := by rcases hf4 with rfl | rfl | rfl | rfl <;> decide
    have st : (V.str (wy i) = V.str "store") ↔ i = 2 := ⟨wy2 hi, fun e => by rw [e]; rfl⟩
    clear hf4
    cases u with
    | false =>
      walk_at "rd"
      refine iteN (fun h => ?_) (fun h => ?_)
      · have h2 : i ≠ 2 := fun e => h (st.mpr e)
        exact qbl k (by simp [lets, h2])
      · have h2 : i = 2 := st.mp h
        walk_at "rd"
        exact qbl k (by rw [b2]; simp [lets, h2])
    | true =>
      walk_at "rd"
      show if decide (V.int (Builtin.bitAnd f 1) = V.int 0) = true then _ else _
      rw [b1]
      refine iteD (fun h1 => ?_) (fun h1 => ?_)
      · walk_at "rd"
        exact qbl k (by simp [lets, h1])
      · walk_at "rd"
        refine iteN (fun h => ?_) (fun h => ?_)
        · have h2 : i ≠ 2 := fun e => h (st.mpr e)
          exact qbl k (by simp [lets, h1, h2])
        · have h2 : i = 2 := st.mp h
          walk_at "rd"
          exact qbl k (by rw [b2]; simp [lets, h1, h2])
def sp_eplace : Sp := fun vs H Q _ => ∃ f n : Int, vs = [.int f, .int n] ∧ (0 ≤ f ∧ f < 64) ∧ (0 ≤ n ∧ n < 4096) ∧ Q (.int (f * 16 + n % 16)) H
theorem ok__entry_place (T : Txt w K mg) : FnOk P w K mg base CX0 1 T.f__entry_place T.fd__entry_place ["frame", "number"] (sp_eplace) := by
  refine T.F__entry_place.ok sc__entry_place (fun vs H Q E h => ?_) (fun cdv A outer s H vs Q E hr h => ?_)
  · obtain ⟨f, n, rfl, hf, hn, k⟩ := h; rfl
  · obtain ⟨f, n, rfl, hf, hn, k⟩ := h
    refine ⟨_, (pss_one (ps_ret (pe_op op_add (pe_op op_mulW (pv 0) (pe_gint rfl T.c_PAGE_WORDS)) (pe_op op_mod (pv 1) (pe_gint rfl T.c_PAGE_WORDS))))), ?_⟩
    clear hr
    walk_at "rd"
def plV : Option Int → V
  | none => .non
  | some p => .int p
/-- by the second entry's word -/
def sec (x a : Int) (i : Nat) (u : Bool) : Option Int × Int :=
  if x < 32768 then (none, 4 + i)
  else if lets (x / 8192 % 4) i u = false then (none, 4 + i)
  else if i = 0 ∧ 960 ≤ x % 64 * 16 + a % 16 then (none, 7)
  else (some (x % 64 * 16 + a % 16), 0)
def sp_by : Sp := fun vs H Q _ => ∃ (x a : Int) (i : Nat) (u : Bool), vs = [.int x, .int a, .str (wy i), .bl u] ∧ (0 ≤ x ∧ x < 65536) ∧ (0 ≤ a ∧ a < 4096) ∧ i < 3 ∧
  ∀ (t : Addr) (H' : Hp), Same H H' → H' t = some (.tup [plV (sec x a i u).1, .int (sec x a i u).2]) → Q (.ref t) H'
theorem ok_by_entry (T : Txt w K mg) : FnOk P w K mg base CX0 8 T.f_by_entry T.fd_by_entry ["word", "address", "way", "is_user"] (sp_by) := by
  have G_need_word := ok_need_word (P := P) (w := w) (base := base) T
  have G_need_address := ok_need_address (P := P) (w := w) (base := base) T
  have G_need_way := ok_need_way (P := P) (w := w) (base := base) T
  have G_need_side := ok_need_side (P := P) (w := w) (base := base) T
  have G_entry_parts := ok_entry_parts (P := P) (w := w) (base := base) T
  have G__lets := ok__lets (P := P) (w := w) (base := base) T
  have G__entry_place := ok__entry_place (P := P) (w := w) (base := base) T
  have G_is_memory_place := ok_is_memory_place (P := P) (w := w) (base := base) T
  refine T.F_by_entry.ok sc_by_entry (fun vs H Q E h => ?_) (fun cdv A outer s H vs Q E hr h => ?_)
  · obtain ⟨x, a, i, u, rfl, hx, ha, hi, k⟩ := h; rfl
  · obtain ⟨x, a, i, u, rfl, hx, ha, hi, k⟩ := h
    refine ⟨_, (pss_cons (ps_expr (pe_call G_need_word (hr.mono (by decide)) rfl T.g_need_word T.F_need_word.kp T.b_need_word .nil pass0 (pa_cons (pv 0) pa_nil)))
        (pss_cons (ps_expr (pe_call G_need_address (hr.mono (by decide)) rfl T.g_need_address T.F_need_address.kp T.b_need_address .nil pass0 (pa_cons (pv 1) pa_nil)))
        (pss_cons (ps_expr (pe_call G_need_way (hr.mono (by decide)) rfl T.g_need_way T.F_need_way.kp T.b_need_way .nil pass0 (pa_cons (pv 2) pa_nil)))
        (pss_cons (ps_expr (pe_call G_need_side (hr.mono (by decide)) rfl T.g_need_side T.F_need_side.kp T.b_need_side .nil pass0 (pa_cons (pv 3) pa_nil)))
        (pss_cons (ps_asg (pe_call G_entry_parts (hr.mono (by decide)) rfl T.g_entry_parts T.F_entry_parts.kp T.b_entry_parts .nil pass0 (pa_cons (pv 0) pa_nil)) (pg_tup rfl (pgs_cons (pg_name (i := 4) sc_by_entry.nd rfl (Or.inl rfl)) (pgs_cons (pg_name (i := 5) sc_by_entry.nd rfl (Or.inl rfl)) (pgs_cons (pg_name (i := 6) sc_by_entry.nd rfl (Or.inl rfl)) pgs_nil)))))
        (pss_cons (ps_if (pt_not (PW.pt (pw_and (pt_val (pv 4)) (pw_and1 (pt_val (pe_call G__lets (hr.mono (by decide)) rfl T.g__lets T.F__lets.kp T.b__lets .nil pass0 (pa_cons (pv 5) (pa_cons (pv 2) (pa_cons (pv 3) pa_nil)))))))))
          (pss_one (ps_ret (pe_tup (pa_cons pe_non (pa_cons (pe_ix (ix_way T) (pe_glob (v := .ref T.D_W) rfl T.g_W rfl) (pv 2) (fun _ _ => rfl)) pa_nil)))))
          pss_nil)
        (pss_cons (ps_set (i := 7) sc_by_entry.nd rfl (Or.inl rfl) (pe_call G__entry_place (hr.mono (by decide)) rfl T.g__entry_place T.F__entry_place.kp T.b__entry_place .nil pass0 (pa_cons (pv 6) (pa_cons (pv 1) pa_nil))))
        (pss_cons (ps_if (PW.pt (pw_and (pt_cmpR op_eq (pv 2) pe_str (nomark _)) (pw_and1 (pt_not (pt_val (pe_call G_is_memory_place (hr.mono (by decide)) rfl T.g_is_memory_place T.F_is_memory_place.kp T.b_is_memory_place .nil pass0 (pa_cons (pv 7) pa_nil)))))))
          (pss_one (ps_ret (pe_tup (pa_cons pe_non (pa_cons (pe_gint rfl T.c_NO_SUCH_PLACE) pa_nil)))))
          pss_nil)
        (pss_one (ps_ret (pe_tup (pa_cons (pv 7) (pa_cons (pe_gint rfl T.c_NO_CAUSE) pa_nil))))))))))))), ?_⟩
    clear G_need_word G_need_address G_need_way G_need_side G_entry_parts G__lets G__entry_place G_is_memory_place
    clear hr
    walk_at "rd"
    intro t H1 s1 e1
    have f4 : 0 ≤ x / 8192 % 4 ∧ x / 8192 % 4 < 4 := by omega
    have f64 : 0 ≤ x % 64 ∧ x % 64 < 64 := by omega
    walk_at "rd"
    refine iteD (fun h1 => ?_) (fun h1 => ?_)
    · have n1 : ¬ x < 32768 := by omega
      obtain ⟨b, hb⟩ : ∃ b, lets (x / 8192 % 4) i u = b := ⟨_, rfl⟩
      walk_at "rd"
      rw [hb]
      cases b with
      | false =>
        have es : sec x a i u = (none, 4 + (i : Int)) := by unfold sec; rw [if_neg n1, if_pos hb]
        rw [es] at k
        walk_at "rd"
        intro t2 ht2
        exact k t2 _ (Hx.Same.upd s1 ht2) upd_same
      | true =>
        have nb : ¬ lets (x / 8192 % 4) i u = false := by rw [hb]; exact fun z => nomatch z
        walk_at "rd"
        refine iteD (fun h2 => ?_) (fun h2 => ?_)
        · have hi0 := wy0 hi h2
          walk_at "rd"
          refine iteN (fun h3 => ?_) (fun h3 => ?_)
          · have es : sec x a i u = (none, 7) := by unfold sec; rw [if_neg n1, if_neg nb, if_pos ⟨hi0, by omega⟩]
            rw [es] at k
            walk_at "rd"
            intro t2 ht2
            exact k t2 _ (Hx.Same.upd s1 ht2) upd_same
          · have es : sec x a i u = (some (x % 64 * 16 + a % 16), 0) := by unfold sec; rw [if_neg n1, if_neg nb, if_neg (fun z => by omega)]
            rw [es] at k
            walk_at "rd"
            intro t2 ht2
            exact k t2 _ (Hx.Same.upd s1 ht2) upd_same
        · have hi0 : ¬ i = 0 := fun z => h2 (by rw [z]; rfl)
          have es : sec x a i u = (some (x % 64 * 16 + a % 16), 0) := by unfold sec; rw [if_neg n1, if_neg nb, if_neg (fun z => hi0 z.1)]
          rw [es] at k
          walk_at "rd"
          intro t2 ht2
          exact k t2 _ (Hx.Same.upd s1 ht2) upd_same
    · have n1 : x < 32768 := by omega
      have es : sec x a i u = (none, 4 + (i : Int)) := by unfold sec; rw [if_pos n1]
      rw [es] at k
      walk_at "rd"
      intro t2 ht2
      exact k t2 _ (Hx.Same.upd s1 ht2) upd_same
structure Rs where
  place : Option Int
  cause : Int
  leans : List Int
/-- what a way tells, by the words g -/
def tl (g : Int → Int) (r a : Int) (i : Nat) (u : Bool) : Rs :=
  if 960 ≤ r * 16 + a / 256 then ⟨none, 7, []⟩
  else if g (r * 16 + a / 256) < 32768 then ⟨none, 4 + i, [r * 16 + a / 256]⟩
  else if 960 ≤ g (r * 16 + a / 256) % 64 * 16 + a / 16 % 16 then ⟨none, 7, [r * 16 + a / 256]⟩
  else ⟨(sec (g (g (r * 16 + a / 256) % 64 * 16 + a / 16 % 16)) a i u).1, (sec (g (g (r * 16 + a / 256) % 64 * 16 + a / 16 % 16)) a i u).2, [r * 16 + a / 256, g (r * 16 + a / 256) % 64 * 16 + a / 16 % 16]⟩
theorem G_bd {C : Addr} {H : Hp} {x l : Addr} {ws : List Int} (h : MemAt C H x l ws) (p : Int) : 0 ≤ G ws p ∧ G ws p < 65536 := by
  unfold G
  rw [List.getD_eq_getElem?_getD]
  cases e : ws[p.toNat]? with
  | none => decide
  | some v => exact h.bd v (List.mem_of_getElem? e)
def sp_walked (C : Addr) : Sp := fun vs H Q _ => ∃ (x l : Addr) (ws : List Int) (r a : Int) (i : Nat) (u : Bool) (z : Str), vs = [.ref x, .int r, .int a, .str z, .bl u] ∧ z = wy i ∧ MemAt C H x l ws ∧ (0 ≤ r ∧ r < 64) ∧ (0 ≤ a ∧ a < 4096) ∧ i < 3 ∧
  ∀ (t ll : Addr) (wv : V) (H' : Hp), Same H H' → H' t = some (.tup [plV (tl (G ws) r a i u).place, .int (tl (G ws) r a i u).cause, .ref ll, wv]) → H' ll = some (.lst ((tl (G ws) r a i u).leans.map V.int)) → Q (.ref t) H'
theorem ok_walked (T : Txt w K mg) : FnOk P w K mg base CX0 9 T.f_walked T.fd_walked ["words", "root", "address", "way", "is_user"] (sp_walked T.C_Memory) := by
  have G__entry_place := ok__entry_place (P := P) (w := w) (base := base) T
  have G_is_memory_place := ok_is_memory_place (P := P) (w := w) (base := base) T
  have G_entry_parts := ok_entry_parts (P := P) (w := w) (base := base) T
  have G_Memory_word := ok_Memory_word (P := P) (w := w) (base := base) T
  have G_by_entry := ok_by_entry (P := P) (w := w) (base := base) T
  refine T.F_walked.ok sc_walked (fun vs H Q E h => ?_) (fun cdv A outer s H vs Q E hr h => ?_)
  · obtain ⟨x, l, ws, r, a, i, u, _, rfl, rfl, hm, hrt, ha, hi, k⟩ := h; rfl
  · obtain ⟨x, l, ws, r, a, i, u, _, rfl, rfl, hm, hrt, ha, hi, k⟩ := h
    refine ⟨_, (pss_cons (ps_set (i := 5) sc_walked.nd rfl (Or.inl rfl) (pe_op op_fdiv (pv 2) (pe_gint rfl T.c_PAGE_WORDS)))
        (pss_cons (ps_set (i := 6) sc_walked.nd rfl (Or.inl rfl) (pe_call G__entry_place (hr.mono (by decide)) rfl T.g__entry_place T.F__entry_place.kp T.b__entry_place .nil pass0 (pa_cons (pv 1) (pa_cons (pe_op op_fdiv (pv 5) (pe_gint rfl T.c_PAGE_WORDS)) pa_nil))))
        (pss_cons (ps_if (pt_not (pt_val (pe_call G_is_memory_place (hr.mono (by decide)) rfl T.g_is_memory_place T.F_is_memory_place.kp T.b_is_memory_place .nil pass0 (pa_cons (pv 6) pa_nil))))
          (pss_one (ps_ret (pe_tup (pa_cons pe_non (pa_cons (pe_gint rfl T.c_NO_SUCH_PLACE) (pa_cons (pe_lst pa_nil) (pa_cons pe_non pa_nil)))))))
          pss_nil)
        (pss_cons (ps_asg (pe_call G_entry_parts (hr.mono (by decide)) rfl T.g_entry_parts T.F_entry_parts.kp T.b_entry_parts .nil pass0 (pa_cons (pe_meth (pv 0) T.cl_Memory T.me_Memory_word G_Memory_word (hr.mono (by decide)) T.b_Memory_word .nil pass0 (pa_cons (pv 6) pa_nil)) pa_nil)) (pg_tup rfl (pgs_cons (pg_name (i := 7) sc_walked.nd rfl (Or.inl rfl)) (pgs_cons (pg_name (i := 8) sc_walked.nd rfl (Or.inl rfl)) (pgs_cons (pg_name (i := 9) sc_walked.nd rfl (Or.inl rfl)) pgs_nil)))))
        (pss_cons (ps_if (pt_not (pt_val (pv 7)))
          (pss_one (ps_ret (pe_tup (pa_cons pe_non (pa_cons (pe_ix (ix_way T) (pe_glob (v := .ref T.D_W) rfl T.g_W rfl) (pv 3) (fun _ _ => rfl)) (pa_cons (pe_lst (pa_cons (pv 6) pa_nil)) (pa_cons pe_non pa_nil)))))))
          pss_nil)
        (pss_cons (ps_set (i := 10) sc_walked.nd rfl (Or.inl rfl) (pe_call G__entry_place (hr.mono (by decide)) rfl T.g__entry_place T.F__entry_place.kp T.b__entry_place .nil pass0 (pa_cons (pv 9) (pa_cons (pv 5) pa_nil))))
        (pss_cons (ps_if (pt_not (pt_val (pe_call G_is_memory_place (hr.mono (by decide)) rfl T.g_is_memory_place T.F_is_memory_place.kp T.b_is_memory_place .nil pass0 (pa_cons (pv 10) pa_nil))))
          (pss_one (ps_ret (pe_tup (pa_cons pe_non (pa_cons (pe_gint rfl T.c_NO_SUCH_PLACE) (pa_cons (pe_lst (pa_cons (pv 6) pa_nil)) (pa_cons pe_non pa_nil)))))))
          pss_nil)
        (pss_cons (ps_set (i := 11) sc_walked.nd rfl (Or.inl rfl) (pe_meth (pv 0) T.cl_Memory T.me_Memory_word G_Memory_word (hr.mono (by decide)) T.b_Memory_word .nil pass0 (pa_cons (pv 10) pa_nil)))
        (pss_cons (ps_asg (pe_call G_by_entry (hr.mono (by decide)) rfl T.g_by_entry T.F_by_entry.kp T.b_by_entry .nil pass0 (pa_cons (pv 11) (pa_cons (pv 2) (pa_cons (pv 3) (pa_cons (pv 4) pa_nil))))) (pg_tup rfl (pgs_cons (pg_name (i := 12) sc_walked.nd rfl (Or.inl rfl)) (pgs_cons (pg_name (i := 13) sc_walked.nd rfl (Or.inl rfl)) pgs_nil))))
        (pss_one (ps_ret (pe_tup (pa_cons (pv 12) (pa_cons (pv 13) (pa_cons (pe_lst (pa_cons (pv 6) (pa_cons (pv 10) pa_nil))) (pa_cons (pv 11) pa_nil)))))))))))))))), ?_⟩
    clear G__entry_place G_is_memory_place G_entry_parts G_Memory_word G_by_entry
    clear hr
    obtain ⟨dx, hx⟩ := id hm.ob
    have hp1 : 0 ≤ a / 16 / 16 ∧ a / 16 / 16 < 4096 := by omega
    walk_at "rd"
    have eF : r * 16 + a / 16 / 16 % 16 = r * 16 + a / 256 := by omega
    rw [eF]
    obtain ⟨f, hf⟩ : ∃ f, f = r * 16 + a / 256 := ⟨_, rfl⟩
    rw [← hf]
    have hf0 : 0 ≤ f := by omega
    refine iteN (fun h => ?_) (fun h => ?_)
    · have et : tl (G ws) r a i u = ⟨none, 7, []⟩ := by unfold tl; rw [← hf, if_pos (by omega)]
      rw [et] at k
      walk_at "rd"
      intro ll hl
      walk_at "rd"
      intro t ht
      exact k t ll .non _ (Hx.Same.upd (same_upd hl) ht) upd_same (old_upd ht upd_same)
    have g0 := G_bd hm f
    have nf : ¬ 960 ≤ f := by omega
    have hp2 : 0 ≤ a / 16 ∧ a / 16 < 4096 := by omega
    walk_at "rd"
    intro t1 H1 s1 e1
    walk_at "rd"
    refine iteN (fun h1 => ?_) (fun h1 => ?_)
    · have et : tl (G ws) r a i u = ⟨none, 4 + i, [f]⟩ := by unfold tl; rw [← hf, if_neg nf, if_pos (by omega)]
      rw [et] at k
      walk_at "rd"
      intro ll hl
      walk_at "rd"
      intro t ht
      exact k t ll .non _ (Hx.Same.upd (Hx.Same.upd s1 hl) ht) upd_same (old_upd ht upd_same)
    have nt : ¬ G ws f < 32768 := by omega
    have f64 : 0 ≤ G ws f % 64 ∧ G ws f % 64 < 64 := by omega
    replace hm := hm.same s1
    clear hx
    obtain ⟨dx, hx⟩ := id hm.ob
    walk_at "rd"
    obtain ⟨q, hq⟩ : ∃ q, q = G ws f % 64 * 16 + a / 16 % 16 := ⟨_, rfl⟩
    rw [← hq]
    have hq0 : 0 ≤ q := by omega
    refine iteN (fun h2 => ?_) (fun h2 => ?_)
    · have et : tl (G ws) r a i u = ⟨none, 7, [f]⟩ := by unfold tl; rw [← hf, if_neg nf, if_neg nt, ← hq, if_pos (by omega)]
      rw [et] at k
      walk_at "rd"
      intro ll hl
      walk_at "rd"
      intro t ht
      exact k t ll .non _ (Hx.Same.upd (Hx.Same.upd s1 hl) ht) upd_same (old_upd ht upd_same)
    have et : tl (G ws) r a i u = ⟨(sec (G ws q) a i u).1, (sec (G ws q) a i u).2, [f, q]⟩ := by unfold tl; rw [← hf, if_neg nf, if_neg nt, ← hq, if_neg (by omega)]
    rw [et] at k
    have gq := G_bd hm q
    walk_at "rd"
    intro t2 H2 s2 e2
    walk_at "rd"
    intro ll hl
    walk_at "rd"
    intro t ht
    exact k t ll _ _ (Hx.Same.upd (Hx.Same.upd (L2.Same.trans s1 s2) hl) ht) upd_same (old_upd ht upd_same)
def sp_translated (C : Addr) : Sp := fun vs H Q _ => ∃ (x l : Addr) (ws : List Int) (r a : Int) (i : Nat) (u : Bool), vs = [.ref x, .int r, .int a, .str (wy i), .bl u] ∧ MemAt C H x l ws ∧ (0 ≤ r ∧ r < 64) ∧ (0 ≤ a ∧ a < 4096) ∧ i < 3 ∧
  ∀ (t ll : Addr) (H' : Hp), Same H H' → H' t = some (.tup [plV (tl (G ws) r a i u).place, .int (tl (G ws) r a i u).cause, .ref ll]) → H' ll = some (.lst ((tl (G ws) r a i u).leans.map V.int)) → Q (.ref t) H'
theorem ok_translated (T : Txt w K mg) : FnOk P w K mg base CX0 10 T.f_translated T.fd_translated ["memory", "root", "address", "way", "is_user"] (sp_translated T.C_Memory) := by
  have G_need_memory := ok_need_memory (P := P) (w := w) (base := base) T
  have G_need_frame := ok_need_frame (P := P) (w := w) (base := base) T
  have G_need_address := ok_need_address (P := P) (w := w) (base := base) T
  have G_need_way := ok_need_way (P := P) (w := w) (base := base) T
  have G_need_side := ok_need_side (P := P) (w := w) (base := base) T
  have G_walked := ok_walked (P := P) (w := w) (base := base) T
  refine T.F_translated.ok sc_translated (fun vs H Q E h => ?_) (fun cdv A outer s H vs Q E hr h => ?_)
  · obtain ⟨x, l, ws, r, a, i, u, rfl, hm, hrt, ha, hi, k⟩ := h; rfl
  · obtain ⟨x, l, ws, r, a, i, u, rfl, hm, hrt, ha, hi, k⟩ := h
    refine ⟨_, (pss_cons (ps_expr (pe_call G_need_memory (hr.mono (by decide)) rfl T.g_need_memory T.F_need_memory.kp T.b_need_memory .nil pass0 (pa_cons (pv 0) pa_nil)))
        (pss_cons (ps_expr (pe_call G_need_frame (hr.mono (by decide)) rfl T.g_need_frame T.F_need_frame.kp T.b_need_frame .nil pass0 (pa_cons (pv 1) pa_nil)))
        (pss_cons (ps_expr (pe_call G_need_address (hr.mono (by decide)) rfl T.g_need_address T.F_need_address.kp T.b_need_address .nil pass0 (pa_cons (pv 2) pa_nil)))
        (pss_cons (ps_expr (pe_call G_need_way (hr.mono (by decide)) rfl T.g_need_way T.F_need_way.kp T.b_need_way .nil pass0 (pa_cons (pv 3) pa_nil)))
        (pss_cons (ps_expr (pe_call G_need_side (hr.mono (by decide)) rfl T.g_need_side T.F_need_side.kp T.b_need_side .nil pass0 (pa_cons (pv 4) pa_nil)))
        (pss_cons (ps_asg (pe_call G_walked (hr.mono (by decide)) rfl T.g_walked T.F_walked.kp T.b_walked .nil pass0 (pa_cons (pv 0) (pa_cons (pv 1) (pa_cons (pv 2) (pa_cons (pv 3) (pa_cons (pv 4) pa_nil)))))) (pg_tup rfl (pgs_cons (pg_name (i := 5) sc_translated.nd rfl (Or.inl rfl)) (pgs_cons (pg_name (i := 6) sc_translated.nd rfl (Or.inl rfl)) (pgs_cons (pg_name (i := 7) sc_translated.nd rfl (Or.inl rfl)) (pgs_cons (pg_name (i := 8) sc_translated.nd rfl (Or.inl rfl)) pgs_nil))))))
        (pss_one (ps_ret (pe_tup (pa_cons (pv 5) (pa_cons (pv 6) (pa_cons (pv 7) pa_nil)))))))))))), ?_⟩
    clear G_need_memory G_need_frame G_need_address G_need_way G_need_side G_walked
    clear hr
    walk_at "rd"
    intro t1 l1 wv H1 s1 e1 e2
    walk_at "rd"
    intro t ht
    exact k t l1 _ (Hx.Same.upd s1 ht) upd_same (old_upd ht e2)
def sp_pwalk (C : Addr) : Sp := fun vs H Q _ => ∃ (x l : Addr) (ws : List Int) (r p : Int), vs = [.ref x, .int r, .int p] ∧ MemAt C H x l ws ∧ (0 ≤ r ∧ r < 64) ∧ (0 ≤ p ∧ p < 256) ∧
  ∀ (t ll : Addr) (c wv : V) (pl : V) (H' : Hp), Same H H' → H' t = some (.tup [pl, c, .ref ll, wv]) → H' ll = some (.lst ((tl (G ws) r (p * 16) 1 false).leans.map V.int)) → Q (.ref t) H'
theorem ok_page_walk (T : Txt w K mg) : FnOk P w K mg base CX0 10 T.f_page_walk T.fd_page_walk ["memory", "root", "page"] (sp_pwalk T.C_Memory) := by
  have G_walked := ok_walked (P := P) (w := w) (base := base) T
  refine T.F_page_walk.ok sc_page_walk (fun vs H Q E h => ?_) (fun cdv A outer s H vs Q E hr h => ?_)
  · obtain ⟨x, l, ws, r, p, rfl, hm, hrt, hp, k⟩ := h; rfl
  · obtain ⟨x, l, ws, r, p, rfl, hm, hrt, hp, k⟩ := h
    refine ⟨_, (pss_one (ps_ret (pe_call G_walked (hr.mono (by decide)) rfl T.g_walked T.F_walked.kp T.b_walked .nil pass0 (pa_cons (pv 0) (pa_cons (pv 1) (pa_cons (pe_op op_mulW (pv 2) (pe_gint rfl T.c_PAGE_WORDS)) (pa_cons pe_str (pa_cons pe_bl pa_nil)))))))), ?_⟩
    clear G_walked
    clear hr
    have hpa : 0 ≤ p * 16 ∧ p * 16 < 4096 := by omega
    have h13 : 1 < 3 := by decide
    have ew : ("load" : Str) = wy 1 := rfl
    walk_at "rd"
    intro t ll wv H1 s1 e1 e2
    exact k t ll _ wv _ _ s1 e1 e2
def pgs (g : Int → Int) (r p : Int) : List Int := ((List.range 256).filter fun n : Nat => decide (p ∈ (tl g r ((n : Int) * 16) 1 false).leans)).map fun n : Nat => (n : Int)
theorem flat_ints (xs : List Int) : (xs.map V.int).all flatV = true := by
  rw [List.all_map, List.all_eq_true]
  exact fun _ _ => rfl
theorem inV_ints (p : Int) (xs : List Int) : (if false = true then !inV (V.int p) (xs.map V.int) else inV (V.int p) (xs.map V.int)) = decide (p ∈ xs) := by
  rw [if_neg (fun z => nomatch z)]
  unfold inV
  rw [List.any_map, Bool.eq_iff_iff]
  simp [eqV]
theorem lc_rangeF {n : Nat} {g : TG} {tt : TT} {te : TE} {vs : List Nat} {σ : L2.St} {H1 : Hp} {D : Addr} {Qd : Hp → Prop} (t : Nat → Bool) (hD : H1 D = none) (hz : n ≤ 10000)
    (hs : ∀ (i : Nat) (H' : Hp) (Qn : Hp → Prop) (Qy : VK), i < n → Same H1 H' → (t i = false → ∀ H'', Same H' H'' → Qn H'') → (t i = true → ∀ H'', Same H' H'' → Qy (.int (i : Int)) H'') → g (.int (0 + (i : Int))) (wipe σ vs) H' fun σ2 H2 => wipe σ2 vs = wipe σ vs ∧ tt σ2 H2 fun b H3 => if b = true then te σ2 H3 Qy else Qn H3)
    (hd : ∀ H', Same H1 H' → H' D = some (.lst (((List.range n).filter t).map fun i : Nat => V.int (i : Int))) → Qd H') :
    ∃ W : Nat → Nat → Hp → Prop, (∃ m, W 0 m (upd H1 D (.lst []))) ∧ ∀ i m H, W i m H →
      ((Itr 0 n).stop i H ∧ Qd H) ∨ ((Itr 0 n).go i H ∧ ∃ Nx : Hp → Prop, (∀ H', Nx H' → ∃ m', m' < m ∧ W (i + 1) m' H') ∧ ∀ x H', (Itr 0 n).yld i H x H' → g x (wipe σ vs) H' fun σ2 H2 => wipe σ2 vs = wipe σ vs ∧ tt σ2 H2 fun b H3 =>
        if b = true then te σ2 H3 fun y H4 => ∃ acc, H4 D = some (.lst acc) ∧ acc.length < sizeLine ∧ Nx (upd H4 D (.lst (acc ++ [y]))) else Nx H3) := by
  refine lc_range (fun i H => Same H1 H ∧ H D = some (.lst (((List.range i).filter t).map fun i : Nat => V.int (i : Int)))) ⟨same_upd hD, upd_same⟩ (fun i H hi h => ?_) (fun H h => hd H h.1 h.2)
  have et : List.range (i + 1) = List.range i ++ [i] := List.range_succ
  refine hs i H _ _ hi h.1 (fun tn H'' s => ?_) (fun ty H'' s => ?_)
  · refine ⟨L2.Same.trans h.1 s, ?_⟩
    rw [s _ _ h.2, et, List.filter_append, List.filter_cons_of_neg (by simp [tn]), List.filter_nil, List.append_nil]
  · refine ⟨((List.range i).filter t).map fun i : Nat => V.int (i : Int), s _ _ h.2, size_lt ?_, same_set (L2.Same.trans h.1 s) hD, ?_⟩
    · have := List.length_filter_le t (List.range i)
      simp at this ⊢; omega
    · rw [upd_same, et, List.filter_append, List.filter_cons_of_pos ty, List.filter_nil, List.map_append]; rfl
def sp_leaning (C : Addr) : Sp := fun vs H Q _ => ∃ (x l : Addr) (ws : List Int) (r p : Int), vs = [.ref x, .int r, .int p] ∧ MemAt C H x l ws ∧ (0 ≤ r ∧ r < 64) ∧ (0 ≤ p ∧ p < 1024) ∧
  ∀ (t : Addr) (H' : Hp), Same H H' → H' t = some (.lst ((pgs (G ws) r p).map V.int)) → Q (.ref t) H'
theorem ok_leaning (T : Txt w K mg) : FnOk P w K mg base CX0 11 T.f_leaning T.fd_leaning ["memory", "root", "place"] (sp_leaning T.C_Memory) := by
  have G_need_memory := ok_need_memory (P := P) (w := w) (base := base) T
  have G_need_frame := ok_need_frame (P := P) (w := w) (base := base) T
  have G_need_place := ok_need_place (P := P) (w := w) (base := base) T
  have G_page_walk := ok_page_walk (P := P) (w := w) (base := base) T
  refine T.F_leaning.ok sc_leaning (fun vs H Q E h => ?_) (fun cdv A outer s H vs Q E hr h => ?_)
  · obtain ⟨x, l, ws, r, p, rfl, hm, hrt, hp, k⟩ := h; rfl
  · obtain ⟨x, l, ws, r, p, rfl, hm, hrt, hp, k⟩ := h
    refine ⟨_, (pss_cons (ps_expr (pe_call G_need_memory (hr.mono (by decide)) rfl T.g_need_memory T.F_need_memory.kp T.b_need_memory .nil pass0 (pa_cons (pv 0) pa_nil)))
        (pss_cons (ps_expr (pe_call G_need_frame (hr.mono (by decide)) rfl T.g_need_frame T.F_need_frame.kp T.b_need_frame .nil pass0 (pa_cons (pv 1) pa_nil)))
        (pss_cons (ps_expr (pe_call G_need_place (hr.mono (by decide)) rfl T.g_need_place T.F_need_place.kp T.b_need_place .nil pass0 (pa_cons (pv 2) pa_nil)))
        (pss_one (ps_ret (pe_lc (own := [("page", 3)]) (g := gName 3) (tt := tTest (tOp (rIn K false) (tVar 2) (tOp (rIxT K) (tCall (sp_pwalk T.C_Memory) [] E0 (tCons (tVar 0) (tCons (tVar 1) (tCons (tVar 3) tNil)))) (tC (.int 2))))) rfl sc_leaning.nd (pi_range1 rfl T.m_range (pa_cons (pe_gint rfl T.c__PAGES) pa_nil)) (blkOk_by (N := ["memory", "root", "place", "page"]) (sc := defScope s_leaning) (by decide +kernel)) (fun _ _ _ _ _ => pg_name (i := 3) sc_leaning.nd rfl (Or.inl rfl)) (fun _ _ _ _ _ => pts_one (pt_cmpR op_in_seq (pv 2) (pe_ix ix_tup (pe_call G_page_walk (hr.mono (by decide)) rfl T.g_page_walk T.F_page_walk.kp T.b_page_walk .nil pass0 (pa_cons (pv 0) (pa_cons (pv 1) (pa_cons (pv 3) pa_nil)))) pe_int (fun _ _ => rfl)) (by rfl))) (fun _ _ _ _ _ => (pv 3)))))))), ?_⟩
    clear G_need_memory G_need_frame G_need_place G_page_walk
    clear hr
    walk_at "rd"
    intro D hD
    refine lc_rangeF (fun n : Nat => decide (p ∈ (tl (G ws) r ((n : Int) * 16) 1 false).leans)) hD (by decide) (fun i H1 Qn Qy hi s1 kn ky => ?_) (fun H1 s1 e1 => ?_)
    · have hm1 := hm.same s1
      have hi2 : 0 ≤ (0 + (i : Int)) ∧ (0 + (i : Int)) < 256 := by omega
      walk_at "rd"
      intro t ll c wv pl H2 s2 e2 e3
      rw [Int.zero_add] at e3
      have a2 : atI [pl, c, V.ref ll, wv] 2 = some (.ref ll) := at_of (j := 2) (by omega) rfl
      have fl := flat_ints (tl (G ws) r ((i : Int) * 16) 1 false).leans
      walk_at "rd"
      rw [inV_ints]
      by_cases hq : decide (p ∈ (tl (G ws) r ((i : Int) * 16) 1 false).leans) = true
      · have q : Qy (V.int (0 + (i : Int))) H2 := by rw [Int.zero_add]; exact ky hq _ s2
        rw [hq]
        refine iteT ?_
        walk_at "rd"
      · rw [Bool.not_eq_true] at hq
        rw [hq]
        exact iteF (kn hq _ s2)
    · have q := k D _ s1 (by rw [e1]; unfold pgs; rw [List.map_map]; rfl)
      walk_at "rd"
end
end K38

set_option Elab.async false
set_option linter.all false
set_option maxRecDepth 100000
set_option maxHeartbeats 8000000

namespace K38
open PySem PySem.Spec PyProof.Rows L2 Hx 
local macro_rules | `(tactic| walk_at "sm") => `(tactic| repeat' (first | assumption | apply Hx.Same.upd | exact L2.Same.refl _ | apply same_trans'))
local macro_rules | `(tactic| walk_at "hp") => `(tactic| repeat' (first | assumption | exact upd_same | apply old_upd | apply same_at))
local macro_rules | `(tactic| walk_at "rd") => `(tactic| repeat' (first | rfl | apply Exists.intro | apply And.intro | refine iteT ?_ | refine iteF ?_ | exact upd_same | exact SqL.of (by assumption) | exact SqL.of upd_same | exact SqT.of upd_same | exact SqT.of (by assumption) | ((with_reducible show (_ : Int) < _); omega) | ((with_reducible show (_ : Int) ≤ _); omega) | (show (_ : Prop); assumption) | exact Or.inl ⟨_, by assumption, rfl⟩ | exact Or.inl ⟨rfl, _, SqL.of (by assumption)⟩ | exact Or.inl ⟨rfl, _, SqL.of upd_same⟩ | apply old_upd | apply Hx.SqL.new | apply tyl_new | apply Pot.new | exact same_at (by assumption) (by assumption) | exact Or.inl (SqL.of (by assumption)) | exact Or.inl (by assumption) | exact Or.inl (SqL.of upd_same) | exact size_le (Nat.le_of_ble_eq_true rfl) | exact Nat.le_of_ble_eq_true rfl | exact True.intro | exact Or.inl rfl | exact Or.inr rfl | (show (_ : Prop); omega) | (show (_ : Prop); dsimp only; omega) | exact mulw64 (by omega) (by omega) | exact mulw64 (by (try dsimp only); omega) (by (try dsimp only); omega)))

section
variable {P : Program} {w : World} {K : PySem.W.Frag} {mg : Str → Option Value} {base : Heap}
def sp_Lpot (K : PySem.W.Frag) : Sp := fun vs H Q _ => ∃ (a : Addr) (ns : List Int), vs = [.ref a, .int 0] ∧ SqL K H a (ns.map V.int) ∧ ns.length ≤ 63 ∧ ∀ p (H' : Hp), H p = none → Same H H' → Pot H' p → Q (.ref p) H'
theorem ok_Lpot (T : Txt w K mg) : FnOk P w K mg base CX0 1 T.f_Lpot T.fd_Lpot ["_law_script", "_law_k"] (sp_Lpot K) := by
  refine T.F_Lpot.ok sc_Lpot (fun vs H Q E h => ?_) (fun cdv A outer s H vs Q E hr h => ?_)
  · obtain ⟨a, ns, rfl, hS, hl, k⟩ := h; rfl
  · obtain ⟨a, ns, rfl, hS, hl, k⟩ := h
    refine ⟨_, (pss_cons (ps_set (i := 2) sc_Lpot.nd rfl (Or.inl rfl) (pe_op op_add (pe_op op_mulW pe_int (pv 1)) pe_int))
        (pss_cons (ps_if (pt_cmpR op_lt (pv 1) (pe_callB call_len_list (by rfl) T.m_len (by decide +kernel) (pa_cons (pv 0) pa_nil)) (nomark _))
          (pss_one (ps_set (i := 2) sc_Lpot.nd rfl (Or.inl rfl) (pe_callB call_abs (by rfl) T.m_abs (by decide +kernel) (pa_cons (pe_ix ix_list (pv 0) (pv 1) (fun _ _ => rfl)) pa_nil))))
          pss_nil)
        (pss_cons (ps_set (i := 3) sc_Lpot.nd rfl (Or.inl rfl) (pe_op op_add (pe_op op_add (pe_op op_mulW (pe_op op_mod (pe_callTy call_int1i (by rfl) T.m_int (by decide +kernel) (pa_cons (pv 2) pa_nil)) pe_int) pe_int) (pe_op op_mulW pe_int (pv 1))) pe_int))
        (pss_one (ps_ret (pe_lst (pa_cons (pe_callB (call_max2 rfl) (by rfl) T.m_max (by decide +kernel) (pa_cons pe_int (pa_cons (pe_op op_sub (pv 2) (pe_op op_pow pe_int pe_int)) pa_nil))) (pa_cons (pe_op op_add (pe_op op_mod (pe_callTy call_int1i (by rfl) T.m_int (by decide +kernel) (pa_cons (pv 3) pa_nil)) pe_int) pe_int) pa_nil)))))))), ?_⟩
    clear hr
    walk_at "rd"
    refine iteD (fun h => ?_) (fun h => ?_)
    · obtain ⟨v, hv, hm⟩ := pick_at (xs := ns.map V.int) (d := 0) (by omega) (by omega)
      obtain ⟨z, _, rfl⟩ := List.mem_map.mp hm
      walk_at "rd"
      intro p hp
      exact k p _ hp (same_upd hp) ⟨_, _, upd_same, by split <;> omega, by omega, by omega⟩
    · walk_at "rd"
      intro p hp
      exact k p _ hp (same_upd hp) ⟨_, _, upd_same, by split <;> omega, by omega, by omega⟩

theorem ok_Ldraw (T : Txt w K mg) : FnOk P w K mg base CX0 1 T.f_Ldraw T.fd_Ldraw ["_law_pot_here", "_law_size"] (spDraw) := by
  refine T.F_Ldraw.ok sc_Ldraw (fun vs H Q E h => ?_) (fun cdv A outer s H vs Q E hr h => ?_)
  · obtain ⟨a, n, rfl, ⟨x, y, e, hx, hy, hy2⟩, hn, hn2, k⟩ := h; rfl
  · obtain ⟨a, n, rfl, ⟨x, y, e, hx, hy, hy2⟩, hn, hn2, k⟩ := h
    refine ⟨_, (pss_cons (ps_if (pt_cmpR op_gt (pe_ix ix_list (pv 0) pe_int (fun _ _ => rfl)) pe_int (nomark _))
          (pss_cons (ps_asg (pe_callB call_divmod (by rfl) T.m_divmod (by decide +kernel) (pa_cons (pe_ix ix_list (pv 0) pe_int (fun _ _ => rfl)) (pa_cons (pv 1) pa_nil))) (pg_tup rfl (pgs_cons (pg_sub (pv 0) pe_int set_list) (pgs_cons (pg_name (i := 2) sc_Ldraw.nd rfl (Or.inl rfl)) pgs_nil))))
          (pss_one (ps_ret (pv 2))))
          pss_nil)
        (pss_cons (ps_asg (pe_op op_mod (pe_callTy call_int1i (by rfl) T.m_int (by decide +kernel) (pa_cons (pe_op op_add (pe_op op_mulW (pe_ix ix_list (pv 0) pe_int (fun _ _ => rfl)) pe_int) pe_int) pa_nil)) pe_int) (pg_sub (pv 0) pe_int set_list))
        (pss_one (ps_ret (pe_op op_mod (pe_callTy call_int1i (by rfl) T.m_int (by decide +kernel) (pa_cons (pe_op op_fdiv (pe_op op_mod (pe_callTy call_int1i (by rfl) T.m_int (by decide +kernel) (pa_cons (pe_op op_mulW (pe_ix ix_list (pv 0) pe_int (fun _ _ => rfl)) (pe_ix ix_list (pv 0) pe_int (fun _ _ => rfl))) pa_nil)) pe_int) pe_int) pa_nil)) (pv 1)))))), ?_⟩
    clear hr
    walk_at "rd"
    refine iteD (fun h => ?_) (fun h => ?_)
    · walk_at "rd"
      intro p hp
      have ne : a ≠ p := fun z => by rw [← z, e] at hp; cases hp
      walk_at "rd"
      exact k (x % n) _ (Int.emod_nonneg _ (by omega)) (Int.emod_lt_of_pos _ hn) ⟨_, _, upd_same, Int.ediv_nonneg hx (by omega), hy, hy2⟩ (fun b o nb hb => by rw [upd_ne nb]; exact same_upd hp b o hb)
    · walk_at "rd"
      exact k _ _ (Int.emod_nonneg _ (by omega)) (Int.emod_lt_of_pos _ hn) ⟨_, _, upd_same, hx, by omega, by omega⟩ But.set
/-- called with the pot and a list apart: one of the list -/
def spPick : Sp := fun vs H Q _ => ∃ (a b : Addr) (xs : List V), vs = [.ref a, .ref b] ∧ Pot H a ∧ H b = some (.lst xs) ∧ b ≠ a ∧ 0 < xs.length ∧ xs.length < 1000 ∧ ∀ (v : V) (H' : Hp), v ∈ xs → Pot H' a → But a H H' → Q v H'
theorem ok_Lpick (T : Txt w K mg) : FnOk P w K mg base CX0 2 T.f_Lpick T.fd_Lpick ["_law_pot_here", "_law_some"] (spPick) := by
  have G_Ldraw := ok_Ldraw (P := P) (w := w) (base := base) T
  refine T.F_Lpick.ok sc_Lpick (fun vs H Q E h => ?_) (fun cdv A outer s H vs Q E hr h => ?_)
  · obtain ⟨a, b, xs, rfl, hp, hb, ne, h0, hx, k⟩ := h; rfl
  · obtain ⟨a, b, xs, rfl, hp, hb, ne, h0, hx, k⟩ := h
    refine ⟨_, (pss_one (ps_ret (pe_ix ix_list (pv 1) (pe_call G_Ldraw (hr.mono (by decide)) rfl T.g_Ldraw T.F_Ldraw.kp T.b_Ldraw .nil pass0 (pa_cons (pv 0) (pa_cons (pe_callB call_len_list (by rfl) T.m_len (by decide +kernel) (pa_cons (pv 1) pa_nil)) pa_nil))) (fun _ _ => rfl)))), ?_⟩
    clear G_Ldraw
    clear hr
    walk_at "rd"
    intro d H' d0 d1 hp' bt
    obtain ⟨v, hv, hm⟩ := pick_at (xs := xs) d0 (by simpa using d1)
    have hb' := bt b _ ne hb
    walk_at "rd"
    exact k v H' hm hp' bt
abbrev Pr := Int × Int
def prV (r : Pr) : List V := [.int r.1, .int r.2]
def rf (z : Addr × Pr) : V := .ref z.1
structure RowsAt (H : Hp) (l : Addr) (zs : List (Addr × Pr)) : Prop where
  ls : H l = some (.lst (zs.map rf))
  tp : ∀ z ∈ zs, H z.1 = some (.tup (prV z.2))
/-- at l a list of these rows -/
structure LR (H : Hp) (l : Addr) (rs : List Pr) : Prop where
  ex : ∃ zs : List (Addr × Pr), RowsAt H l zs ∧ zs.map Prod.snd = rs
theorem RowsAt.same {H H' : Hp} {l : Addr} {zs : List (Addr × Pr)} (s : Same H H') (h : RowsAt H l zs) : RowsAt H' l zs := ⟨s _ _ h.ls, fun z hz => s _ _ (h.tp z hz)⟩
theorem LR.same {H H' : Hp} {l : Addr} {rs : List Pr} (s : Same H H') (h : LR H l rs) : LR H' l rs := ⟨h.ex.imp fun _ h => ⟨h.1.same s, h.2⟩⟩
def lk (rs : List Pr) (p : Int) : Int := match rs.find? (fun r => r.1 == p) with
  | some r => r.2
  | none => 0
def sp_Lword : Sp := fun vs H Q _ => ∃ (a : Addr) (rs : List Pr) (p : Int), vs = [.ref a, .int p] ∧ LR H a rs ∧ Q (.int (lk rs p)) H
theorem ok_Lword (T : Txt w K mg) : FnOk P w K mg base CX0 1 T.f_Lword T.fd_Lword ["_law_rows", "_law_place"] (sp_Lword) := by
  refine T.F_Lword.ok sc_Lword (fun vs H Q E h => ?_) (fun cdv A outer s H vs Q E hr h => ?_)
  · obtain ⟨a, rs, p, rfl, hd, k⟩ := h; rfl
  · obtain ⟨a, rs, p, rfl, hd, k⟩ := h
    refine ⟨_, (pss_cons (ps_forS PassesOwn.never rfl (pi_list (pv 0)) (pg_tup rfl (pgs_cons (pg_name (i := 2) sc_Lword.nd rfl (Or.inl rfl)) (pgs_cons (pg_name (i := 3) sc_Lword.nd rfl (Or.inl rfl)) pgs_nil)))
          (pss_one (ps_if (pt_cmpR op_eq (pv 2) (pv 1) (nomark _))
            (pss_one (ps_ret (pv 3)))
            pss_nil)))
        (pss_one (ps_ret pe_int))), ?_⟩
    clear hr
    obtain ⟨zs, hz, rfl⟩ := hd.ex
    have hl := hz.ls
    walk_at "rd"
    refine ⟨for_list (xs := zs.map rf) (fun i σ H' => Stop (∃ t1 t2, σ = [some (.ref a), some (.int p), t1, t2] ∧ H' = H ∧ (zs.take i).find? (fun z => z.2.1 == p) = none)) ⟨⟨none, none, rfl, rfl, rfl⟩⟩ (fun i σ H' hi h => ?_) (fun i v σ H' hv h => ?_) (fun σ H' h => ?_)⟩
    · obtain ⟨t1, t2, rfl, rfl, hno⟩ := h.h
      exact SqL.of hl
    · obtain ⟨t1, t2, rfl, rfl, hno⟩ := h.h
      rw [List.getElem?_map] at hv
      obtain ⟨z, hz1, rfl⟩ := Option.map_eq_some_iff.mp hv
      have ht : H' z.1 = some (.tup [.int z.2.1, .int z.2.2]) := hz.tp z (List.mem_of_getElem? hz1)
      have hi : i < zs.length := (List.getElem?_eq_some_iff.mp hz1).1
      have ez : (zs.map Prod.snd).find? (fun r => r.1 == p) = Option.map Prod.snd (zs.find? (fun z => z.2.1 == p)) := by rw [List.find?_map]; rfl
      walk_at "rd"
      refine iteD (fun h1 => ?_) (fun h1 => ?_)
      · have h2 : z.2.1 = p := V.int.inj h1
        have e1 : zs.find? (fun z => z.2.1 == p) = some z := by
          rw [← List.take_append_drop i zs, List.find?_append, hno, List.drop_eq_getElem_cons hi, List.find?_cons_of_pos]
          · rw [List.getElem?_eq_getElem hi] at hz1; simpa using hz1
          · rw [List.getElem?_eq_getElem hi] at hz1; injection hz1 with e; simp [e, h2]
        have e3 : lk (zs.map Prod.snd) p = z.2.2 := by unfold lk; rw [ez, e1]; rfl
        walk_at "rd"
        exact qint k e3.symm
      · have h2 : ¬ z.2.1 = p := fun e => h1 (congrArg V.int e)
        walk_at "rd"
        exact ⟨⟨_, _, rfl, rfl, by
          rw [List.take_add_one, hz1, List.find?_append, hno]; simp [h2]⟩⟩
    · obtain ⟨t1, t2, rfl, rfl, hno⟩ := h.h
      rw [List.length_map, List.take_length] at hno
      have e3 : lk (zs.map Prod.snd) p = 0 := by
        unfold lk
        rw [List.find?_map]
        have : zs.find? ((fun r : Pr => r.1 == p) ∘ Prod.snd) = none := hno
        rw [this]; rfl
      walk_at "rd"
      exact qint k e3.symm
theorem mt_indexW {X : Cx} : MtR X "list.index" (fun x xs H Q => ∃ (a : Addr) (i : Nat), x = V.ref a ∧ xs = [V.str (wy i)] ∧ i < 3 ∧ SqL X.K H a [V.str "fetch", V.str "load", V.str "store"] ∧ Q (.int (i : Int)) H) := by
  intro pins s σ H x xs v us Q I rx rxs h
  obtain ⟨a, i, rfl, rfl, hi, hs, q⟩ := h
  refine mt_index pins s σ H _ _ v us Q I rx rxs ?_
  have hi3 : i = 0 ∨ i = 1 ∨ i = 2 := by omega
  rcases hi3 with rfl | rfl | rfl
  · exact ⟨a, _, _, 0, _, rfl, rfl, hs, rfl, rfl, rfl, by decide, fun m z' hm => absurd hm (by omega), q⟩
  · refine ⟨a, _, _, 1, _, rfl, rfl, hs, rfl, rfl, rfl, by decide, fun m z' hm he => ?_, q⟩
    have hm0 : m = 0 := by omega
    subst hm0
    injection he with he
    rw [← he]; decide
  · refine ⟨a, _, _, 2, _, rfl, rfl, hs, rfl, rfl, rfl, by decide, fun m z' hm he => ?_, q⟩
    have hm0 : m = 0 ∨ m = 1 := by omega
    rcases hm0 with rfl | rfl
    · injection he with he
      rw [← he]; decide
    · injection he with he
      rw [← he]; decide
def sp_cause : Sp := fun vs H Q _ => ∃ i : Nat, vs = [.str (wy i)] ∧ i < 3 ∧ ∀ H', Same H H' → Q (.int (4 + (i : Int))) H'
theorem ok_Lcause (T : Txt w K mg) : FnOk P w K mg base CX0 1 T.f_Lcause T.fd_Lcause ["_law_way"] (sp_cause) := by
  refine T.F_Lcause.ok sc_Lcause (fun vs H Q E h => ?_) (fun cdv A outer s H vs Q E hr h => ?_)
  · obtain ⟨i, rfl, hi, k⟩ := h; rfl
  · obtain ⟨i, rfl, hi, k⟩ := h
    refine ⟨_, (pss_one (ps_ret (pe_op op_add pe_int (pe_bm PySem.F.plainAttrs_list PySem.F.slot_list_index PySem.F.type_list_index mt_indexW (pe_lst (pa_cons pe_str (pa_cons pe_str (pa_cons pe_str pa_nil)))) (pa_cons (pv 0) pa_nil))))), ?_⟩
    clear hr
    walk_at "rd"
    intro t ht
    have q := k _ (same_upd (o := .lst [V.str "fetch", V.str "load", V.str "store"]) ht)
    walk_at "rd"
def sp_second : Sp := fun vs H Q _ => ∃ (x a : Int) (i : Nat) (u : Bool), vs = [.int x, .int a, .str (wy i), .bl u] ∧ (0 ≤ x ∧ x < 65536) ∧ (0 ≤ a ∧ a < 4096) ∧ i < 3 ∧
  ∀ (t : Addr) (H' : Hp), Same H H' → H' t = some (.tup [plV (sec x a i u).1, .int (sec x a i u).2]) → Q (.ref t) H'
theorem ok_Lsecond (T : Txt w K mg) : FnOk P w K mg base CX0 2 T.f_Lsecond T.fd_Lsecond ["_law_word_here", "_law_address", "_law_way", "_law_is_user"] (sp_second) := by
  have G_Lcause := ok_Lcause (P := P) (w := w) (base := base) T
  refine T.F_Lsecond.ok sc_Lsecond (fun vs H Q E h => ?_) (fun cdv A outer s H vs Q E hr h => ?_)
  · obtain ⟨x, a, i, u, rfl, hx, ha, hi, k⟩ := h; rfl
  · obtain ⟨x, a, i, u, rfl, hx, ha, hi, k⟩ := h
    refine ⟨_, (pss_cons (ps_if (PW.pt (pw_or (pt_cmpR op_lt (pv 0) pe_int (nomark _)) (pw_or1 (PW.pt (pw_and (pt_val (pv 3)) (pw_and1 (pt_cmpR op_eq (pe_op op_mod (pe_op op_fdiv (pv 0) pe_int) pe_int) pe_int (nomark _))))))))
          (pss_one (ps_ret (pe_tup (pa_cons pe_non (pa_cons (pe_call G_Lcause (hr.mono (by decide)) rfl T.g_Lcause T.F_Lcause.kp T.b_Lcause .nil pass0 (pa_cons (pv 2) pa_nil)) pa_nil)))))
          pss_nil)
        (pss_cons (ps_if (PW.pt (pw_and (pt_cmpR op_eq (pv 2) pe_str (nomark _)) (pw_and1 (pt_cmpR op_eq (pe_op op_mod (pe_op op_fdiv (pv 0) pe_int) pe_int) pe_int (nomark _)))))
          (pss_one (ps_ret (pe_tup (pa_cons pe_non (pa_cons (pe_call G_Lcause (hr.mono (by decide)) rfl T.g_Lcause T.F_Lcause.kp T.b_Lcause .nil pass0 (pa_cons (pv 2) pa_nil)) pa_nil)))))
          pss_nil)
        (pss_cons (ps_set (i := 4) sc_Lsecond.nd rfl (Or.inl rfl) (pe_op op_add (pe_op op_mulW (pe_op op_mod (pv 0) pe_int) pe_int) (pe_op op_mod (pv 1) pe_int)))
        (pss_one (ps_ret (pe_ifExp (PW.pt (pw_and (pt_cmpR op_eq (pv 2) pe_str (nomark _)) (pw_and1 (pt_cmpR op_ge (pv 4) pe_int (nomark _))))) (pe_tup (pa_cons pe_non (pa_cons pe_int pa_nil))) (pe_tup (pa_cons (pv 4) (pa_cons pe_int pa_nil))))))))), ?_⟩
    clear G_Lcause
    clear hr
    walk_at "rd"
    refine iteD (fun h1 => ?_) (fun h1 => ?_)
    · have es : sec x a i u = (none, 4 + (i : Int)) := by unfold sec; rw [if_pos h1]
      rw [es] at k
      walk_at "rd"
      intro H1 s1
      walk_at "rd"
      intro t2 ht2
      exact k t2 _ (Hx.Same.upd s1 ht2) upd_same
    have el : ∀ u, lets (x / 8192 % 4) i u = (!(u && decide (x / 8192 % 2 = 0)) && (decide (i ≠ 2) || decide (x / 16384 % 2 ≠ 0))) := fun u => by
      unfold lets
      rw [show x / 8192 % 4 % 2 = x / 8192 % 2 by omega, show x / 8192 % 4 / 2 % 2 = x / 16384 % 2 by omega]
    cases u with
    | false =>
      walk_at "rd"
      refine iteD (fun h2 => ?_) (fun h2 => ?_)
      · have i2 := wy2 hi h2
        walk_at "rd"
        refine iteD (fun h3 => ?_) (fun h3 => ?_)
        · have h3' : x / 16384 % 2 = 0 := V.int.inj h3
          have es : sec x a i false = (none, 4 + (i : Int)) := by unfold sec; rw [if_neg h1, if_pos (by rw [el]; simp [i2, h3'])]
          rw [es] at k
          walk_at "rd"
          intro H1 s1
          walk_at "rd"
          intro t2 ht2
          exact k t2 _ (Hx.Same.upd s1 ht2) upd_same
        · have h3' : ¬ x / 16384 % 2 = 0 := fun z => h3 (congrArg V.int z)
          have nb : ¬ lets (x / 8192 % 4) i false = false := by rw [el]; simp [h3']
          walk_at "rd"
          refine iteD (fun h4 => ?_) (fun h4 => ?_)
          · have i0 := wy0 hi h4
            omega
          · have es : sec x a i false = (some (x % 64 * 16 + a % 16), 0) := by unfold sec; rw [if_neg h1, if_neg nb, if_neg (fun z => h4 (by rw [z.1]; rfl))]
            rw [es] at k
            walk_at "rd"
            intro t2 ht2
            exact k t2 _ (same_upd ht2) upd_same
      · have i2 : ¬ i = 2 := fun z => h2 (by rw [z]; rfl)
        have nb : ¬ lets (x / 8192 % 4) i false = false := by rw [el]; simp [i2]
        walk_at "rd"
        refine iteD (fun h4 => ?_) (fun h4 => ?_)
        · have i0 := wy0 hi h4
          walk_at "rd"
          refine iteD (fun h5 => ?_) (fun h5 => ?_)
          · have es : sec x a i false = (none, 7) := by unfold sec; rw [if_neg h1, if_neg nb, if_pos ⟨i0, by omega⟩]
            rw [es] at k
            walk_at "rd"
            intro t2 ht2
            exact k t2 _ (same_upd ht2) upd_same
          · have es : sec x a i false = (some (x % 64 * 16 + a % 16), 0) := by unfold sec; rw [if_neg h1, if_neg nb, if_neg (fun z => by omega)]
            rw [es] at k
            walk_at "rd"
            intro t2 ht2
            exact k t2 _ (same_upd ht2) upd_same
        · have es : sec x a i false = (some (x % 64 * 16 + a % 16), 0) := by unfold sec; rw [if_neg h1, if_neg nb, if_neg (fun z => h4 (by rw [z.1]; rfl))]
          rw [es] at k
          walk_at "rd"
          intro t2 ht2
          exact k t2 _ (same_upd ht2) upd_same
    | true =>
      walk_at "rd"
      refine iteD (fun h0 => ?_) (fun h0 => ?_)
      · have h0' : x / 8192 % 2 = 0 := V.int.inj h0
        have es : sec x a i true = (none, 4 + (i : Int)) := by unfold sec; rw [if_neg h1, if_pos (by rw [el]; simp [h0'])]
        rw [es] at k
        walk_at "rd"
        intro H1 s1
        walk_at "rd"
        intro t2 ht2
        exact k t2 _ (Hx.Same.upd s1 ht2) upd_same
      · have h0' : ¬ x / 8192 % 2 = 0 := fun z => h0 (congrArg V.int z)
        walk_at "rd"
        refine iteD (fun h2 => ?_) (fun h2 => ?_)
        · have i2 := wy2 hi h2
          walk_at "rd"
          refine iteD (fun h3 => ?_) (fun h3 => ?_)
          · have h3' : x / 16384 % 2 = 0 := V.int.inj h3
            have es : sec x a i true = (none, 4 + (i : Int)) := by unfold sec; rw [if_neg h1, if_pos (by rw [el]; simp [i2, h3'])]
            rw [es] at k
            walk_at "rd"
            intro H1 s1
            walk_at "rd"
            intro t2 ht2
            exact k t2 _ (Hx.Same.upd s1 ht2) upd_same
          · have h3' : ¬ x / 16384 % 2 = 0 := fun z => h3 (congrArg V.int z)
            have nb : ¬ lets (x / 8192 % 4) i true = false := by rw [el]; simp [h3', h0']
            walk_at "rd"
            refine iteD (fun h4 => ?_) (fun h4 => ?_)
            · have i0 := wy0 hi h4
              omega
            · have es : sec x a i true = (some (x % 64 * 16 + a % 16), 0) := by unfold sec; rw [if_neg h1, if_neg nb, if_neg (fun z => h4 (by rw [z.1]; rfl))]
              rw [es] at k
              walk_at "rd"
              intro t2 ht2
              exact k t2 _ (same_upd ht2) upd_same
        · have i2 : ¬ i = 2 := fun z => h2 (by rw [z]; rfl)
          have nb : ¬ lets (x / 8192 % 4) i true = false := by rw [el]; simp [i2, h0']
          walk_at "rd"
          refine iteD (fun h4 => ?_) (fun h4 => ?_)
          · have i0 := wy0 hi h4
            walk_at "rd"
            refine iteD (fun h5 => ?_) (fun h5 => ?_)
            · have es : sec x a i true = (none, 7) := by unfold sec; rw [if_neg h1, if_neg nb, if_pos ⟨i0, by omega⟩]
              rw [es] at k
              walk_at "rd"
              intro t2 ht2
              exact k t2 _ (same_upd ht2) upd_same
            · have es : sec x a i true = (some (x % 64 * 16 + a % 16), 0) := by unfold sec; rw [if_neg h1, if_neg nb, if_neg (fun z => by omega)]
              rw [es] at k
              walk_at "rd"
              intro t2 ht2
              exact k t2 _ (same_upd ht2) upd_same
          · have es : sec x a i true = (some (x % 64 * 16 + a % 16), 0) := by unfold sec; rw [if_neg h1, if_neg nb, if_neg (fun z => h4 (by rw [z.1]; rfl))]
            rw [es] at k
            walk_at "rd"
            intro t2 ht2
            exact k t2 _ (same_upd ht2) upd_same
theorem lk_bd {rs : List Pr} (h : ∀ r ∈ rs, 0 ≤ r.2 ∧ r.2 < 65536) (p : Int) : 0 ≤ lk rs p ∧ lk rs p < 65536 := by
  unfold lk
  cases e : rs.find? (fun r => r.1 == p) with
  | none => decide
  | some r => exact h r (List.mem_of_find?_eq_some e)
def sp_told : Sp := fun vs H Q _ => ∃ (b : Addr) (rs : List Pr) (r a : Int) (i : Nat) (u : Bool) (z : Str), vs = [.ref b, .int r, .int a, .str z, .bl u] ∧ z = wy i ∧ LR H b rs ∧ (∀ r ∈ rs, 0 ≤ r.2 ∧ r.2 < 65536) ∧ (0 ≤ r ∧ r < 64) ∧ (0 ≤ a ∧ a < 4096) ∧ i < 3 ∧
  ∀ (t ll : Addr) (H' : Hp), H ll = none → Same H H' → H' t = some (.tup [plV (tl (lk rs) r a i u).place, .int (tl (lk rs) r a i u).cause, .ref ll]) → H' ll = some (.lst ((tl (lk rs) r a i u).leans.map V.int)) → Q (.ref t) H'
theorem ok_Ltold (T : Txt w K mg) : FnOk P w K mg base CX0 3 T.f_Ltold T.fd_Ltold ["_law_rows", "_law_root", "_law_address", "_law_way", "_law_is_user"] (sp_told) := by
  have G_Lword := ok_Lword (P := P) (w := w) (base := base) T
  have G_Lcause := ok_Lcause (P := P) (w := w) (base := base) T
  have G_Lsecond := ok_Lsecond (P := P) (w := w) (base := base) T
  refine T.F_Ltold.ok sc_Ltold (fun vs H Q E h => ?_) (fun cdv A outer s H vs Q E hr h => ?_)
  · obtain ⟨b, rs, r, a, i, u, _, rfl, rfl, hd, hb, hrt, ha, hi, k⟩ := h; rfl
  · obtain ⟨b, rs, r, a, i, u, _, rfl, rfl, hd, hb, hrt, ha, hi, k⟩ := h
    refine ⟨_, (pss_cons (ps_set (i := 5) sc_Ltold.nd rfl (Or.inl rfl) (pe_op op_add (pe_op op_mulW (pv 1) pe_int) (pe_op op_fdiv (pv 2) pe_int)))
        (pss_cons (ps_if (pt_cmpR op_ge (pv 5) pe_int (nomark _))
          (pss_one (ps_ret (pe_tup (pa_cons pe_non (pa_cons pe_int (pa_cons (pe_lst pa_nil) pa_nil))))))
          pss_nil)
        (pss_cons (ps_set (i := 6) sc_Ltold.nd rfl (Or.inl rfl) (pe_call G_Lword (hr.mono (by decide)) rfl T.g_Lword T.F_Lword.kp T.b_Lword .nil pass0 (pa_cons (pv 0) (pa_cons (pv 5) pa_nil))))
        (pss_cons (ps_if (pt_cmpR op_lt (pv 6) pe_int (nomark _))
          (pss_one (ps_ret (pe_tup (pa_cons pe_non (pa_cons (pe_call G_Lcause (hr.mono (by decide)) rfl T.g_Lcause T.F_Lcause.kp T.b_Lcause .nil pass0 (pa_cons (pv 3) pa_nil)) (pa_cons (pe_lst (pa_cons (pv 5) pa_nil)) pa_nil))))))
          pss_nil)
        (pss_cons (ps_set (i := 7) sc_Ltold.nd rfl (Or.inl rfl) (pe_op op_add (pe_op op_mulW (pe_op op_mod (pv 6) pe_int) pe_int) (pe_op op_mod (pe_op op_fdiv (pv 2) pe_int) pe_int)))
        (pss_cons (ps_if (pt_cmpR op_ge (pv 7) pe_int (nomark _))
          (pss_one (ps_ret (pe_tup (pa_cons pe_non (pa_cons pe_int (pa_cons (pe_lst (pa_cons (pv 5) pa_nil)) pa_nil))))))
          pss_nil)
        (pss_cons (ps_asg (pe_call G_Lsecond (hr.mono (by decide)) rfl T.g_Lsecond T.F_Lsecond.kp T.b_Lsecond .nil pass0 (pa_cons (pe_call G_Lword (hr.mono (by decide)) rfl T.g_Lword T.F_Lword.kp T.b_Lword .nil pass0 (pa_cons (pv 0) (pa_cons (pv 7) pa_nil))) (pa_cons (pv 2) (pa_cons (pv 3) (pa_cons (pv 4) pa_nil))))) (pg_tup rfl (pgs_cons (pg_name (i := 8) sc_Ltold.nd rfl (Or.inl rfl)) (pgs_cons (pg_name (i := 9) sc_Ltold.nd rfl (Or.inl rfl)) pgs_nil))))
        (pss_one (ps_ret (pe_tup (pa_cons (pv 8) (pa_cons (pv 9) (pa_cons (pe_lst (pa_cons (pv 5) (pa_cons (pv 7) pa_nil))) pa_nil))))))))))))), ?_⟩
    clear G_Lword G_Lcause G_Lsecond
    clear hr
    walk_at "rd"
    have hf0 : 0 ≤ (r * 16 + a / 256) := by omega
    refine iteD (fun h => ?_) (fun h => ?_)
    · have et : tl (lk rs) r a i u = ⟨none, 7, []⟩ := by unfold tl; rw [if_pos (by omega)]
      rw [et] at k
      walk_at "rd"
      intro ll hl
      walk_at "rd"
      intro t ht
      exact k t ll _ hl (Hx.Same.upd (same_upd hl) ht) upd_same (old_upd ht upd_same)
    have g0 := lk_bd hb (r * 16 + a / 256)
    have nf : ¬ 960 ≤ (r * 16 + a / 256) := by omega
    walk_at "rd"
    refine iteD (fun h1 => ?_) (fun h1 => ?_)
    · have et : tl (lk rs) r a i u = ⟨none, 4 + i, [(r * 16 + a / 256)]⟩ := by unfold tl; rw [if_neg nf, if_pos (by omega)]
      rw [et] at k
      walk_at "rd"
      intro H1 s1
      walk_at "rd"
      intro ll hl
      walk_at "rd"
      intro t ht
      exact k t ll _ (s1.free hl) (Hx.Same.upd (Hx.Same.upd s1 hl) ht) upd_same (old_upd ht upd_same)
    have nt : ¬ lk rs (r * 16 + a / 256) < 32768 := by omega
    walk_at "rd"
    have hq0 : 0 ≤ (lk rs (r * 16 + a / 256) % 64 * 16 + a / 16 % 16) := by omega
    refine iteD (fun h2 => ?_) (fun h2 => ?_)
    · have et : tl (lk rs) r a i u = ⟨none, 7, [(r * 16 + a / 256)]⟩ := by unfold tl; rw [if_neg nf, if_neg nt, if_pos (by omega)]
      rw [et] at k
      walk_at "rd"
      intro ll hl
      walk_at "rd"
      intro t ht
      exact k t ll _ hl (Hx.Same.upd (same_upd hl) ht) upd_same (old_upd ht upd_same)
    have et : tl (lk rs) r a i u = ⟨(sec (lk rs (lk rs (r * 16 + a / 256) % 64 * 16 + a / 16 % 16)) a i u).1, (sec (lk rs (lk rs (r * 16 + a / 256) % 64 * 16 + a / 16 % 16)) a i u).2, [(r * 16 + a / 256), (lk rs (r * 16 + a / 256) % 64 * 16 + a / 16 % 16)]⟩ := by unfold tl; rw [if_neg nf, if_neg nt, if_neg (by omega)]
    rw [et] at k
    have gq := lk_bd hb (lk rs (r * 16 + a / 256) % 64 * 16 + a / 16 % 16)
    walk_at "rd"
    intro t2 H2 s2 e2
    walk_at "rd"
    intro ll hl
    walk_at "rd"
    intro t ht
    exact k t ll _ (s2.free hl) (Hx.Same.upd (Hx.Same.upd s2 hl) ht) upd_same (old_upd ht upd_same)
def sp_entry : Sp := fun vs H Q _ => ∃ (p : Addr) (f : Int), vs = [.ref p, .int f] ∧ Pot H p ∧ (0 ≤ f ∧ f < 64) ∧ ∀ (z : Int) (H' : Hp), (0 ≤ z ∧ z < 65536) → Pot H' p → But p H H' → Q (.int z) H'
theorem ok_Lentry (T : Txt w K mg) : FnOk P w K mg base CX0 2 T.f_Lentry T.fd_Lentry ["_law_pot_here", "_law_frame"] (sp_entry) := by
  have G_Ldraw := ok_Ldraw (P := P) (w := w) (base := base) T
  refine T.F_Lentry.ok sc_Lentry (fun vs H Q E h => ?_) (fun cdv A outer s H vs Q E hr h => ?_)
  · obtain ⟨p, f, rfl, hp, hf, k⟩ := h; rfl
  · obtain ⟨p, f, rfl, hp, hf, k⟩ := h
    refine ⟨_, (pss_cons (ps_set (i := 2) sc_Lentry.nd rfl (Or.inl rfl) (pe_ifExp (pt_cmpR op_gt (pe_call G_Ldraw (hr.mono (by decide)) rfl T.g_Ldraw T.F_Ldraw.kp T.b_Ldraw .nil pass0 (pa_cons (pv 0) (pa_cons pe_int pa_nil))) pe_int (nomark _)) pe_int pe_int))
        (pss_cons (ps_set (i := 2) sc_Lentry.nd rfl (Or.inl rfl) (pe_op op_add (pv 2) (pe_op op_mulW pe_int (pe_call G_Ldraw (hr.mono (by decide)) rfl T.g_Ldraw T.F_Ldraw.kp T.b_Ldraw .nil pass0 (pa_cons (pv 0) (pa_cons pe_int pa_nil))))))
        (pss_one (ps_ret (pe_op op_add (pe_op op_add (pv 2) (pe_op op_mulW pe_int (pe_call G_Ldraw (hr.mono (by decide)) rfl T.g_Ldraw T.F_Ldraw.kp T.b_Ldraw .nil pass0 (pa_cons (pv 0) (pa_cons pe_int pa_nil))))) (pv 1)))))), ?_⟩
    clear G_Ldraw
    clear hr
    walk_at "rd"
    intro d1 H1 d10 d11 hp1 b1
    walk_at "rd"
    refine iteD (fun h => ?_) (fun h => ?_)
    · walk_at "rd"
      intro d2 H2 d20 d21 hp2 b2
      walk_at "rd"
      intro d3 H3 d30 d31 hp3 b3
      walk_at "rd"
      exact k (32768 + 8192 * d2 + 64 * d3 + f) _ (by omega) hp3 (b1.trans (b2.trans b3))
    · walk_at "rd"
      intro d2 H2 d20 d21 hp2 b2
      walk_at "rd"
      intro d3 H3 d30 d31 hp3 b3
      walk_at "rd"
      exact k (0 + 8192 * d2 + 64 * d3 + f) _ (by omega) hp3 (b1.trans (b2.trans b3))
theorem lc_pairs {K : PySem.W.Frag} {a : Addr} {g : TG} {tt : TT} {te : TE} {vs : List Nat} {σ : L2.St} {H1 : Hp} {D : Addr} {Qd : Hp → Prop} (zs : List (Addr × Pr)) (t : Pr → Bool) (hz : RowsAt H1 a zs) (hD : H1 D = none) (hl : zs.length ≤ 10000)
    (hs : ∀ (i : Nat) (z : Addr × Pr) (H' : Hp) (Qn : Hp → Prop) (Qy : VK), zs[i]? = some z → Same H1 H' → (t z.2 = false → ∀ H'', Same H' H'' → Qn H'') → (t z.2 = true → ∀ (H'' : Hp) (u : Addr), Same H' H'' → H'' u = some (.tup (prV z.2)) → Qy (.ref u) H'') → g (rf z) (wipe σ vs) H' fun σ2 H2 => wipe σ2 vs = wipe σ vs ∧ tt σ2 H2 fun b H3 => if b = true then te σ2 H3 Qy else Qn H3)
    (hd : ∀ H', Same H1 H' → LR H' D ((zs.map Prod.snd).filter t) → Qd H') :
    ∃ W : Nat → Nat → Hp → Prop, (∃ m, W 0 m (upd H1 D (.lst []))) ∧ ∀ i m H, W i m H →
      ((Itl K a).stop i H ∧ Qd H) ∨ ((Itl K a).go i H ∧ ∃ Nx : Hp → Prop, (∀ H', Nx H' → ∃ m', m' < m ∧ W (i + 1) m' H') ∧ ∀ x H', (Itl K a).yld i H x H' → g x (wipe σ vs) H' fun σ2 H2 => wipe σ2 vs = wipe σ vs ∧ tt σ2 H2 fun b H3 =>
        if b = true then te σ2 H3 fun y H4 => ∃ acc, H4 D = some (.lst acc) ∧ acc.length < sizeLine ∧ Nx (upd H4 D (.lst (acc ++ [y]))) else Nx H3) := by
  refine lc_list (xs := zs.map rf) (fun i H => Same H1 H ∧ LR H D (((zs.take i).map Prod.snd).filter t)) ⟨same_upd hD, ⟨[], ⟨upd_same, fun z h => nomatch h⟩, rfl⟩⟩ (fun i H _ h => SqL.of (h.1 _ _ hz.ls)) (fun i x H hx h => ?_) (fun H h => hd H h.1 (by have := h.2; rwa [List.length_map, List.take_length] at this))
  rw [List.getElem?_map] at hx
  obtain ⟨z, hz1, rfl⟩ := Option.map_eq_some_iff.mp hx
  have et : (zs.take (i + 1)).map Prod.snd = (zs.take i).map Prod.snd ++ [z.2] := by rw [List.take_add_one, hz1, List.map_append]; rfl
  obtain ⟨ys, hy, hyr⟩ := h.2.ex
  refine hs i z H _ _ hz1 h.1 (fun tn H'' s => ?_) (fun ty H'' u s eu => ?_)
  · refine ⟨L2.Same.trans h.1 s, ?_⟩
    rw [et, List.filter_append, List.filter_cons_of_neg (by simp [tn]), List.filter_nil, List.append_nil]
    exact h.2.same s
  · have hD2 := s _ _ hy.ls
    refine ⟨ys.map rf, hD2, size_lt ?_, same_set (L2.Same.trans h.1 s) hD, ⟨ys ++ [(u, z.2)], ⟨by rw [upd_same, List.map_append]; rfl, fun q hq => ?_⟩, ?_⟩⟩
    · have e1 := congrArg List.length hyr
      have e2 := List.length_filter_le t ((zs.take i).map Prod.snd)
      simp at e1 e2 ⊢; omega
    · have nD : ∀ {b : Addr} {ws : List V}, H'' b = some (.tup ws) → b ≠ D := fun {b ws} e y => by rw [y, hD2] at e; cases e
      rcases List.mem_append.mp hq with hq | hq
      · have e := s _ _ (hy.tp q hq)
        rw [upd_ne (nD e)]; exact e
      · simp at hq
        rw [hq, upd_ne (nD eu)]; exact eu
    · rw [et, List.filter_append, List.filter_cons_of_pos ty, List.filter_nil, List.map_append, hyr]; rfl
def putR (rs : List Pr) (q w : Int) : List Pr := rs.filter (fun r => !(r.1 == q)) ++ [(q, w)]
theorem LR.but {H H' : Hp} {a l : Addr} {rs : List Pr} {ws : List V} (h : LR H a rs) (b : But l H H') (n : a ≠ l) (hl : H l = some (.lst ws)) : LR H' a rs := by
  obtain ⟨zs, hz, e⟩ := h.ex
  exact ⟨zs, ⟨b _ _ n hz.ls, fun z h => b _ _ (fun y => by have := hz.tp z h; rw [y, hl] at this; cases this) (hz.tp z h)⟩, e⟩
def sp_Lput (C : Addr) : Sp := fun vs H Q _ => ∃ (p x l a : Addr) (ws : List Int) (rs : List Pr) (q w : Int), vs = [.ref p, .ref x, .ref a, .int q, .int w] ∧ MemAt C H x l ws ∧ LR H a rs ∧ a ≠ l ∧ rs.length ≤ 100 ∧ (0 ≤ q ∧ q < 960) ∧ (0 ≤ w ∧ w < 65536) ∧
  ∀ (t : Addr) (H' : Hp), H t = none → MemAt C H' x l (ws.set q.toNat w) → LR H' t (putR rs q w) → But l H H' → Q (.ref t) H'
theorem ok_Lput (T : Txt w K mg) : FnOk P w K mg base CX0 6 T.f_Lput T.fd_Lput ["_law_pot_here", "_law_memory", "_law_rows", "_law_place", "_law_word_here"] (sp_Lput T.C_Memory) := by
  have G_Memory_put := ok_Memory_put (P := P) (w := w) (base := base) T
  refine T.F_Lput.ok sc_Lput (fun vs H Q E h => ?_) (fun cdv A outer s H vs Q E hr h => ?_)
  · obtain ⟨p, x, l, a, ws, rs, q, w, rfl, hm, hd, al, hlen, hq, hw, k⟩ := h; rfl
  · obtain ⟨p, x, l, a, ws, rs, q, w, rfl, hm, hd, al, hlen, hq, hw, k⟩ := h
    refine ⟨_, (pss_cons (ps_expr (pe_meth (pv 1) T.cl_Memory T.me_Memory_put G_Memory_put (hr.mono (by decide)) T.b_Memory_put .nil pass0 (pa_cons (pv 3) (pa_cons (pv 4) pa_nil))))
        (pss_one (ps_ret (pe_op op_cat (pe_lc (own := [("_law_where", 5), ("_law_old", 6)]) (g := gTup _ 2 (gCons (gName 5) (gCons (gName 6) gNil)))  rfl sc_Lput.nd (pi_list (pv 2)) (blkOk_by (N := ["_law_pot_here", "_law_memory", "_law_rows", "_law_place", "_law_word_here", "_law_where", "_law_old"]) (sc := defScope s_Lput) (by decide +kernel)) (fun _ _ _ _ _ => pg_pair (i := 5) (j := 6) rfl sc_Lput.nd rfl rfl (Or.inl rfl) (Or.inl rfl)) (fun _ _ _ _ _ => pts_one (pt_cmpR op_ne (pv 5) (pv 3) (nomark _))) (fun _ _ _ _ _ => (pe_tup (pa_cons (pv 5) (pa_cons (pv 6) pa_nil))))) (pe_lst (pa_cons (pe_tup (pa_cons (pv 3) (pa_cons (pv 4) pa_nil))) pa_nil)))))), ?_⟩
    clear G_Memory_put
    clear hr
    obtain ⟨dx, hx⟩ := id hm.ob
    walk_at "rd"
    intro H1 hm1 b1
    have hd1 := hd.but b1 al hm.at_
    have fr : ∀ {y : Addr}, H1 y = none → H y = none := fun {y} e => by
      cases hy : H y with
      | none => rfl
      | some u =>
        by_cases hl : y = l
        · rw [hl, hm1.at_] at e; cases e
        · rw [b1 _ _ hl hy] at e; cases e
    obtain ⟨zs, hz, rfl⟩ := hd1.ex
    have hl := hz.ls
    walk_at "rd"
    intro D hD
    refine lc_pairs zs (fun r => !(r.1 == q)) hz hD (by simp at hlen; omega) (fun i z H' Qn Qy hz1 s1 kn ky => ?_) (fun H2 s2 hd2 => ?_)
    · have ht : H' z.1 = some (.tup [.int z.2.1, .int z.2.2]) := s1 _ _ (hz.tp z (List.mem_of_getElem? hz1))
      walk_at "rd"
      refine iteN (fun h1 => ?_) (fun h1 => ?_)
      · have h2 : ¬ z.2.1 = q := fun e => h1 (congrArg V.int e)
        walk_at "rd"
        intro u hu
        exact ky (by simp [h2]) _ u (same_upd hu) upd_same
      · have h2 : z.2.1 = q := V.int.inj h1
        exact kn (by simp [h2]) _ (L2.Same.refl _)
    obtain ⟨ys, hy, hyr⟩ := hd2.ex
    have hly := hy.ls
    have hln : ys.length ≤ 100 := by
      have e1 := congrArg List.length hyr
      have e2 := List.length_filter_le (fun r : Pr => !(r.1 == q)) (zs.map Prod.snd)
      simp at e1 e2 hlen; omega
    walk_at "rd"
    intro t1 f1
    walk_at "rd"
    intro o1 f2
    have hz9 : (ys.map rf).length + [V.ref t1].length ≤ sizeLine := size_le (by simp; omega)
    walk_at "rd"
    intro t f3
    have sm := Hx.Same.upd (o := .lst [.ref t1]) (same_upd (o := .tup [.int q, .int w]) f1) f2
    have sm3 := Hx.Same.upd (o := .lst (ys.map rf ++ [.ref t1])) sm f3
    have e1 : (upd (upd (upd H2 t1 (.tup [.int q, .int w])) o1 (.lst [.ref t1])) t (.lst (ys.map rf ++ [.ref t1]))) t1 = some (.tup [.int q, .int w]) := old_upd f3 (old_upd f2 upd_same)
    refine k t _ (fr (s2.free (sm.free f3))) ((hm1.same s2).same sm3) ⟨ys ++ [(t1, (q, w))], ⟨by rw [upd_same, List.map_append]; rfl, fun z h => ?_⟩, by rw [List.map_append, hyr]; rfl⟩ (b1.trans (But.same (L2.Same.trans s2 sm3)))
    rcases List.mem_append.mp h with h | h
    · exact sm3 _ _ (hy.tp z h)
    · simp at h
      rw [h]; exact e1
def sp_Llean : Sp := fun vs H Q _ => ∃ (b c : Addr) (rs : List Pr) (r p : Int) (ps : List Int), vs = [.ref b, .int r, .int p, .ref c] ∧ LR H b rs ∧ (∀ r ∈ rs, 0 ≤ r.2 ∧ r.2 < 65536) ∧ (0 ≤ r ∧ r < 64) ∧ H c = some (.lst (ps.map V.int)) ∧ (∀ x ∈ ps, 0 ≤ x ∧ x < 256) ∧ ps.length ≤ 100 ∧
  ∀ (t : Addr) (H' : Hp), Same H H' → H' t = some (.lst ((ps.filter fun n => decide (p ∈ (tl (lk rs) r (n * 16) 1 false).leans)).map V.int)) → Q (.ref t) H'
theorem ok_Llean (T : Txt w K mg) : FnOk P w K mg base CX0 4 T.f_Llean T.fd_Llean ["_law_rows", "_law_root", "_law_place", "_law_pages"] (sp_Llean) := by
  have G_Ltold := ok_Ltold (P := P) (w := w) (base := base) T
  refine T.F_Llean.ok sc_Llean (fun vs H Q E h => ?_) (fun cdv A outer s H vs Q E hr h => ?_)
  · obtain ⟨b, c, rs, r, p, ps, rfl, hd, hb, hrt, hc, hps, hlen, k⟩ := h; rfl
  · obtain ⟨b, c, rs, r, p, ps, rfl, hd, hb, hrt, hc, hps, hlen, k⟩ := h
    refine ⟨_, (pss_cons (ps_set (i := 4) sc_Llean.nd rfl (Or.inl rfl) (pe_lst pa_nil))
        (pss_cons (ps_forS PassesOwn.never rfl (pi_list (pv 3)) (pg_name (i := 5) sc_Llean.nd rfl (Or.inl rfl))
          (pss_one (ps_if (pt_cmpR op_in_seq (pv 2) (pe_ix ix_tup (pe_call G_Ltold (hr.mono (by decide)) rfl T.g_Ltold T.F_Ltold.kp T.b_Ltold .nil pass0 (pa_cons (pv 0) (pa_cons (pv 1) (pa_cons (pe_op op_mulW (pv 5) pe_int) (pa_cons pe_str (pa_cons pe_bl pa_nil)))))) pe_int (fun _ _ => rfl)) (by rfl))
            (pss_one (ps_expr (pe_bm PySem.F.plainAttrs_list PySem.F.slot_list_append PySem.F.type_list_append mt_append (pv 4) (pa_cons (pv 5) pa_nil))))
            pss_nil)))
        (pss_one (ps_ret (pv 4))))), ?_⟩
    clear G_Ltold
    clear hr
    walk_at "rd"
    intro t ft
    have hc1 := old_upd (o := .lst []) ft hc
    walk_at "rd"
    refine ⟨for_list (xs := ps.map V.int) (fun i σ H' => Stop (∃ t5 : Option V, σ = [some (.ref b), some (.int r), some (.int p), some (.ref c), some (.ref t), t5] ∧ Same H H' ∧ H' t = some (.lst (((ps.take i).filter fun n => decide (p ∈ (tl (lk rs) r (n * 16) 1 false).leans)).map V.int)))) ⟨⟨none, rfl, same_upd ft, upd_same⟩⟩ (fun i σ H' hi h => ?_) (fun i v σ H' hv h => ?_) (fun σ H' h => ?_)⟩
    · obtain ⟨t5, rfl, s1, e1⟩ := h.h
      exact SqL.of (s1 _ _ hc)
    · obtain ⟨t5, rfl, s1, e1⟩ := h.h
      obtain ⟨z, rfl, hz⟩ := int_get hv
      have hz2 := hps z (List.mem_of_getElem? hz)
      have hza : 0 ≤ z * 16 ∧ z * 16 < 4096 := by omega
      have h13 : 1 < 3 := by decide
      have ew : ("load" : Str) = wy 1 := rfl
      have hd1 := hd.same s1
      have et : ps.take (i + 1) = ps.take i ++ [z] := by rw [List.take_add_one, hz]; rfl
      walk_at "rd"
      intro tt ll H2 nl2 s2 e2 e3
      have fl := flat_ints (tl (lk rs) r (z * 16) 1 false).leans
      have a2 : atI [plV (tl (lk rs) r (z * 16) 1 false).place, V.int (tl (lk rs) r (z * 16) 1 false).cause, V.ref ll] 2 = some (.ref ll) := at_of (j := 2) (by omega) rfl
      have e1' := s2 _ _ e1
      walk_at "rd"
      rw [inV_ints]
      refine iteD (fun h1 => ?_) (fun h1 => ?_)
      · have sz : (((ps.take i).filter fun n => decide (p ∈ (tl (lk rs) r (n * 16) 1 false).leans)).map V.int).length < sizeLine := size_lt (by
          have := List.length_filter_le (fun n => decide (p ∈ (tl (lk rs) r (n * 16) 1 false).leans)) (ps.take i)
          simp at this ⊢; omega)
        walk_at "rd"
        exact ⟨⟨_, rfl, same_set (L2.Same.trans s1 s2) ft, by rw [upd_same, et, List.filter_append, List.filter_cons_of_pos (by simp [h1]), List.filter_nil, List.map_append]; rfl⟩⟩
      · walk_at "rd"
        exact ⟨⟨_, rfl, L2.Same.trans s1 s2, by rw [e1', et, List.filter_append, List.filter_cons_of_neg (by simp [h1]), List.filter_nil, List.append_nil]⟩⟩
    · obtain ⟨t5, rfl, s1, e1⟩ := h.h
      rw [List.length_map, List.take_length] at e1
      have q := k t _ s1 e1
      walk_at "rd"
end
end K38

set_option Elab.async false
set_option linter.all false
set_option maxRecDepth 100000
set_option maxHeartbeats 8000000

namespace K38
open PySem PySem.Spec PyProof.Rows L2 Hx 
local macro_rules | `(tactic| walk_at "sm") => `(tactic| repeat' (first | assumption | apply Hx.Same.upd | exact L2.Same.refl _ | apply same_trans'))
local macro_rules | `(tactic| walk_at "hp") => `(tactic| repeat' (first | assumption | exact upd_same | apply old_upd | apply same_at))
local macro_rules | `(tactic| walk_at "rd") => `(tactic| repeat' (first | rfl | apply Exists.intro | apply And.intro | refine iteT ?_ | refine iteF ?_ | exact upd_same | exact SqL.of (by assumption) | exact SqL.of upd_same | exact SqT.of upd_same | exact SqT.of (by assumption) | ((with_reducible show (_ : Int) < _); omega) | ((with_reducible show (_ : Int) ≤ _); omega) | (show (_ : Prop); assumption) | exact Or.inl ⟨_, by assumption, rfl⟩ | exact Or.inl ⟨rfl, _, SqL.of (by assumption)⟩ | exact Or.inl ⟨rfl, _, SqL.of upd_same⟩ | apply old_upd | apply Hx.SqL.new | apply tyl_new | apply Pot.new | exact same_at (by assumption) (by assumption) | exact Or.inl (SqL.of (by assumption)) | exact Or.inl (by assumption) | exact Or.inl (SqL.of upd_same) | exact size_le (Nat.le_of_ble_eq_true rfl) | exact Nat.le_of_ble_eq_true rfl | exact True.intro | exact Or.inl rfl | exact Or.inr rfl | (show (_ : Prop); omega) | (show (_ : Prop); dsimp only; omega) | exact mulw64 (by omega) (by omega) | exact mulw64 (by (try dsimp only); omega) (by (try dsimp only); omega)))

section
variable {P : Program} {w : World} {K : PySem.W.Frag} {mg : Str → Option Value} {base : Heap}
theorem tl_congr {g g' : Int → Int} {r a : Int} {i : Nat} {u : Bool} (h : ∀ q ∈ (tl g r a i u).leans, g' q = g q) : tl g' r a i u = tl g r a i u := by
  unfold tl at h ⊢
  by_cases h1 : 960 ≤ r * 16 + a / 256
  · rw [if_pos h1, if_pos h1]
  · rw [if_neg h1] at h ⊢
    rw [if_neg h1]
    by_cases h2 : g (r * 16 + a / 256) < 32768
    · rw [if_pos h2] at h ⊢
      rw [h _ (by simp), if_pos h2]
    · rw [if_neg h2] at h ⊢
      by_cases h3 : 960 ≤ g (r * 16 + a / 256) % 64 * 16 + a / 16 % 16
      · rw [if_pos h3] at h ⊢
        rw [h _ (by simp), if_neg h2, if_pos h3]
      · rw [if_neg h3] at h ⊢
        rw [h (r * 16 + a / 256) (by simp), if_neg h2, if_neg h3, h (g (r * 16 + a / 256) % 64 * 16 + a / 16 % 16) (by simp)]
theorem tl_leans {g : Int → Int} {r a : Int} {i : Nat} {u : Bool} (hr : 0 ≤ r) (ha : 0 ≤ a) : ∀ q ∈ (tl g r a i u).leans, 0 ≤ q ∧ q < 960 := by
  intro q hq
  unfold tl at hq
  by_cases h1 : 960 ≤ r * 16 + a / 256
  · rw [if_pos h1] at hq; exact nomatch hq
  · rw [if_neg h1] at hq
    by_cases h2 : g (r * 16 + a / 256) < 32768
    · rw [if_pos h2] at hq
      simp at hq; omega
    · rw [if_neg h2] at hq
      by_cases h3 : 960 ≤ g (r * 16 + a / 256) % 64 * 16 + a / 16 % 16
      · rw [if_pos h3] at hq
        simp at hq; omega
      · rw [if_neg h3] at hq
        simp at hq; omega
theorem tl_len (g : Int → Int) (r a : Int) (i : Nat) (u : Bool) : (tl g r a i u).leans.length ≤ 2 := by
  unfold tl
  split
  · exact Nat.zero_le _
  · split
    · exact Nat.le_succ 1
    · split
      · exact Nat.le_succ 1
      · exact Nat.le_refl 2
theorem lk_put (rs : List Pr) (q w z : Int) : lk (putR rs q w) z = if z = q then w else lk rs z := by
  unfold lk putR
  rw [List.find?_append, List.find?_filter]
  by_cases h : z = q
  · subst h
    rw [if_pos rfl]
    have e : rs.find? (fun a => decide ((!(a.1 == z)) = true ∧ (a.1 == z) = true)) = none := by
      rw [List.find?_eq_none]
      intro r _
      simp
    rw [e]
    simp
  · rw [if_neg h]
    have e : (fun a : Pr => decide ((!(a.1 == q)) = true ∧ (a.1 == z) = true)) = fun a => a.1 == z := by
      funext a
      by_cases k : a.1 = z
      · simp [k, h]
      · simp [k]
    rw [e]
    cases e2 : rs.find? (fun a => a.1 == z) with
    | none =>
      have : ¬ q = z := fun y => h y.symm
      simp [this]
    | some r => rfl
theorem G_put {ws : List Int} {q w z : Int} (hl : ws.length = 960) (hq : 0 ≤ q ∧ q < 960) (hz : 0 ≤ z) : G (ws.set q.toNat w) z = if z = q then w else G ws z := by
  unfold G
  rw [List.getD_eq_getElem?_getD, List.getD_eq_getElem?_getD, List.getElem?_set]
  by_cases h : z = q
  · subst h
    rw [if_pos rfl, if_pos rfl, if_pos (by omega)]; rfl
  · rw [if_neg h, if_neg (by omega)]
/-- p the pot; x the memory, l its words; a the law's rows -/
structure St (C : Addr) (H : Hp) (p x l a : Addr) (ws : List Int) (rs : List Pr) (n : Nat) : Prop where
  pot : Pot H p
  mem : MemAt C H x l ws
  law : LR H a rs
  al : a ≠ l
  le : rs.length ≤ n
  bd : ∀ r ∈ rs, 0 ≤ r.2 ∧ r.2 < 65536
  eq : ∀ q, 0 ≤ q → q < 960 → lk rs q = G ws q
theorem ne_len {H : Hp} {a b : Addr} {xs ys : List V} (h : H a = some (.lst xs)) (k : H b = some (.lst ys)) (n : xs.length ≠ ys.length) : a ≠ b := fun z => by
  rw [z, k] at h
  injection h with h
  injection h with h
  exact n (by rw [h])
theorem St.ls {C : Addr} {H : Hp} {p x l a : Addr} {ws : List Int} {rs : List Pr} {n : Nat} (c : St C H p x l a ws rs n) : ∃ vs, H a = some (.lst vs) := by
  obtain ⟨zs, hz, _⟩ := c.law.ex
  exact ⟨_, hz.ls⟩
theorem St.dis {C : Addr} {H : Hp} {p x l a : Addr} {ws : List Int} {rs : List Pr} {n : Nat} (c : St C H p x l a ws rs n) : l ≠ p ∧ a ≠ p ∧ x ≠ p := by
  obtain ⟨i, j, e, _⟩ := c.pot.ex
  obtain ⟨dx, hx⟩ := c.mem.ob
  obtain ⟨zs, hz, _⟩ := c.law.ex
  refine ⟨ne_len c.mem.at_ e (by simp [c.mem.len]), fun z => ?_, fun z => by rw [z, e] at hx; cases hx⟩
  have q := hz.ls
  rw [z, e] at q
  injection q with q
  injection q with q
  cases zs with
  | nil => cases q
  | cons y ys => simp [rf] at q
theorem St.drawn {C : Addr} {H H' : Hp} {p x l a : Addr} {ws : List Int} {rs : List Pr} {n : Nat} (c : St C H p x l a ws rs n) (hp : Pot H' p) (b : But p H H') : St C H' p x l a ws rs n := by
  obtain ⟨d1, d2, d3⟩ := c.dis
  obtain ⟨dx, hx⟩ := c.mem.ob
  obtain ⟨i, j, e, _⟩ := c.pot.ex
  exact ⟨hp, ⟨⟨dx, b _ _ d3 hx⟩, b _ _ d1 c.mem.at_, c.mem.len, c.mem.bd⟩, c.law.but b d2 e, c.al, c.le, c.bd, c.eq⟩
theorem St.mono {C : Addr} {H : Hp} {p x l a : Addr} {ws : List Int} {rs : List Pr} {n n' : Nat} (c : St C H p x l a ws rs n) (h : n ≤ n') : St C H p x l a ws rs n' := ⟨c.pot, c.mem, c.law, c.al, Nat.le_trans c.le h, c.bd, c.eq⟩
theorem St.same {C : Addr} {H H' : Hp} {p x l a : Addr} {ws : List Int} {rs : List Pr} {n : Nat} (c : St C H p x l a ws rs n) (s : Same H H') : St C H' p x l a ws rs n := ⟨c.pot.same s, c.mem.same s, c.law.same s, c.al, c.le, c.bd, c.eq⟩
theorem St.put {C : Addr} {H H' : Hp} {p x l a t : Addr} {ws : List Int} {rs : List Pr} {n : Nat} {q w : Int} (c : St C H p x l a ws rs n) (hq : 0 ≤ q ∧ q < 960) (hw : 0 ≤ w ∧ w < 65536) (nt : H t = none) (hm : MemAt C H' x l (ws.set q.toNat w)) (hd : LR H' t (putR rs q w)) (b : But l H H') : St C H' p x l t (ws.set q.toNat w) (putR rs q w) (n + 1) := by
  obtain ⟨d1, d2, d3⟩ := c.dis
  obtain ⟨i, j, e, r⟩ := c.pot.ex
  refine ⟨⟨i, j, b _ _ (Ne.symm d1) e, r⟩, hm, hd, (fun z => by rw [z, c.mem.at_] at nt; cases nt), ?_, fun r hr => ?_, fun z z0 z1 => ?_⟩
  · have := List.length_filter_le (fun r : Pr => !(r.1 == q)) rs
    have le := c.le
    unfold putR
    simp at this ⊢; omega
  · unfold putR at hr
    rcases List.mem_append.mp hr with h | h
    · exact c.bd r (List.mem_filter.mp h).1
    · simp at h
      rw [h]; exact hw
  · rw [lk_put, G_put c.mem.len hq z0, c.eq z z0 z1]
theorem St.tl {C : Addr} {H : Hp} {p x l a : Addr} {ws : List Int} {rs : List Pr} {n : Nat} (c : St C H p x l a ws rs n) {r d : Int} {i : Nat} {u : Bool} (hr : 0 ≤ r) (hd : 0 ≤ d) : tl (G ws) r d i u = tl (lk rs) r d i u := tl_congr fun q hq => by
  have b := tl_leans hr hd q hq
  exact (c.eq q b.1 b.2).symm
theorem St.init {C : Addr} {H : Hp} {p x l a : Addr} (hp : Pot H p) (hm : MemAt C H x l m0) (ha : H a = some (.lst [])) : St C H p x l a m0 [] 0 :=
  ⟨hp, hm, ⟨[], ⟨ha, fun z h => nomatch h⟩, rfl⟩, (fun z => by
    rw [z, hm.at_] at ha
    injection ha with ha
    injection ha with ha
    have := congrArg List.length ha
    rw [List.length_map, hm.len] at this
    cases this), Nat.le_refl _, (fun r h => nomatch h), fun q q0 q1 => by
    unfold G m0
    rw [List.getD_eq_getElem?_getD, List.getElem?_replicate]
    split <;> rfl⟩
def plD : Option Int → PyData
  | none => .none
  | some p => .int p
def rsD (r : Rs) : PyData := .tuple [plD r.place, .int r.cause, .list (r.leans.map PyData.int)]
theorem rs_dp {K : PySem.W.Frag} {H : Hp} {t ll : Addr} {r : Rs} (h : H t = some (.tup [plV r.place, .int r.cause, .ref ll])) (k : H ll = some (.lst (r.leans.map V.int))) : Dp K H (.ref t) (rsD r) := by
  refine .tup (SqT.of h) (.cons ?_ (.cons (.int _) (.cons (.lst (SqL.of k) (dp_ints _)) .nil)))
  cases r.place with
  | none => exact .non
  | some p => exact .int p
theorem rs_sh (r : Rs) : SeqAt.shaped (rsD r) = true := flat_sh (n := 2) (flat_tup (n := 1) fun d hd => by
  simp only [List.mem_cons, List.not_mem_nil, or_false] at hd
  rcases hd with rfl | rfl | rfl
  · cases r.place with
    | none => exact ⟨by simp [plD, PyData.canLay0], by simp [plD, PyData.depth]⟩
    | some p => exact flat_int 1 p
  · exact flat_int 1 _
  · exact flat_list (n := 0) fun d hd => by
      obtain ⟨z, _, rfl⟩ := List.mem_map.mp hd
      exact flat_int 0 z)
theorem inV_not (p : Int) (xs : List Int) : (if true = true then !inV (V.int p) (xs.map V.int) else inV (V.int p) (xs.map V.int)) = !decide (p ∈ xs) := by
  rw [if_pos rfl, ← inV_ints, if_neg (fun z => nomatch z)]
theorem perm_sorted_eq : ∀ {l1 l2 : List Int}, l1.Perm l2 → l1.Pairwise (· ≤ ·) → l2.Pairwise (· ≤ ·) → l1 = l2
  | [], l2, h, _, _ => h.nil_eq
  | a :: l, [], h, _, _ => absurd h.symm.nil_eq (fun z => nomatch z)
  | a :: l, b :: m, h, s1, s2 => by
    rw [List.pairwise_cons] at s1 s2
    have e : a = b := by
      have h1 : a ∈ b :: m := h.mem_iff.mp List.mem_cons_self
      have h2 : b ∈ a :: l := h.mem_iff.mpr List.mem_cons_self
      rcases List.mem_cons.mp h1 with h1 | h1
      · exact h1
      · rcases List.mem_cons.mp h2 with h2 | h2
        · exact h2.symm
        · exact Int.le_antisymm (s1.1 _ h2) (s2.1 _ h1)
    subst e
    rw [perm_sorted_eq (List.Perm.cons_inv h) s1.2 s2.2]
theorem pgs_sorted (g : Int → Int) (r p : Int) : (pgs g r p).Pairwise (· ≤ ·) := by
  unfold pgs
  rw [List.pairwise_map]
  exact (List.Pairwise.filter _ List.pairwise_lt_range).imp fun {a b} h => by omega
def PG : List Int := [0, 1, 2, 3, 16, 17, 32, 255]
def NP : List Nat := [0, 1, 2, 3, 16, 17, 32, 255]
theorem pgs_PG {g g' : Int → Int} {r p : Int} (h : ∀ n : Nat, n < 256 → (tl g r ((n : Int) * 16) 1 false) = (tl g' r ((n : Int) * 16) 1 false)) : (pgs g r p).filter (fun n => decide (n ∈ PG)) = PG.filter fun n => decide (p ∈ (tl g' r (n * 16) 1 false).leans) := by
  have e1 : (List.range 256).filter (fun n : Nat => decide ((n : Int) ∈ PG)) = NP := by decide +kernel
  have e2 : PG = NP.map fun n : Nat => (n : Int) := rfl
  have e3 : ∀ n ∈ NP, n < 256 := by decide
  unfold pgs
  rw [List.filter_map, List.filter_filter]
  have e4 : (List.range 256).filter (fun a : Nat => ((fun n => decide (n ∈ PG)) ∘ fun n : Nat => (n : Int)) a && decide (p ∈ (tl g r ((a : Int) * 16) 1 false).leans)) = NP.filter fun n : Nat => decide (p ∈ (tl g r ((n : Int) * 16) 1 false).leans) := by
    rw [← e1, List.filter_filter]
    apply List.filter_congr
    intro n _
    exact Bool.and_comm _ _
  rw [e4, e2, List.filter_map]
  congr 1
  apply List.filter_congr
  intro n hn
  show decide (p ∈ (tl g r ((n : Int) * 16) 1 false).leans) = decide (p ∈ (tl g' r ((n : Int) * 16) 1 false).leans)
  rw [h n (e3 n hn)]
def sp_right (K : PySem.W.Frag) : Sp := fun vs H Q _ => ∃ p : Addr, vs = [.ref p] ∧ Pot H p ∧ ∀ H', Q (.bl true) H'
theorem ok_Lright (T : Txt w K mg) : FnOk P w K mg base CX0 12 T.f_Lright T.fd_Lright ["_law_pot_here"] (sp_right K) := by
  have G_Lpick := ok_Lpick (P := P) (w := w) (base := base) T
  have G_Memory_init := ok_Memory_init (P := P) (w := w) (base := base) T
  have G_Ldraw := ok_Ldraw (P := P) (w := w) (base := base) T
  have G_Lentry := ok_Lentry (P := P) (w := w) (base := base) T
  have G_Lput := ok_Lput (P := P) (w := w) (base := base) T
  have G_Ltold := ok_Ltold (P := P) (w := w) (base := base) T
  have G_translated := ok_translated (P := P) (w := w) (base := base) T
  have G_leaning := ok_leaning (P := P) (w := w) (base := base) T
  have G_Llean := ok_Llean (P := P) (w := w) (base := base) T
  refine T.F_Lright.ok sc_Lright (fun vs H Q E h => ?_) (fun cdv A outer s H vs Q E hr h => ?_)
  · obtain ⟨p, rfl, hp, k⟩ := h; rfl
  · obtain ⟨p, rfl, hp, k⟩ := h
    refine ⟨_, (pss_cons (ps_par3 (i := 1) (j := 2) (l := 3) rfl sc_Lright.nd rfl rfl rfl (by decide) (by decide) (by decide) rfl rfl rfl (pa_cons (pe_call G_Lpick (hr.mono (by decide)) rfl T.g_Lpick T.F_Lpick.kp T.b_Lpick .nil pass0 (pa_cons (pv 0) (pa_cons (pe_lst (pa_cons pe_int (pa_cons pe_int (pa_cons pe_int (pa_cons pe_int (pa_cons pe_int pa_nil)))))) pa_nil))) (pa_cons (pe_make0 T.mk_Memory G_Memory_init (hr.mono (by decide)) rfl T.g_Memory T.b_Memory_init .nil pass0) (pa_cons (pe_lst pa_nil) pa_nil))) (by rfl))
        (pss_cons (ps_set (i := 4) sc_Lright.nd rfl (Or.inl rfl) (pe_lst (pa_cons pe_int (pa_cons pe_int (pa_cons (pe_call G_Ldraw (hr.mono (by decide)) rfl T.g_Ldraw T.F_Ldraw.kp T.b_Ldraw .nil pass0 (pa_cons (pv 0) (pa_cons pe_int pa_nil))) pa_nil)))))
        (pss_cons (ps_forS PassesOwn.never rfl (pi_range1 rfl T.m_range (pa_cons pe_int pa_nil)) (pg_name (i := 5) sc_Lright.nd rfl (Or.inl rfl))
          (pss_one (ps_if (pt_cmpR op_lt (pv 1) pe_int (nomark _))
            (pss_cons (ps_set (i := 6) sc_Lright.nd rfl (Or.inl rfl) (pe_call G_Lentry (hr.mono (by decide)) rfl T.g_Lentry T.F_Lentry.kp T.b_Lentry .nil pass0 (pa_cons (pv 0) (pa_cons (pe_call G_Lpick (hr.mono (by decide)) rfl T.g_Lpick T.F_Lpick.kp T.b_Lpick .nil pass0 (pa_cons (pv 0) (pa_cons (pv 4) pa_nil))) pa_nil))))
            (pss_one (ps_set (i := 3) sc_Lright.nd rfl (Or.inl rfl) (pe_call G_Lput (hr.mono (by decide)) rfl T.g_Lput T.F_Lput.kp T.b_Lput .nil pass0 (pa_cons (pv 0) (pa_cons (pv 2) (pa_cons (pv 3) (pa_cons (pe_op op_add (pe_op op_mulW (pv 1) pe_int) (pv 5)) (pa_cons (pv 6) pa_nil)))))))))
            pss_nil)))
        (pss_cons (ps_forS PassesOwn.never rfl (pi_range1 rfl T.m_range (pa_cons pe_int pa_nil)) (pg_name (i := 7) sc_Lright.nd rfl (Or.inl rfl))
          (pss_cons (ps_set (i := 8) sc_Lright.nd rfl (Or.inl rfl) (pe_op op_add (pe_op op_mulW (pe_call G_Lpick (hr.mono (by decide)) rfl T.g_Lpick T.F_Lpick.kp T.b_Lpick .nil pass0 (pa_cons (pv 0) (pa_cons (pe_lst (pa_cons pe_int (pa_cons pe_int pa_nil))) pa_nil))) pe_int) (pe_call G_Ldraw (hr.mono (by decide)) rfl T.g_Ldraw T.F_Ldraw.kp T.b_Ldraw .nil pass0 (pa_cons (pv 0) (pa_cons pe_int pa_nil)))))
          (pss_one (ps_set (i := 3) sc_Lright.nd rfl (Or.inl rfl) (pe_call G_Lput (hr.mono (by decide)) rfl T.g_Lput T.F_Lput.kp T.b_Lput .nil pass0 (pa_cons (pv 0) (pa_cons (pv 2) (pa_cons (pv 3) (pa_cons (pv 8) (pa_cons (pe_call G_Lentry (hr.mono (by decide)) rfl T.g_Lentry T.F_Lentry.kp T.b_Lentry .nil pass0 (pa_cons (pv 0) (pa_cons (pe_call G_Ldraw (hr.mono (by decide)) rfl T.g_Ldraw T.F_Ldraw.kp T.b_Ldraw .nil pass0 (pa_cons (pv 0) (pa_cons pe_int pa_nil))) pa_nil))) pa_nil))))))))))
        (pss_cons (ps_set (i := 9) sc_Lright.nd rfl (Or.inl rfl) (pe_op op_add (pe_op op_add (pe_op op_mulW (pe_call G_Ldraw (hr.mono (by decide)) rfl T.g_Ldraw T.F_Ldraw.kp T.b_Ldraw .nil pass0 (pa_cons (pv 0) (pa_cons pe_int pa_nil))) pe_int) (pe_op op_mulW (pe_call G_Ldraw (hr.mono (by decide)) rfl T.g_Ldraw T.F_Ldraw.kp T.b_Ldraw .nil pass0 (pa_cons (pv 0) (pa_cons pe_int pa_nil))) pe_int)) (pe_call G_Ldraw (hr.mono (by decide)) rfl T.g_Ldraw T.F_Ldraw.kp T.b_Ldraw .nil pass0 (pa_cons (pv 0) (pa_cons pe_int pa_nil)))))
        (pss_cons (ps_par (i := 10) (j := 11) rfl sc_Lright.nd rfl rfl (by decide) rfl rfl (pa_cons (pe_call G_Lpick (hr.mono (by decide)) rfl T.g_Lpick T.F_Lpick.kp T.b_Lpick .nil pass0 (pa_cons (pv 0) (pa_cons (pe_lst (pa_cons pe_str (pa_cons pe_str (pa_cons pe_str pa_nil)))) pa_nil))) (pa_cons (pe_cmpR op_eq (pe_call G_Ldraw (hr.mono (by decide)) rfl T.g_Ldraw T.F_Ldraw.kp T.b_Ldraw .nil pass0 (pa_cons (pv 0) (pa_cons pe_int pa_nil))) pe_int (nomark _)) pa_nil)) (by rfl))
        (pss_cons (ps_set (i := 12) sc_Lright.nd rfl (Or.inl rfl) (pe_call G_Ltold (hr.mono (by decide)) rfl T.g_Ltold T.F_Ltold.kp T.b_Ltold .nil pass0 (pa_cons (pv 3) (pa_cons (pv 1) (pa_cons (pv 9) (pa_cons (pv 10) (pa_cons (pv 11) pa_nil)))))))
        (pss_cons (ps_forS PassesOwn.never rfl (pi_range1 rfl T.m_range (pa_cons pe_int pa_nil)) (pg_name (i := 7) sc_Lright.nd rfl (Or.inl rfl))
          (pss_cons (ps_set (i := 13) sc_Lright.nd rfl (Or.inl rfl) (pe_call G_translated (hr.mono (by decide)) rfl T.g_translated T.F_translated.kp T.b_translated .nil pass0 (pa_cons (pv 2) (pa_cons (pv 1) (pa_cons (pv 9) (pa_cons (pv 10) (pa_cons (pv 11) pa_nil)))))))
          (pss_cons (ps_if (PW.pt (pw_or (pt_cmpR (op_neS hr.units) (pv 13) (pv 12) (nomark _)) (pw_or1 (pt_cmpR (op_neS hr.units) (pe_lc (own := [("_law_place", 8)]) (g := gName 8)  rfl sc_Lright.nd (pi_list (pe_ix ix_tup (pv 13) pe_int (fun _ _ => rfl))) (blkOk_by (N := ["_law_pot_here", "_law_root", "_law_memory", "_law_rows", "_law_tables", "_law_number", "_law_word_here", "_law_turn", "_law_place", "_law_address", "_law_way", "_law_is_user", "_law_before", "_law_told_here", "_law_places", "_law_after", "_law_pages", "_law_page"]) (sc := defScope s_Lright) (by decide +kernel)) (fun _ _ _ _ _ => pg_name (i := 8) sc_Lright.nd rfl (Or.inl rfl)) (fun _ _ _ _ _ => pts_one (pt_not (pt_chain op_le op_lt pe_int (pv 8) pe_int))) (fun _ _ _ _ _ => (pv 8))) (pe_lst pa_nil) (nomark _)))))
            (pss_one (ps_ret pe_bl))
            pss_nil)
          (pss_cons (ps_set (i := 14) sc_Lright.nd rfl (Or.inl rfl) (pe_op op_cat (pe_ix ix_tup (pv 12) pe_int (fun _ _ => rfl)) (pe_lst (pa_cons (pe_op op_mod (pv 9) pe_int) (pa_cons (pe_op op_add (pe_op op_mod (pe_op op_mulW (pv 1) pe_int) pe_int) pe_int) (pa_cons (pe_op op_add pe_int (pe_call G_Ldraw (hr.mono (by decide)) rfl T.g_Ldraw T.F_Ldraw.kp T.b_Ldraw .nil pass0 (pa_cons (pv 0) (pa_cons pe_int pa_nil)))) pa_nil))))))
          (pss_cons (ps_par (i := 8) (j := 6) rfl sc_Lright.nd rfl rfl (by decide) rfl rfl (pa_cons (pe_call G_Lpick (hr.mono (by decide)) rfl T.g_Lpick T.F_Lpick.kp T.b_Lpick .nil pass0 (pa_cons (pv 0) (pa_cons (pv 14) pa_nil))) (pa_cons (pe_call G_Lentry (hr.mono (by decide)) rfl T.g_Lentry T.F_Lentry.kp T.b_Lentry .nil pass0 (pa_cons (pv 0) (pa_cons (pe_call G_Ldraw (hr.mono (by decide)) rfl T.g_Ldraw T.F_Ldraw.kp T.b_Ldraw .nil pass0 (pa_cons (pv 0) (pa_cons pe_int pa_nil))) pa_nil))) pa_nil)) (by rfl))
          (pss_cons (ps_set (i := 3) sc_Lright.nd rfl (Or.inl rfl) (pe_call G_Lput (hr.mono (by decide)) rfl T.g_Lput T.F_Lput.kp T.b_Lput .nil pass0 (pa_cons (pv 0) (pa_cons (pv 2) (pa_cons (pv 3) (pa_cons (pv 8) (pa_cons (pv 6) pa_nil)))))))
          (pss_cons (ps_set (i := 15) sc_Lright.nd rfl (Or.inl rfl) (pe_call G_Ltold (hr.mono (by decide)) rfl T.g_Ltold T.F_Ltold.kp T.b_Ltold .nil pass0 (pa_cons (pv 3) (pa_cons (pv 1) (pa_cons (pv 9) (pa_cons (pv 10) (pa_cons (pv 11) pa_nil)))))))
          (pss_cons (ps_if (PW.pt (pw_and (pt_cmpR op_notIn_seq (pv 8) (pe_ix ix_tup (pv 12) pe_int (fun _ _ => rfl)) (by rfl)) (pw_and1 (pt_cmpR (op_neS hr.units) (pv 15) (pv 12) (nomark _)))))
            (pss_one (ps_ret pe_bl))
            pss_nil)
          (pss_one (ps_set (i := 12) sc_Lright.nd rfl (Or.inl rfl) (pv 15)))))))))))
        (pss_cons (ps_set (i := 16) sc_Lright.nd rfl (Or.inr rfl) (pe_lst (pa_cons pe_int (pa_cons pe_int (pa_cons pe_int (pa_cons pe_int (pa_cons pe_int (pa_cons pe_int (pa_cons pe_int (pa_cons pe_int pa_nil))))))))))
        (pss_cons (ps_set (i := 8) sc_Lright.nd rfl (Or.inl rfl) (pe_call G_Lpick (hr.mono (by decide)) rfl T.g_Lpick T.F_Lpick.kp T.b_Lpick .nil pass0 (pa_cons (pv 0) (pa_cons (pe_op op_cat (pe_ix ix_tup (pv 12) pe_int (fun _ _ => rfl)) (pe_lst (pa_cons pe_int (pa_cons pe_int pa_nil)))) pa_nil))))
        (pss_cons (ps_set (i := 13) sc_Lright.nd rfl (Or.inl rfl) (pe_call G_leaning (hr.mono (by decide)) rfl T.g_leaning T.F_leaning.kp T.b_leaning .nil pass0 (pa_cons (pv 2) (pa_cons (pv 1) (pa_cons (pv 8) pa_nil)))))
        (pss_cons (ps_if (pt_cmpR (op_neS hr.units) (pe_lc (own := [("_law_page", 17)]) (g := gName 17) (tt := (tTest (tOp (rIn K false) (tVar 17) (tVar 16)))) rfl sc_Lright.nd (pi_list (pv 13)) (blkOk_by (N := ["_law_pot_here", "_law_root", "_law_memory", "_law_rows", "_law_tables", "_law_number", "_law_word_here", "_law_turn", "_law_place", "_law_address", "_law_way", "_law_is_user", "_law_before", "_law_told_here", "_law_places", "_law_after", "_law_pages", "_law_page"]) (sc := defScope s_Lright) (by decide +kernel)) (fun _ _ _ _ _ => pg_name (i := 17) sc_Lright.nd rfl (Or.inl rfl)) (fun _ _ _ _ _ => pts_one (pt_cmpR op_in_seq (pv 17) (pv 16) (by rfl))) (fun _ _ _ _ _ => (pv 17))) (pe_call G_Llean (hr.mono (by decide)) rfl T.g_Llean T.F_Llean.kp T.b_Llean .nil pass0 (pa_cons (pv 3) (pa_cons (pv 1) (pa_cons (pv 8) (pa_cons (pv 16) pa_nil))))) (nomark _))
          (pss_one (ps_ret pe_bl))
          pss_nil)
        (pss_one (ps_ret (pe_and (pe_cmpR (op_eqS hr.units) (pv 13) (pe_callB cr_sortedI (by rfl) T.m_sorted (by decide +kernel) (pa_cons (pv 13) pa_nil)) (nomark _)) (pe_one (pe_cmpR (op_eqS hr.units) (pe_call G_translated (hr.mono (by decide)) rfl T.g_translated T.F_translated.kp T.b_translated .nil pass0 (pa_cons (pv 2) (pa_cons (pv 1) (pa_cons (pv 9) (pa_cons (pv 10) (pa_cons (pv 11) pa_nil)))))) (pv 12) (nomark _)))))))))))))))))), ?_⟩
    clear G_Lpick G_Memory_init G_Ldraw G_Lentry G_Lput G_Ltold G_translated G_leaning G_Llean
    clear hr
    walk_at "rd"
    intro t0 f0
    have tp0 := hp.ne f0
    have hp0 := hp.new (o := .lst [.int 0, .int 4, .int 58, .int 59, .int 60]) f0
    walk_at "rd"
    intro v H1 hv hp1 b1
    obtain ⟨r, rfl, hrt⟩ : ∃ r : Int, v = .int r ∧ (0 ≤ r ∧ r ≤ 60) := by
      simp only [List.mem_cons, List.not_mem_nil, or_false] at hv
      rcases hv with rfl | rfl | rfl | rfl | rfl <;> exact ⟨_, rfl, by omega⟩
    clear hv hp hp0 tp0 f0 b1
    walk_at "rd"
    intro x dx nx ndx nex
    have nx' : upd H1 dx (.own x) x = none := by rw [upd_ne (Ne.symm nex)]; exact nx
    have sm : Same H1 (upd (upd H1 dx (.own x)) x (.ins T.C_Memory dx [])) := Hx.Same.upd (same_upd ndx) nx'
    walk_at "rd"
    intro l H2 fl hm bt
    have s2 : Same H1 H2 := fun b u e => bt b u (ne_of_none e nx) (sm _ _ e)
    have hp2 := hp1.same s2
    clear hp1 nx nx' ndx nex sm fl bt s2
    walk_at "rd"
    intro a fa
    have c0 : St T.C_Memory (upd H2 a (.lst [])) p x l a m0 [] 0 := St.init (hp2.new fa) (hm.same (same_upd fa)) upd_same
    clear hp2 hm fa
    generalize upd H2 a (.lst []) = H3 at c0
    have hpt := c0.pot
    walk_at "rd"
    intro dt H4 dt0 dt1 hp4 b4
    replace c0 := c0.drawn hp4 b4
    clear b4 hp4 hpt
    walk_at "rd"
    intro tt ft
    have et : (upd H4 tt (.lst [.int 1, .int 2, .int dt])) tt = some (.lst [.int 1, .int 2, .int dt]) := upd_same
    replace c0 := c0.same (same_upd (o := .lst [.int 1, .int 2, .int dt]) ft)
    clear ft
    generalize upd H4 tt (.lst [.int 1, .int 2, .int dt]) = H5 at c0 et ⊢
    walk_at "rd"
    refine ⟨for_range (n := 3) (fun i σ H' => Stop (∃ (a : Addr) (ws : List Int) (rs : List Pr) (t5 t6 : Option V), σ = [some (.ref p), some (.int r), some (.ref x), some (.ref a), some (.ref tt), t5, t6, none, none, none, none, none, none, none, none, none, none, none] ∧ St T.C_Memory H' p x l a ws rs i ∧ H' tt = some (.lst [.int 1, .int 2, .int dt]))) ⟨⟨a, _, _, _, _, rfl, c0, et⟩⟩ (fun i σ H' hi h => ?_) (fun σ H' h => ?_)⟩
    · clear c0 et
      obtain ⟨a, ws, rs, t5, t6, rfl, c, et⟩ := h.h
      walk_at "rd"
      refine iteD (fun h60 => ?_) (fun h60 => ?_)
      · have hpt := c.pot
        have ttp : tt ≠ p := by
          obtain ⟨i, j, e, _⟩ := c.pot.ex
          exact ne_len et e (by simp)
        walk_at "rd"
        intro v H6 hv hp6 b6
        obtain ⟨f, rfl, hf⟩ : ∃ f : Int, v = .int f ∧ (0 ≤ f ∧ f < 64) := by
          simp only [List.mem_cons, List.not_mem_nil, or_false] at hv
          rcases hv with rfl | rfl | rfl <;> exact ⟨_, rfl, by omega⟩
        replace c := c.drawn hp6 b6
        replace et := b6 _ _ ttp et
        clear hpt b6 hv h
        walk_at "rd"
        intro z H7 hz hp7 b7
        replace c := c.drawn hp7 b7
        replace et := b7 _ _ ttp et
        clear hp6 b7
        have hq : 0 ≤ r * 16 + (0 + (i : Int)) ∧ r * 16 + (0 + (i : Int)) < 960 := by omega
        have hmm := c.mem
        have hll := c.law
        have hal := c.al
        have h100 : rs.length ≤ 100 := by have := c.le; omega
        walk_at "rd"
        intro t H8 nt hm8 hd8 b8
        have ttl : tt ≠ l := ne_len et c.mem.at_ (by simp [c.mem.len])
        exact ⟨⟨t, _, _, _, _, rfl, c.put hq hz nt hm8 hd8 b8, b8 _ _ ttl et⟩⟩
      · exact ⟨⟨a, ws, rs, _, _, rfl, c.mono (Nat.le_succ _), et⟩⟩
    clear c0 et
    obtain ⟨a, ws, rs, t5, t6, rfl, c, et⟩ := h.h
    clear h et
    walk_at "rd"
    refine ⟨for_range (n := 8) (fun i σ H' => Stop (∃ (a : Addr) (ws : List Int) (rs : List Pr) (t7 t8 : Option V), σ = [some (.ref p), some (.int r), some (.ref x), some (.ref a), some (.ref tt), t5, t6, t7, t8, none, none, none, none, none, none, none, none, none] ∧ St T.C_Memory H' p x l a ws rs (3 + i))) ⟨⟨a, ws, rs, none, none, rfl, c⟩⟩ (fun i σ H' hi h => ?_) (fun σ H' h => ?_)⟩
    · clear c
      obtain ⟨a, ws, rs, t7, t8, rfl, c⟩ := h.h
      clear h
      have hpt := c.pot
      walk_at "rd"
      intro t0 f0
      have tp0 := hpt.ne f0
      have hp0 := hpt.new (o := .lst [.int 1, .int 2]) f0
      replace c := c.same (same_upd (o := .lst [.int 1, .int 2]) f0)
      clear f0
      walk_at "rd"
      intro v H6 hv hp6 b6
      obtain ⟨g, rfl, hg⟩ : ∃ g : Int, v = .int g ∧ (1 ≤ g ∧ g ≤ 2) := by
        simp only [List.mem_cons, List.not_mem_nil, or_false] at hv
        rcases hv with rfl | rfl <;> exact ⟨_, rfl, by omega⟩
      replace c := c.drawn hp6 b6
      clear b6 hv hpt tp0 hp0
      walk_at "rd"
      intro d H7 d0 d1 hp7 b7
      replace c := c.drawn hp7 b7
      clear b7 hp6
      walk_at "rd"
      intro d2 H8 d20 d21 hp8 b8
      replace c := c.drawn hp8 b8
      clear b8 hp7
      walk_at "rd"
      intro z H9 hz hp9 b9
      replace c := c.drawn hp9 b9
      clear b9 hp8
      have hq : 0 ≤ g * 16 + d ∧ g * 16 + d < 960 := by omega
      have hmm := c.mem
      have hll := c.law
      have hal := c.al
      have h100 : rs.length ≤ 100 := by have := c.le; omega
      walk_at "rd"
      intro t H10 nt hm10 hd10 b10
      exact ⟨⟨t, _, _, _, _, rfl, c.put hq hz nt hm10 hd10 b10⟩⟩
    clear c
    obtain ⟨a, ws, rs, t7, t8, rfl, c⟩ := h.h
    clear h
    have hpt := c.pot
    walk_at "rd"
    intro e1 H6 e10 e11 hp6 b6
    replace c := c.drawn hp6 b6
    clear b6 hpt
    walk_at "rd"
    intro e2 H7 e20 e21 hp7 b7
    replace c := c.drawn hp7 b7
    clear b7 hp6
    walk_at "rd"
    intro e3 H8 e30 e31 hp8 b8
    replace c := c.drawn hp8 b8
    clear b8 hp7
    walk_at "rd"
    intro t0 f0
    have tp0 := hp8.ne f0
    have hp0 := hp8.new (o := .lst [.str "fetch", .str "load", .str "store"]) f0
    replace c := c.same (same_upd (o := .lst [.str "fetch", .str "load", .str "store"]) f0)
    clear f0
    walk_at "rd"
    intro v H9 hv hp9 b9
    obtain ⟨w3, rfl, hw3⟩ : ∃ i : Nat, v = .str (wy i) ∧ i < 3 := by
      simp only [List.mem_cons, List.not_mem_nil, or_false] at hv
      rcases hv with rfl | rfl | rfl
      · exact ⟨0, rfl, by decide⟩
      · exact ⟨1, rfl, by decide⟩
      · exact ⟨2, rfl, by decide⟩
    replace c := c.drawn hp9 b9
    clear b9 hv hp8 tp0 hp0
    walk_at "rd"
    intro e4 H10 e40 e41 hp10 b10
    replace c := c.drawn hp10 b10
    clear b10 hp9
    have had : 0 ≤ e1 * 256 + e2 * 16 + e3 ∧ e1 * 256 + e2 * 16 + e3 < 4096 := by omega
    have hll := c.law
    have hbd := c.bd
    have hr64 : 0 ≤ r ∧ r < 64 := by omega
    walk_at "rd"
    intro tb lb H11 nlb s11 etb elb
    have lbp : lb ≠ p := by
      obtain ⟨i, j, e, _⟩ := c.pot.ex
      exact Ne.symm (ne_of_none e nlb)
    replace c := c.same s11
    obtain ⟨ad, hade⟩ : ∃ ad, ad = e1 * 256 + e2 * 16 + e3 := ⟨_, rfl⟩
    obtain ⟨u, hue⟩ : ∃ u, u = decide (V.int e4 = V.int 0) := ⟨_, rfl⟩
    rw [← hade, ← hue] at etb elb
    rw [← hade] at had
    clear hll hbd hp10 nlb s11
    walk_at "rd"
    refine ⟨for_range (n := 6) (fun i σ H' => Stop (∃ (a : Addr) (ws : List Int) (rs : List Pr) (tb lb : Addr) (t6 t7 t8 t13 t14 t15 : Option V), σ = [some (.ref p), some (.int r), some (.ref x), some (.ref a), some (.ref tt), t5, t6, t7, t8, some (.int ad), some (.str (wy w3)), some (.bl u), some (.ref tb), t13, t14, t15, none, none] ∧ St T.C_Memory H' p x l a ws rs (11 + i) ∧ H' tb = some (.tup [plV (tl (lk rs) r ad w3 u).place, .int (tl (lk rs) r ad w3 u).cause, .ref lb]) ∧ H' lb = some (.lst ((tl (lk rs) r ad w3 u).leans.map V.int)) ∧ lb ≠ p)) ⟨⟨a, ws, rs, tb, lb, _, _, _, _, _, _, by rw [hade, hue]; rfl, c, etb, elb, lbp⟩⟩ (fun i σ H' hi h => ?_) (fun σ H' h => ?_)⟩
    · clear c etb elb lbp hade hue e10 e11 e20 e21 e30 e31 e40 e41
      obtain ⟨a, ws, rs, tb, lb, t6, t7, t8, t13, t14, t15, rfl, c, etb, elb, lbp⟩ := h.h
      clear h
      have hmm := c.mem
      walk_at "rd"
      intro t1 l1 H12 s12 ea eb
      rw [c.tl hr64.1 had.1] at ea eb
      replace c := c.same s12
      replace etb := s12 _ _ etb
      replace elb := s12 _ _ elb
      have D1 : Dp K H12 (.ref t1) (rsD (tl (lk rs) r ad w3 u)) := rs_dp ea eb
      have D2 : Dp K H12 (.ref tb) (rsD (tl (lk rs) r ad w3 u)) := rs_dp etb elb
      have SH := rs_sh (tl (lk rs) r ad w3 u)
      have ai : atI [plV (tl (lk rs) r ad w3 u).place, V.int (tl (lk rs) r ad w3 u).cause, V.ref l1] 2 = some (.ref l1) := at_of (j := 2) (by omega) rfl
      have ab : atI [plV (tl (lk rs) r ad w3 u).place, V.int (tl (lk rs) r ad w3 u).cause, V.ref lb] 2 = some (.ref lb) := at_of (j := 2) (by omega) rfl
      have hin : ∀ q ∈ (tl (lk rs) r ad w3 u).leans, 0 ≤ q ∧ q < 960 := tl_leans hr64.1 had.1
      have hl2 := tl_len (lk rs) r ad w3 u
      clear hmm s12
      walk_at "rd"
      intro D hD
      refine lc_filt (tl (lk rs) r ad w3 u).leans V.int (fun _ => false) (SqL.of eb) hD (by omega) (fun i z H1' Qn Qy hz1 s1 kn ky => ?_) (fun H13 s13 e13 => ?_)
      · have hz := hin z (List.mem_of_getElem? hz1)
        walk_at "rd"
        refine iteD (fun h1 => ?_) (fun h1 => absurd hz.1 h1)
        walk_at "rd"
        refine iteN (fun h2 => absurd hz.2 h2) (fun h2 => ?_)
        exact kn rfl _ (L2.Same.refl _)
      have eN : (tl (lk rs) r ad w3 u).leans.filter (fun _ => false) = [] := by simp
      rw [eN] at e13
      replace c := c.same s13
      replace etb := s13 _ _ etb
      replace elb := s13 _ _ elb
      clear D1 D2 SH ai ea eb s13 hD eN
      walk_at "rd"
      intro qa hqa
      have DE1 : Dp K (upd H13 qa (.lst [])) (.ref D) (.list []) := .lst (SqL.of (old_upd hqa e13)) .nil
      have DE2 : Dp K (upd H13 qa (.lst [])) (.ref qa) (.list []) := .lst (SqL.of upd_same) .nil
      have SE : SeqAt.shaped (.list []) = true := rfl
      replace c := c.same (same_upd (o := .lst []) hqa)
      replace etb := old_upd (o := .lst []) hqa etb
      replace elb := old_upd (o := .lst []) hqa elb
      clear e13 hqa
      generalize upd H13 qa (.lst []) = H14 at DE1 DE2 c etb elb ⊢
      have hpt := c.pot
      have tbp : tb ≠ p := fun y => by
        obtain ⟨i, j, e, _⟩ := hpt.ex
        rw [y, e] at etb; cases etb
      walk_at "rd"
      intro d5 H15 d50 d51 hp15 b15
      replace c := c.drawn hp15 b15
      replace elb := b15 _ _ lbp elb
      replace etb := b15 _ _ tbp etb
      clear DE1 DE2 SE hpt b15
      walk_at "rd"
      intro o1 f1
      have elb1 := old_upd (o := .lst [V.int (ad % 960), V.int (r * 16 % 960 + 3), V.int (16 + d5)]) f1 elb
      have sz : ((tl (lk rs) r ad w3 u).leans.map V.int).length + ([V.int (ad % 960), V.int (r * 16 % 960 + 3), V.int (16 + d5)] : List V).length ≤ sizeLine := size_le (by simp; omega)
      walk_at "rd"
      intro o2 f2
      have sm := Hx.Same.upd (o := .lst ((tl (lk rs) r ad w3 u).leans.map V.int ++ [V.int (ad % 960), V.int (r * 16 % 960 + 3), V.int (16 + d5)])) (same_upd (o := .lst [V.int (ad % 960), V.int (r * 16 % 960 + 3), V.int (16 + d5)]) f1) f2
      have o2p : o2 ≠ p := (c.pot.same (same_upd (o := .lst [V.int (ad % 960), V.int (r * 16 % 960 + 3), V.int (16 + d5)]) f1)).ne f2
      have eo2 : (upd (upd H15 o1 (.lst [V.int (ad % 960), V.int (r * 16 % 960 + 3), V.int (16 + d5)])) o2 (.lst ((tl (lk rs) r ad w3 u).leans.map V.int ++ [V.int (ad % 960), V.int (r * 16 % 960 + 3), V.int (16 + d5)]))) o2 = some (.lst ((tl (lk rs) r ad w3 u).leans.map V.int ++ [V.int (ad % 960), V.int (r * 16 % 960 + 3), V.int (16 + d5)])) := upd_same
      replace c := c.same sm
      replace elb := sm _ _ elb
      replace etb := sm _ _ etb
      clear f1 f2 sm elb1 sz hp15
      generalize upd (upd H15 o1 (.lst [V.int (ad % 960), V.int (r * 16 % 960 + 3), V.int (16 + d5)])) o2 (.lst ((tl (lk rs) r ad w3 u).leans.map V.int ++ [V.int (ad % 960), V.int (r * 16 % 960 + 3), V.int (16 + d5)])) = H16 at c elb etb eo2 ⊢
      have hpt := c.pot
      have szl : 0 < ((tl (lk rs) r ad w3 u).leans.map V.int ++ [V.int (ad % 960), V.int (r * 16 % 960 + 3), V.int (16 + d5)]).length ∧ ((tl (lk rs) r ad w3 u).leans.map V.int ++ [V.int (ad % 960), V.int (r * 16 % 960 + 3), V.int (16 + d5)]).length < 1000 := by simp; omega
      have sz1 := szl.1
      have sz2 := szl.2
      walk_at "rd"
      intro v H17 hv hp17 b17
      obtain ⟨q, rfl, hq⟩ : ∃ q : Int, v = .int q ∧ (0 ≤ q ∧ q < 960) := by
        rcases List.mem_append.mp hv with hv | hv
        · obtain ⟨z, hz, rfl⟩ := List.mem_map.mp hv
          exact ⟨z, rfl, hin z hz⟩
        · simp only [List.mem_cons, List.not_mem_nil, or_false] at hv
          rcases hv with rfl | rfl | rfl <;> exact ⟨_, rfl, by omega⟩
      replace c := c.drawn hp17 b17
      replace elb := b17 _ _ lbp elb
      replace etb := b17 _ _ tbp etb
      clear hv hpt szl sz1 sz2 b17 eo2 o2p
      walk_at "rd"
      intro d6 H18 d60 d61 hp18 b18
      replace c := c.drawn hp18 b18
      replace elb := b18 _ _ lbp elb
      replace etb := b18 _ _ tbp etb
      clear hp17 b18
      walk_at "rd"
      intro z H19 hz hp19 b19
      replace c := c.drawn hp19 b19
      replace elb := b19 _ _ lbp elb
      replace etb := b19 _ _ tbp etb
      clear hp18 b19 hp19
      have hmm := c.mem
      have hll := c.law
      have hal := c.al
      have h100 : rs.length ≤ 100 := by have := c.le; omega
      walk_at "rd"
      intro t H20 nt hm20 hd20 b20
      have lbl : lb ≠ l := ne_len elb c.mem.at_ (by simp [c.mem.len]; omega)
      have tbl : tb ≠ l := fun y => by
        have e := c.mem.at_
        rw [← y, etb] at e; cases e
      have c2 := c.put hq hz nt hm20 hd20 b20
      replace elb := b20 _ _ lbl elb
      replace etb := b20 _ _ tbl etb
      clear c hmm hll hal h100 nt hm20 hd20 b20 lbl tbl
      have hll := c2.law
      have hbd := c2.bd
      walk_at "rd"
      intro ta la H21 nla s21 eta ela
      have lap : la ≠ p := by
        obtain ⟨i, j, e, _⟩ := c2.pot.ex
        exact Ne.symm (ne_of_none e nla)
      replace c2 := c2.same s21
      replace elb := s21 _ _ elb
      replace etb := s21 _ _ etb
      clear hll hbd nla s21
      have fl := flat_ints (tl (lk rs) r ad w3 u).leans
      walk_at "rd"
      rw [inV_not]
      by_cases hmem : q ∈ (tl (lk rs) r ad w3 u).leans
      · rw [decide_eq_true hmem]
        walk_at "rd"
        exact ⟨⟨t, _, _, ta, la, _, _, _, _, _, _, rfl, c2, eta, ela, lap⟩⟩
      · rw [decide_eq_false hmem]
        have eR : tl (lk (putR rs q z)) r ad w3 u = (tl (lk rs) r ad w3 u) := tl_congr fun y hy => by rw [lk_put, if_neg (fun e : y = q => hmem (by rw [← e]; exact hy))]
        have D1 : Dp K H21 (.ref ta) (rsD (tl (lk rs) r ad w3 u)) := by have d := rs_dp (K := K) eta ela; rwa [eR] at d
        have D2 : Dp K H21 (.ref tb) (rsD (tl (lk rs) r ad w3 u)) := rs_dp etb elb
        have SH := rs_sh (tl (lk rs) r ad w3 u)
        walk_at "rd"
        exact ⟨⟨t, _, _, ta, la, _, _, _, _, _, _, rfl, c2, eta, ela, lap⟩⟩
    clear c etb elb lbp hade hue e10 e11 e20 e21 e30 e31 e40 e41
    obtain ⟨a, ws, rs, tb, lb, t6, t7, t8, t13, t14, t15, rfl, c, etb, elb, lbp⟩ := h.h
    clear h
    have ab : atI [plV (tl (lk rs) r ad w3 u).place, V.int (tl (lk rs) r ad w3 u).cause, V.ref lb] 2 = some (.ref lb) := at_of (j := 2) (by omega) rfl
    have hin : ∀ q ∈ (tl (lk rs) r ad w3 u).leans, 0 ≤ q ∧ q < 960 := tl_leans hr64.1 had.1
    have hl2 := tl_len (lk rs) r ad w3 u
    have tbp : tb ≠ p := fun y => by
      obtain ⟨i, j, e, _⟩ := c.pot.ex
      rw [y, e] at etb; cases etb
    walk_at "rd"
    intro pg fpg
    rw [show ([V.int 0, V.int 1, V.int 2, V.int 3, V.int 16, V.int 17, V.int 32, V.int 255] : List V) = PG.map V.int from rfl]
    have epg : (upd H' pg (.lst (PG.map V.int))) pg = some (.lst (PG.map V.int)) := upd_same
    replace c := c.same (same_upd (o := .lst (PG.map V.int)) fpg)
    replace etb := old_upd (o := .lst (PG.map V.int)) fpg etb
    replace elb := old_upd (o := .lst (PG.map V.int)) fpg elb
    clear fpg
    generalize upd H' pg (.lst (PG.map V.int)) = H12 at epg c etb elb ⊢
    have pgp : pg ≠ p := by
      obtain ⟨i, j, e, _⟩ := c.pot.ex
      exact ne_len epg e (by simp [PG])
    walk_at "rd"
    intro o1 f1
    have elb1 := old_upd (o := .lst [V.int 16, V.int 17]) f1 elb
    have sz : ((tl (lk rs) r ad w3 u).leans.map V.int).length + ([V.int 16, V.int 17] : List V).length ≤ sizeLine := size_le (by simp; omega)
    walk_at "rd"
    intro o2 f2
    have sm := Hx.Same.upd (o := .lst ((tl (lk rs) r ad w3 u).leans.map V.int ++ [V.int 16, V.int 17])) (same_upd (o := .lst [V.int 16, V.int 17]) f1) f2
    have o2p : o2 ≠ p := (c.pot.same (same_upd (o := .lst [V.int 16, V.int 17]) f1)).ne f2
    have eo2 : (upd (upd H12 o1 (.lst [V.int 16, V.int 17])) o2 (.lst ((tl (lk rs) r ad w3 u).leans.map V.int ++ [V.int 16, V.int 17]))) o2 = some (.lst ((tl (lk rs) r ad w3 u).leans.map V.int ++ [V.int 16, V.int 17])) := upd_same
    replace c := c.same sm
    replace elb := sm _ _ elb
    replace etb := sm _ _ etb
    replace epg := sm _ _ epg
    clear f1 f2 sm elb1 sz
    generalize upd (upd H12 o1 (.lst [V.int 16, V.int 17])) o2 (.lst ((tl (lk rs) r ad w3 u).leans.map V.int ++ [V.int 16, V.int 17])) = H13 at c elb etb epg eo2 ⊢
    have hpt := c.pot
    have sz1 : 0 < ((tl (lk rs) r ad w3 u).leans.map V.int ++ [V.int 16, V.int 17]).length := by simp
    have sz2 : ((tl (lk rs) r ad w3 u).leans.map V.int ++ [V.int 16, V.int 17]).length < 1000 := by simp; omega
    walk_at "rd"
    intro v H14 hv hp14 b14
    obtain ⟨q, rfl, hq⟩ : ∃ q : Int, v = .int q ∧ (0 ≤ q ∧ q < 1024) := by
      rcases List.mem_append.mp hv with hv | hv
      · obtain ⟨z, hz, rfl⟩ := List.mem_map.mp hv
        have := hin z hz
        exact ⟨z, rfl, by omega⟩
      · simp only [List.mem_cons, List.not_mem_nil, or_false] at hv
        rcases hv with rfl | rfl <;> exact ⟨_, rfl, by omega⟩
    replace c := c.drawn hp14 b14
    replace elb := b14 _ _ lbp elb
    replace etb := b14 _ _ tbp etb
    replace epg := b14 _ _ pgp epg
    clear hv hpt sz1 sz2 b14 eo2 o2p hp14 ab
    have hmm := c.mem
    walk_at "rd"
    intro t1 H15 s15 e15
    replace c := c.same s15
    replace elb := s15 _ _ elb
    replace etb := s15 _ _ etb
    replace epg := s15 _ _ epg
    clear hmm s15
    walk_at "rd"
    intro D hD
    have plen : (pgs (G ws) r q).length ≤ 10000 := by
      unfold pgs
      rw [List.length_map]
      exact Nat.le_trans (List.length_filter_le _ _) (by simp)
    have eF := pgs_PG (g := G ws) (g' := lk rs) (r := r) (p := q) fun n hn => c.tl hr64.1 (by omega)
    refine lc_filt (pgs (G ws) r q) V.int (fun n => decide (n ∈ PG)) (SqL.of e15) hD plen (fun i z H1' Qn Qy hz1 s1 kn ky => ?_) (fun H16 s16 e16 => ?_)
    · have epg1 := s1 _ _ epg
      have fl := flat_ints PG
      walk_at "rd"
      rw [inV_ints]
      by_cases hm : decide (z ∈ PG) = true
      · have q2 := ky hm _ (L2.Same.refl _)
        rw [hm]
        refine iteT ?_
        walk_at "rd"
      · rw [Bool.not_eq_true] at hm
        rw [hm]
        exact iteF (kn hm _ (L2.Same.refl _))
    rw [eF] at e16
    replace c := c.same s16
    replace elb := s16 _ _ elb
    replace etb := s16 _ _ etb
    replace epg := s16 _ _ epg
    replace e15 := s16 _ _ e15
    clear s16 hD eF
    have hll := c.law
    have hbd := c.bd
    have hPG : ∀ x ∈ PG, 0 ≤ x ∧ x < 256 := by decide
    have hPGl : PG.length ≤ 100 := by decide
    walk_at "rd"
    intro t2 H17 s17 e17
    have D1 : Dp K H17 (.ref D) (.list ((PG.filter fun n => decide (q ∈ (tl (lk rs) r (n * 16) 1 false).leans)).map PyData.int)) := .lst (SqL.of (s17 _ _ e16)) (dp_ints _)
    have D2 : Dp K H17 (.ref t2) (.list ((PG.filter fun n => decide (q ∈ (tl (lk rs) r (n * 16) 1 false).leans)).map PyData.int)) := .lst (SqL.of e17) (dp_ints _)
    have SH := sh_ints (PG.filter fun n => decide (q ∈ (tl (lk rs) r (n * 16) 1 false).leans))
    replace c := c.same s17
    replace elb := s17 _ _ elb
    replace etb := s17 _ _ etb
    replace e15 := s17 _ _ e15
    clear hll hbd hPG hPGl s17 e16 e17 epg
    walk_at "rd"
    intro ns' qs hpm hso fqs
    have ens : ns' = pgs (G ws) r q := perm_sorted_eq hpm hso (pgs_sorted _ _ _)
    subst ens
    clear hpm hso D1 D2 SH
    have D1 : Dp K (upd H17 qs (.lst ((pgs (G ws) r q).map V.int))) (.ref t1) (.list ((pgs (G ws) r q).map PyData.int)) := .lst (SqL.of (old_upd fqs e15)) (dp_ints _)
    have D2 : Dp K (upd H17 qs (.lst ((pgs (G ws) r q).map V.int))) (.ref qs) (.list ((pgs (G ws) r q).map PyData.int)) := .lst (SqL.of upd_same) (dp_ints _)
    have SH := sh_ints (pgs (G ws) r q)
    replace c := c.same (same_upd (o := .lst ((pgs (G ws) r q).map V.int)) fqs)
    replace elb := old_upd (o := .lst ((pgs (G ws) r q).map V.int)) fqs elb
    replace etb := old_upd (o := .lst ((pgs (G ws) r q).map V.int)) fqs etb
    clear fqs e15
    generalize upd H17 qs (.lst ((pgs (G ws) r q).map V.int)) = H18 at D1 D2 c elb etb ⊢
    have hmm := c.mem
    walk_at "rd"
    intro t3 l3 H19 s19 ea eb
    rw [c.tl hr64.1 had.1] at ea eb
    have E1 : Dp K H19 (.ref t3) (rsD (tl (lk rs) r ad w3 u)) := rs_dp ea eb
    have E2 : Dp K H19 (.ref tb) (rsD (tl (lk rs) r ad w3 u)) := rs_dp (s19 _ _ etb) (s19 _ _ elb)
    have SR := rs_sh (tl (lk rs) r ad w3 u)
    have kk := k H19
    walk_at "rd"
end
end K38

set_option Elab.async false
set_option linter.all false
set_option maxRecDepth 100000
set_option maxHeartbeats 8000000

namespace K38
open PySem PySem.Spec PyProof.Rows L2 Hx 
local macro_rules | `(tactic| walk_at "sm") => `(tactic| repeat' (first | assumption | apply Hx.Same.upd | exact L2.Same.refl _ | apply same_trans'))
local macro_rules | `(tactic| walk_at "hp") => `(tactic| repeat' (first | assumption | exact upd_same | apply old_upd | apply same_at))
local macro_rules | `(tactic| walk_at "rd") => `(tactic| repeat' (first | rfl | apply Exists.intro | apply And.intro | refine iteT ?_ | refine iteF ?_ | exact upd_same | exact SqL.of (by assumption) | exact SqL.of upd_same | exact SqT.of upd_same | exact SqT.of (by assumption) | ((with_reducible show (_ : Int) < _); omega) | ((with_reducible show (_ : Int) ≤ _); omega) | (show (_ : Prop); assumption) | exact Or.inl ⟨_, by assumption, rfl⟩ | exact Or.inl ⟨rfl, _, SqL.of (by assumption)⟩ | exact Or.inl ⟨rfl, _, SqL.of upd_same⟩ | apply old_upd | apply Hx.SqL.new | apply tyl_new | apply Pot.new | exact same_at (by assumption) (by assumption) | exact Or.inl (SqL.of (by assumption)) | exact Or.inl (by assumption) | exact Or.inl (SqL.of upd_same) | exact size_le (Nat.le_of_ble_eq_true rfl) | exact Nat.le_of_ble_eq_true rfl | exact True.intro | exact Or.inl rfl | exact Or.inr rfl | (show (_ : Prop); omega) | (show (_ : Prop); dsimp only; omega) | exact mulw64 (by omega) (by omega) | exact mulw64 (by (try dsimp only); omega) (by (try dsimp only); omega)))

section
variable {P : Program} {w : World} {K : PySem.W.Frag} {mg : Str → Option Value} {base : Heap}
def sp_law (K : PySem.W.Frag) : Sp := fun vs H Q _ => ∃ (a : Addr) (ns : List Int), vs = [.ref a] ∧ SqL K H a (ns.map V.int) ∧ ns.length ≤ 63 ∧ ∀ H', Q (.bl true) H'
theorem ok_law (T : Txt w K mg) : FnOk P w K mg base CX0 13 T.f_law T.fd_law ["_law_script"] (sp_law K) := by
  have G_Lright := ok_Lright (P := P) (w := w) (base := base) T
  have G_Lpot := ok_Lpot (P := P) (w := w) (base := base) T
  refine T.F_law.ok sc_law (fun vs H Q E h => ?_) (fun cdv A outer s H vs Q E hr h => ?_)
  · obtain ⟨a, ns, rfl, hS, hl, k⟩ := h; rfl
  · obtain ⟨a, ns, rfl, hS, hl, k⟩ := h
    refine ⟨_, (pss_one (ps_ret (pe_call G_Lright (hr.mono (by decide)) rfl T.g_Lright T.F_Lright.kp T.b_Lright .nil pass0 (pa_cons (pe_call G_Lpot (hr.mono (by decide)) rfl T.g_Lpot T.F_Lpot.kp T.b_Lpot .nil pass0 (pa_cons (pv 0) (pa_cons pe_int pa_nil))) pa_nil)))), ?_⟩
    clear G_Lright G_Lpot
    clear hr
    walk_at "rd"
    intro p H1 hp s1 hpot
    walk_at "rd"
end
end K38

set_option Elab.async false
set_option linter.all false
set_option maxRecDepth 100000
set_option maxHeartbeats 8000000

namespace K38
open PySem PySem.Spec PyProof.Rows L2 Hx
theorem all_mk {l : PySem.W.OpenLaw} {w : World} {K : PySem.W.Frag} {h : Heap} {mg : Str → Option Value} {fa : Addr} (X : K.In h) (G : h.Ns mainGlobals mg) (hfa : mg "law" = some (.ref fa))
    {C_Memory : Addr}
    {f_is_integer : Addr} {od_is_integer an_is_integer : Option Addr} {sl_is_integer : Array (Option Value)} {oc_is_integer kV_is_integer dc_is_integer pm_is_integer cd_is_integer ct_is_integer : Value}
    {f_is_between : Addr} {od_is_between an_is_between : Option Addr} {sl_is_between : Array (Option Value)} {oc_is_between kV_is_between dc_is_between pm_is_between cd_is_between ct_is_between : Value}
    {f_is_word : Addr} {od_is_word an_is_word : Option Addr} {sl_is_word : Array (Option Value)} {oc_is_word kV_is_word dc_is_word pm_is_word cd_is_word ct_is_word : Value}
    {f_is_address : Addr} {od_is_address an_is_address : Option Addr} {sl_is_address : Array (Option Value)} {oc_is_address kV_is_address dc_is_address pm_is_address cd_is_address ct_is_address : Value}
    {f_is_place : Addr} {od_is_place an_is_place : Option Addr} {sl_is_place : Array (Option Value)} {oc_is_place kV_is_place dc_is_place pm_is_place cd_is_place ct_is_place : Value}
    {f_need_word : Addr} {od_need_word an_need_word : Option Addr} {sl_need_word : Array (Option Value)} {oc_need_word kV_need_word dc_need_word pm_need_word cd_need_word ct_need_word : Value}
    {f_need_address : Addr} {od_need_address an_need_address : Option Addr} {sl_need_address : Array (Option Value)} {oc_need_address kV_need_address dc_need_address pm_need_address cd_need_address ct_need_address : Value}
    {f_need_place : Addr} {od_need_place an_need_place : Option Addr} {sl_need_place : Array (Option Value)} {oc_need_place kV_need_place dc_need_place pm_need_place cd_need_place ct_need_place : Value}
    {f_need_bits : Addr} {od_need_bits an_need_bits : Option Addr} {sl_need_bits : Array (Option Value)} {oc_need_bits kV_need_bits dc_need_bits pm_need_bits cd_need_bits ct_need_bits : Value}
    {f_bits : Addr} {od_bits an_bits : Option Addr} {sl_bits : Array (Option Value)} {oc_bits kV_bits dc_bits pm_bits cd_bits ct_bits : Value}
    {f_Memory_init : Addr} {od_Memory_init an_Memory_init : Option Addr} {sl_Memory_init : Array (Option Value)} {oc_Memory_init kV_Memory_init dc_Memory_init pm_Memory_init cd_Memory_init ct_Memory_init : Value}
    {f_Memory_word : Addr} {od_Memory_word an_Memory_word : Option Addr} {sl_Memory_word : Array (Option Value)} {oc_Memory_word kV_Memory_word dc_Memory_word pm_Memory_word cd_Memory_word ct_Memory_word : Value}
    {f_Memory_put : Addr} {od_Memory_put an_Memory_put : Option Addr} {sl_Memory_put : Array (Option Value)} {oc_Memory_put kV_Memory_put dc_Memory_put pm_Memory_put cd_Memory_put ct_Memory_put : Value}
    {f_need_memory : Addr} {od_need_memory an_need_memory : Option Addr} {sl_need_memory : Array (Option Value)} {oc_need_memory kV_need_memory dc_need_memory pm_need_memory cd_need_memory ct_need_memory : Value}
    {f_is_memory_place : Addr} {od_is_memory_place an_is_memory_place : Option Addr} {sl_is_memory_place : Array (Option Value)} {oc_is_memory_place kV_is_memory_place dc_is_memory_place pm_is_memory_place cd_is_memory_place ct_is_memory_place : Value}
    {f_need_memory_place : Addr} {od_need_memory_place an_need_memory_place : Option Addr} {sl_need_memory_place : Array (Option Value)} {oc_need_memory_place kV_need_memory_place dc_need_memory_place pm_need_memory_place cd_need_memory_place ct_need_memory_place : Value}
    {f_need_frame : Addr} {od_need_frame an_need_frame : Option Addr} {sl_need_frame : Array (Option Value)} {oc_need_frame kV_need_frame dc_need_frame pm_need_frame cd_need_frame ct_need_frame : Value}
    {f_need_way : Addr} {od_need_way an_need_way : Option Addr} {sl_need_way : Array (Option Value)} {oc_need_way kV_need_way dc_need_way pm_need_way cd_need_way ct_need_way : Value}
    {f_need_side : Addr} {od_need_side an_need_side : Option Addr} {sl_need_side : Array (Option Value)} {oc_need_side kV_need_side dc_need_side pm_need_side cd_need_side ct_need_side : Value}
    {f_entry_parts : Addr} {od_entry_parts an_entry_parts : Option Addr} {sl_entry_parts : Array (Option Value)} {oc_entry_parts kV_entry_parts dc_entry_parts pm_entry_parts cd_entry_parts ct_entry_parts : Value}
    {f_by_entry : Addr} {od_by_entry an_by_entry : Option Addr} {sl_by_entry : Array (Option Value)} {oc_by_entry kV_by_entry dc_by_entry pm_by_entry cd_by_entry ct_by_entry : Value}
    {f_translated : Addr} {od_translated an_translated : Option Addr} {sl_translated : Array (Option Value)} {oc_translated kV_translated dc_translated pm_translated cd_translated ct_translated : Value}
    {f_walked : Addr} {od_walked an_walked : Option Addr} {sl_walked : Array (Option Value)} {oc_walked kV_walked dc_walked pm_walked cd_walked ct_walked : Value}
    {f_page_walk : Addr} {od_page_walk an_page_walk : Option Addr} {sl_page_walk : Array (Option Value)} {oc_page_walk kV_page_walk dc_page_walk pm_page_walk cd_page_walk ct_page_walk : Value}
    {f_leaning : Addr} {od_leaning an_leaning : Option Addr} {sl_leaning : Array (Option Value)} {oc_leaning kV_leaning dc_leaning pm_leaning cd_leaning ct_leaning : Value}
    {f__is_frame : Addr} {od__is_frame an__is_frame : Option Addr} {sl__is_frame : Array (Option Value)} {oc__is_frame kV__is_frame dc__is_frame pm__is_frame cd__is_frame ct__is_frame : Value}
    {f__lets : Addr} {od__lets an__lets : Option Addr} {sl__lets : Array (Option Value)} {oc__lets kV__lets dc__lets pm__lets cd__lets ct__lets : Value}
    {f__entry_place : Addr} {od__entry_place an__entry_place : Option Addr} {sl__entry_place : Array (Option Value)} {oc__entry_place kV__entry_place dc__entry_place pm__entry_place cd__entry_place ct__entry_place : Value}
    {f_Lpot : Addr} {od_Lpot an_Lpot : Option Addr} {sl_Lpot : Array (Option Value)} {oc_Lpot kV_Lpot dc_Lpot pm_Lpot cd_Lpot ct_Lpot : Value}
    {f_Ldraw : Addr} {od_Ldraw an_Ldraw : Option Addr} {sl_Ldraw : Array (Option Value)} {oc_Ldraw kV_Ldraw dc_Ldraw pm_Ldraw cd_Ldraw ct_Ldraw : Value}
    {f_Lpick : Addr} {od_Lpick an_Lpick : Option Addr} {sl_Lpick : Array (Option Value)} {oc_Lpick kV_Lpick dc_Lpick pm_Lpick cd_Lpick ct_Lpick : Value}
    {f_Lword : Addr} {od_Lword an_Lword : Option Addr} {sl_Lword : Array (Option Value)} {oc_Lword kV_Lword dc_Lword pm_Lword cd_Lword ct_Lword : Value}
    {f_Lcause : Addr} {od_Lcause an_Lcause : Option Addr} {sl_Lcause : Array (Option Value)} {oc_Lcause kV_Lcause dc_Lcause pm_Lcause cd_Lcause ct_Lcause : Value}
    {f_Lsecond : Addr} {od_Lsecond an_Lsecond : Option Addr} {sl_Lsecond : Array (Option Value)} {oc_Lsecond kV_Lsecond dc_Lsecond pm_Lsecond cd_Lsecond ct_Lsecond : Value}
    {f_Ltold : Addr} {od_Ltold an_Ltold : Option Addr} {sl_Ltold : Array (Option Value)} {oc_Ltold kV_Ltold dc_Ltold pm_Ltold cd_Ltold ct_Ltold : Value}
    {f_Lentry : Addr} {od_Lentry an_Lentry : Option Addr} {sl_Lentry : Array (Option Value)} {oc_Lentry kV_Lentry dc_Lentry pm_Lentry cd_Lentry ct_Lentry : Value}
    {f_Lput : Addr} {od_Lput an_Lput : Option Addr} {sl_Lput : Array (Option Value)} {oc_Lput kV_Lput dc_Lput pm_Lput cd_Lput ct_Lput : Value}
    {f_Llean : Addr} {od_Llean an_Llean : Option Addr} {sl_Llean : Array (Option Value)} {oc_Llean kV_Llean dc_Llean pm_Llean cd_Llean ct_Llean : Value}
    {f_Lright : Addr} {od_Lright an_Lright : Option Addr} {sl_Lright : Array (Option Value)} {oc_Lright kV_Lright dc_Lright pm_Lright cd_Lright ct_Lright : Value}
    {f_law : Addr} {od_law an_law : Option Addr} {sl_law : Array (Option Value)} {oc_law kV_law dc_law pm_law cd_law ct_law : Value}
    {t_NO_CAUSE : Tok}
    {t_NO_SUCH_PLACE : Tok}
    {t__WORD_BITS : Tok}
    {t_WORDS : Tok}
    {t_ADDRESSES : Tok}
    {t_PLACES : Tok}
    {t_MEMORY_PLACES : Tok}
    {t_PAGE_WORDS : Tok}
    {t__PAGES : Tok}
    {t__FRAMES : Tok}
    {t__USERS_FLAG : Tok}
    {t__WRITABLE_FLAG : Tok}
    {t__THERE_BIT : Tok}
    {t__FLAGS_BIT : Tok}
    {t__FLAGS_BITS : Tok}
    {t__FRAME_BITS : Tok}
    
    {D_W : Addr} {es_W : Array DictEntry} {nn_W : Nat} {t0_W t1_W t2_W : Tok}
    (aC_Memory : PySem.W.nsIn K mainGlobals "Memory" = some (some (.ref C_Memory))) (pg_Memory : PySem.W.plainGet K C_Memory Str.empty = true) (hd_Memory : PySem.W.hasDictIn K C_Memory = true) (po_Memory : PySem.W.plainOver K C_Memory = true) (sa_Memory : PySem.W.findIn K (.ref C_Memory) "__setattr__" = some (some (.builtin "object.__setattr__"))) (mk_Memory : PySem.W.makesIn K C_Memory = true) (kc_Memory : PySem.W.keepIn K (.ref C_Memory) = true)
    (n_Memory_words : PySem.W.findIn K (.ref C_Memory) "_words" = some none)
    (a_is_integer : PySem.W.nsIn K mainGlobals "is_integer" = some (some (.ref f_is_integer)))
    (l_is_integer : K.lookup f_is_integer = some ⟨oc_is_integer, od_is_integer, .func (PySem.W.fnOf "is_integer" "is_integer" (defArgs s_is_integer) (defBody s_is_integer) (defScope s_is_integer) .none kV_is_integer dc_is_integer pm_is_integer an_is_integer cd_is_integer ct_is_integer), sl_is_integer⟩)
    (c_is_integer : PySem.W.codeIn K cd_is_integer "is_integer" = true) (k_is_integer : PySem.W.keepIn K (.ref f_is_integer) = true)
    (a_is_between : PySem.W.nsIn K mainGlobals "is_between" = some (some (.ref f_is_between)))
    (l_is_between : K.lookup f_is_between = some ⟨oc_is_between, od_is_between, .func (PySem.W.fnOf "is_between" "is_between" (defArgs s_is_between) (defBody s_is_between) (defScope s_is_between) .none kV_is_between dc_is_between pm_is_between an_is_between cd_is_between ct_is_between), sl_is_between⟩)
    (c_is_between : PySem.W.codeIn K cd_is_between "is_between" = true) (k_is_between : PySem.W.keepIn K (.ref f_is_between) = true)
    (a_is_word : PySem.W.nsIn K mainGlobals "is_word" = some (some (.ref f_is_word)))
    (l_is_word : K.lookup f_is_word = some ⟨oc_is_word, od_is_word, .func (PySem.W.fnOf "is_word" "is_word" (defArgs s_is_word) (defBody s_is_word) (defScope s_is_word) .none kV_is_word dc_is_word pm_is_word an_is_word cd_is_word ct_is_word), sl_is_word⟩)
    (c_is_word : PySem.W.codeIn K cd_is_word "is_word" = true) (k_is_word : PySem.W.keepIn K (.ref f_is_word) = true)
    (a_is_address : PySem.W.nsIn K mainGlobals "is_address" = some (some (.ref f_is_address)))
    (l_is_address : K.lookup f_is_address = some ⟨oc_is_address, od_is_address, .func (PySem.W.fnOf "is_address" "is_address" (defArgs s_is_address) (defBody s_is_address) (defScope s_is_address) .none kV_is_address dc_is_address pm_is_address an_is_address cd_is_address ct_is_address), sl_is_address⟩)
    (c_is_address : PySem.W.codeIn K cd_is_address "is_address" = true) (k_is_address : PySem.W.keepIn K (.ref f_is_address) = true)
    (a_is_place : PySem.W.nsIn K mainGlobals "is_place" = some (some (.ref f_is_place)))
    (l_is_place : K.lookup f_is_place = some ⟨oc_is_place, od_is_place, .func (PySem.W.fnOf "is_place" "is_place" (defArgs s_is_place) (defBody s_is_place) (defScope s_is_place) .none kV_is_place dc_is_place pm_is_place an_is_place cd_is_place ct_is_place), sl_is_place⟩)
    (c_is_place : PySem.W.codeIn K cd_is_place "is_place" = true) (k_is_place : PySem.W.keepIn K (.ref f_is_place) = true)
    (a_need_word : PySem.W.nsIn K mainGlobals "need_word" = some (some (.ref f_need_word)))
    (l_need_word : K.lookup f_need_word = some ⟨oc_need_word, od_need_word, .func (PySem.W.fnOf "need_word" "need_word" (defArgs s_need_word) (defBody s_need_word) (defScope s_need_word) .none kV_need_word dc_need_word pm_need_word an_need_word cd_need_word ct_need_word), sl_need_word⟩)
    (c_need_word : PySem.W.codeIn K cd_need_word "need_word" = true) (k_need_word : PySem.W.keepIn K (.ref f_need_word) = true)
    (a_need_address : PySem.W.nsIn K mainGlobals "need_address" = some (some (.ref f_need_address)))
    (l_need_address : K.lookup f_need_address = some ⟨oc_need_address, od_need_address, .func (PySem.W.fnOf "need_address" "need_address" (defArgs s_need_address) (defBody s_need_address) (defScope s_need_address) .none kV_need_address dc_need_address pm_need_address an_need_address cd_need_address ct_need_address), sl_need_address⟩)
    (c_need_address : PySem.W.codeIn K cd_need_address "need_address" = true) (k_need_address : PySem.W.keepIn K (.ref f_need_address) = true)
    (a_need_place : PySem.W.nsIn K mainGlobals "need_place" = some (some (.ref f_need_place)))
    (l_need_place : K.lookup f_need_place = some ⟨oc_need_place, od_need_place, .func (PySem.W.fnOf "need_place" "need_place" (defArgs s_need_place) (defBody s_need_place) (defScope s_need_place) .none kV_need_place dc_need_place pm_need_place an_need_place cd_need_place ct_need_place), sl_need_place⟩)
    (c_need_place : PySem.W.codeIn K cd_need_place "need_place" = true) (k_need_place : PySem.W.keepIn K (.ref f_need_place) = true)
    (a_need_bits : PySem.W.nsIn K mainGlobals "need_bits" = some (some (.ref f_need_bits)))
    (l_need_bits : K.lookup f_need_bits = some ⟨oc_need_bits, od_need_bits, .func (PySem.W.fnOf "need_bits" "need_bits" (defArgs s_need_bits) (defBody s_need_bits) (defScope s_need_bits) .none kV_need_bits dc_need_bits pm_need_bits an_need_bits cd_need_bits ct_need_bits), sl_need_bits⟩)
    (c_need_bits : PySem.W.codeIn K cd_need_bits "need_bits" = true) (k_need_bits : PySem.W.keepIn K (.ref f_need_bits) = true)
    (a_bits : PySem.W.nsIn K mainGlobals "bits" = some (some (.ref f_bits)))
    (l_bits : K.lookup f_bits = some ⟨oc_bits, od_bits, .func (PySem.W.fnOf "bits" "bits" (defArgs s_bits) (defBody s_bits) (defScope s_bits) .none kV_bits dc_bits pm_bits an_bits cd_bits ct_bits), sl_bits⟩)
    (c_bits : PySem.W.codeIn K cd_bits "bits" = true) (k_bits : PySem.W.keepIn K (.ref f_bits) = true)
    (a_Memory_init : PySem.W.findIn K (.ref C_Memory) "__init__" = some (some (.ref f_Memory_init)))
    (i_Memory_init : PySem.W.isFn K (.ref f_Memory_init) = true)
    (l_Memory_init : K.lookup f_Memory_init = some ⟨oc_Memory_init, od_Memory_init, .func (PySem.W.fnOf "__init__" "Memory.__init__" (defArgs s_Memory_init) (defBody s_Memory_init) (defScope s_Memory_init) .none kV_Memory_init dc_Memory_init pm_Memory_init an_Memory_init cd_Memory_init ct_Memory_init), sl_Memory_init⟩)
    (c_Memory_init : PySem.W.codeIn K cd_Memory_init "Memory.__init__" = true) (k_Memory_init : PySem.W.keepIn K (.ref f_Memory_init) = true)
    (a_Memory_word : PySem.W.findIn K (.ref C_Memory) "word" = some (some (.ref f_Memory_word)))
    (i_Memory_word : PySem.W.isFn K (.ref f_Memory_word) = true)
    (l_Memory_word : K.lookup f_Memory_word = some ⟨oc_Memory_word, od_Memory_word, .func (PySem.W.fnOf "word" "Memory.word" (defArgs s_Memory_word) (defBody s_Memory_word) (defScope s_Memory_word) .none kV_Memory_word dc_Memory_word pm_Memory_word an_Memory_word cd_Memory_word ct_Memory_word), sl_Memory_word⟩)
    (c_Memory_word : PySem.W.codeIn K cd_Memory_word "Memory.word" = true) (k_Memory_word : PySem.W.keepIn K (.ref f_Memory_word) = true)
    (a_Memory_put : PySem.W.findIn K (.ref C_Memory) "put" = some (some (.ref f_Memory_put)))
    (i_Memory_put : PySem.W.isFn K (.ref f_Memory_put) = true)
    (l_Memory_put : K.lookup f_Memory_put = some ⟨oc_Memory_put, od_Memory_put, .func (PySem.W.fnOf "put" "Memory.put" (defArgs s_Memory_put) (defBody s_Memory_put) (defScope s_Memory_put) .none kV_Memory_put dc_Memory_put pm_Memory_put an_Memory_put cd_Memory_put ct_Memory_put), sl_Memory_put⟩)
    (c_Memory_put : PySem.W.codeIn K cd_Memory_put "Memory.put" = true) (k_Memory_put : PySem.W.keepIn K (.ref f_Memory_put) = true)
    (a_need_memory : PySem.W.nsIn K mainGlobals "need_memory" = some (some (.ref f_need_memory)))
    (l_need_memory : K.lookup f_need_memory = some ⟨oc_need_memory, od_need_memory, .func (PySem.W.fnOf "need_memory" "need_memory" (defArgs s_need_memory) (defBody s_need_memory) (defScope s_need_memory) .none kV_need_memory dc_need_memory pm_need_memory an_need_memory cd_need_memory ct_need_memory), sl_need_memory⟩)
    (c_need_memory : PySem.W.codeIn K cd_need_memory "need_memory" = true) (k_need_memory : PySem.W.keepIn K (.ref f_need_memory) = true)
    (a_is_memory_place : PySem.W.nsIn K mainGlobals "is_memory_place" = some (some (.ref f_is_memory_place)))
    (l_is_memory_place : K.lookup f_is_memory_place = some ⟨oc_is_memory_place, od_is_memory_place, .func (PySem.W.fnOf "is_memory_place" "is_memory_place" (defArgs s_is_memory_place) (defBody s_is_memory_place) (defScope s_is_memory_place) .none kV_is_memory_place dc_is_memory_place pm_is_memory_place an_is_memory_place cd_is_memory_place ct_is_memory_place), sl_is_memory_place⟩)
    (c_is_memory_place : PySem.W.codeIn K cd_is_memory_place "is_memory_place" = true) (k_is_memory_place : PySem.W.keepIn K (.ref f_is_memory_place) = true)
    (a_need_memory_place : PySem.W.nsIn K mainGlobals "need_memory_place" = some (some (.ref f_need_memory_place)))
    (l_need_memory_place : K.lookup f_need_memory_place = some ⟨oc_need_memory_place, od_need_memory_place, .func (PySem.W.fnOf "need_memory_place" "need_memory_place" (defArgs s_need_memory_place) (defBody s_need_memory_place) (defScope s_need_memory_place) .none kV_need_memory_place dc_need_memory_place pm_need_memory_place an_need_memory_place cd_need_memory_place ct_need_memory_place), sl_need_memory_place⟩)
    (c_need_memory_place : PySem.W.codeIn K cd_need_memory_place "need_memory_place" = true) (k_need_memory_place : PySem.W.keepIn K (.ref f_need_memory_place) = true)
    (a_need_frame : PySem.W.nsIn K mainGlobals "need_frame" = some (some (.ref f_need_frame)))
    (l_need_frame : K.lookup f_need_frame = some ⟨oc_need_frame, od_need_frame, .func (PySem.W.fnOf "need_frame" "need_frame" (defArgs s_need_frame) (defBody s_need_frame) (defScope s_need_frame) .none kV_need_frame dc_need_frame pm_need_frame an_need_frame cd_need_frame ct_need_frame), sl_need_frame⟩)
    (c_need_frame : PySem.W.codeIn K cd_need_frame "need_frame" = true) (k_need_frame : PySem.W.keepIn K (.ref f_need_frame) = true)
    (a_need_way : PySem.W.nsIn K mainGlobals "need_way" = some (some (.ref f_need_way)))
    (l_need_way : K.lookup f_need_way = some ⟨oc_need_way, od_need_way, .func (PySem.W.fnOf "need_way" "need_way" (defArgs s_need_way) (defBody s_need_way) (defScope s_need_way) .none kV_need_way dc_need_way pm_need_way an_need_way cd_need_way ct_need_way), sl_need_way⟩)
    (c_need_way : PySem.W.codeIn K cd_need_way "need_way" = true) (k_need_way : PySem.W.keepIn K (.ref f_need_way) = true)
    (a_need_side : PySem.W.nsIn K mainGlobals "need_side" = some (some (.ref f_need_side)))
    (l_need_side : K.lookup f_need_side = some ⟨oc_need_side, od_need_side, .func (PySem.W.fnOf "need_side" "need_side" (defArgs s_need_side) (defBody s_need_side) (defScope s_need_side) .none kV_need_side dc_need_side pm_need_side an_need_side cd_need_side ct_need_side), sl_need_side⟩)
    (c_need_side : PySem.W.codeIn K cd_need_side "need_side" = true) (k_need_side : PySem.W.keepIn K (.ref f_need_side) = true)
    (a_entry_parts : PySem.W.nsIn K mainGlobals "entry_parts" = some (some (.ref f_entry_parts)))
    (l_entry_parts : K.lookup f_entry_parts = some ⟨oc_entry_parts, od_entry_parts, .func (PySem.W.fnOf "entry_parts" "entry_parts" (defArgs s_entry_parts) (defBody s_entry_parts) (defScope s_entry_parts) .none kV_entry_parts dc_entry_parts pm_entry_parts an_entry_parts cd_entry_parts ct_entry_parts), sl_entry_parts⟩)
    (c_entry_parts : PySem.W.codeIn K cd_entry_parts "entry_parts" = true) (k_entry_parts : PySem.W.keepIn K (.ref f_entry_parts) = true)
    (a_by_entry : PySem.W.nsIn K mainGlobals "by_entry" = some (some (.ref f_by_entry)))
    (l_by_entry : K.lookup f_by_entry = some ⟨oc_by_entry, od_by_entry, .func (PySem.W.fnOf "by_entry" "by_entry" (defArgs s_by_entry) (defBody s_by_entry) (defScope s_by_entry) .none kV_by_entry dc_by_entry pm_by_entry an_by_entry cd_by_entry ct_by_entry), sl_by_entry⟩)
    (c_by_entry : PySem.W.codeIn K cd_by_entry "by_entry" = true) (k_by_entry : PySem.W.keepIn K (.ref f_by_entry) = true)
    (a_translated : PySem.W.nsIn K mainGlobals "translated" = some (some (.ref f_translated)))
    (l_translated : K.lookup f_translated = some ⟨oc_translated, od_translated, .func (PySem.W.fnOf "translated" "translated" (defArgs s_translated) (defBody s_translated) (defScope s_translated) .none kV_translated dc_translated pm_translated an_translated cd_translated ct_translated), sl_translated⟩)
    (c_translated : PySem.W.codeIn K cd_translated "translated" = true) (k_translated : PySem.W.keepIn K (.ref f_translated) = true)
    (a_walked : PySem.W.nsIn K mainGlobals "walked" = some (some (.ref f_walked)))
    (l_walked : K.lookup f_walked = some ⟨oc_walked, od_walked, .func (PySem.W.fnOf "walked" "walked" (defArgs s_walked) (defBody s_walked) (defScope s_walked) .none kV_walked dc_walked pm_walked an_walked cd_walked ct_walked), sl_walked⟩)
    (c_walked : PySem.W.codeIn K cd_walked "walked" = true) (k_walked : PySem.W.keepIn K (.ref f_walked) = true)
    (a_page_walk : PySem.W.nsIn K mainGlobals "page_walk" = some (some (.ref f_page_walk)))
    (l_page_walk : K.lookup f_page_walk = some ⟨oc_page_walk, od_page_walk, .func (PySem.W.fnOf "page_walk" "page_walk" (defArgs s_page_walk) (defBody s_page_walk) (defScope s_page_walk) .none kV_page_walk dc_page_walk pm_page_walk an_page_walk cd_page_walk ct_page_walk), sl_page_walk⟩)
    (c_page_walk : PySem.W.codeIn K cd_page_walk "page_walk" = true) (k_page_walk : PySem.W.keepIn K (.ref f_page_walk) = true)
    (a_leaning : PySem.W.nsIn K mainGlobals "leaning" = some (some (.ref f_leaning)))
    (l_leaning : K.lookup f_leaning = some ⟨oc_leaning, od_leaning, .func (PySem.W.fnOf "leaning" "leaning" (defArgs s_leaning) (defBody s_leaning) (defScope s_leaning) .none kV_leaning dc_leaning pm_leaning an_leaning cd_leaning ct_leaning), sl_leaning⟩)
    (c_leaning : PySem.W.codeIn K cd_leaning "leaning" = true) (k_leaning : PySem.W.keepIn K (.ref f_leaning) = true)
    (a__is_frame : PySem.W.nsIn K mainGlobals "_is_frame" = some (some (.ref f__is_frame)))
    (l__is_frame : K.lookup f__is_frame = some ⟨oc__is_frame, od__is_frame, .func (PySem.W.fnOf "_is_frame" "_is_frame" (defArgs s__is_frame) (defBody s__is_frame) (defScope s__is_frame) .none kV__is_frame dc__is_frame pm__is_frame an__is_frame cd__is_frame ct__is_frame), sl__is_frame⟩)
    (c__is_frame : PySem.W.codeIn K cd__is_frame "_is_frame" = true) (k__is_frame : PySem.W.keepIn K (.ref f__is_frame) = true)
    (a__lets : PySem.W.nsIn K mainGlobals "_lets" = some (some (.ref f__lets)))
    (l__lets : K.lookup f__lets = some ⟨oc__lets, od__lets, .func (PySem.W.fnOf "_lets" "_lets" (defArgs s__lets) (defBody s__lets) (defScope s__lets) .none kV__lets dc__lets pm__lets an__lets cd__lets ct__lets), sl__lets⟩)
    (c__lets : PySem.W.codeIn K cd__lets "_lets" = true) (k__lets : PySem.W.keepIn K (.ref f__lets) = true)
    (a__entry_place : PySem.W.nsIn K mainGlobals "_entry_place" = some (some (.ref f__entry_place)))
    (l__entry_place : K.lookup f__entry_place = some ⟨oc__entry_place, od__entry_place, .func (PySem.W.fnOf "_entry_place" "_entry_place" (defArgs s__entry_place) (defBody s__entry_place) (defScope s__entry_place) .none kV__entry_place dc__entry_place pm__entry_place an__entry_place cd__entry_place ct__entry_place), sl__entry_place⟩)
    (c__entry_place : PySem.W.codeIn K cd__entry_place "_entry_place" = true) (k__entry_place : PySem.W.keepIn K (.ref f__entry_place) = true)
    (a_Lpot : PySem.W.nsIn K mainGlobals "_law_pot" = some (some (.ref f_Lpot)))
    (l_Lpot : K.lookup f_Lpot = some ⟨oc_Lpot, od_Lpot, .func (PySem.W.fnOf "_law_pot" "_law_pot" (defArgs s_Lpot) (defBody s_Lpot) (defScope s_Lpot) .none kV_Lpot dc_Lpot pm_Lpot an_Lpot cd_Lpot ct_Lpot), sl_Lpot⟩)
    (c_Lpot : PySem.W.codeIn K cd_Lpot "_law_pot" = true) (k_Lpot : PySem.W.keepIn K (.ref f_Lpot) = true)
    (a_Ldraw : PySem.W.nsIn K mainGlobals "_law_draw" = some (some (.ref f_Ldraw)))
    (l_Ldraw : K.lookup f_Ldraw = some ⟨oc_Ldraw, od_Ldraw, .func (PySem.W.fnOf "_law_draw" "_law_draw" (defArgs s_Ldraw) (defBody s_Ldraw) (defScope s_Ldraw) .none kV_Ldraw dc_Ldraw pm_Ldraw an_Ldraw cd_Ldraw ct_Ldraw), sl_Ldraw⟩)
    (c_Ldraw : PySem.W.codeIn K cd_Ldraw "_law_draw" = true) (k_Ldraw : PySem.W.keepIn K (.ref f_Ldraw) = true)
    (a_Lpick : PySem.W.nsIn K mainGlobals "_law_pick" = some (some (.ref f_Lpick)))
    (l_Lpick : K.lookup f_Lpick = some ⟨oc_Lpick, od_Lpick, .func (PySem.W.fnOf "_law_pick" "_law_pick" (defArgs s_Lpick) (defBody s_Lpick) (defScope s_Lpick) .none kV_Lpick dc_Lpick pm_Lpick an_Lpick cd_Lpick ct_Lpick), sl_Lpick⟩)
    (c_Lpick : PySem.W.codeIn K cd_Lpick "_law_pick" = true) (k_Lpick : PySem.W.keepIn K (.ref f_Lpick) = true)
    (a_Lword : PySem.W.nsIn K mainGlobals "_law_word" = some (some (.ref f_Lword)))
    (l_Lword : K.lookup f_Lword = some ⟨oc_Lword, od_Lword, .func (PySem.W.fnOf "_law_word" "_law_word" (defArgs s_Lword) (defBody s_Lword) (defScope s_Lword) .none kV_Lword dc_Lword pm_Lword an_Lword cd_Lword ct_Lword), sl_Lword⟩)
    (c_Lword : PySem.W.codeIn K cd_Lword "_law_word" = true) (k_Lword : PySem.W.keepIn K (.ref f_Lword) = true)
    (a_Lcause : PySem.W.nsIn K mainGlobals "_law_cause" = some (some (.ref f_Lcause)))
    (l_Lcause : K.lookup f_Lcause = some ⟨oc_Lcause, od_Lcause, .func (PySem.W.fnOf "_law_cause" "_law_cause" (defArgs s_Lcause) (defBody s_Lcause) (defScope s_Lcause) .none kV_Lcause dc_Lcause pm_Lcause an_Lcause cd_Lcause ct_Lcause), sl_Lcause⟩)
    (c_Lcause : PySem.W.codeIn K cd_Lcause "_law_cause" = true) (k_Lcause : PySem.W.keepIn K (.ref f_Lcause) = true)
    (a_Lsecond : PySem.W.nsIn K mainGlobals "_law_second" = some (some (.ref f_Lsecond)))
    (l_Lsecond : K.lookup f_Lsecond = some ⟨oc_Lsecond, od_Lsecond, .func (PySem.W.fnOf "_law_second" "_law_second" (defArgs s_Lsecond) (defBody s_Lsecond) (defScope s_Lsecond) .none kV_Lsecond dc_Lsecond pm_Lsecond an_Lsecond cd_Lsecond ct_Lsecond), sl_Lsecond⟩)
    (c_Lsecond : PySem.W.codeIn K cd_Lsecond "_law_second" = true) (k_Lsecond : PySem.W.keepIn K (.ref f_Lsecond) = true)
    (a_Ltold : PySem.W.nsIn K mainGlobals "_law_told" = some (some (.ref f_Ltold)))
    (l_Ltold : K.lookup f_Ltold = some ⟨oc_Ltold, od_Ltold, .func (PySem.W.fnOf "_law_told" "_law_told" (defArgs s_Ltold) (defBody s_Ltold) (defScope s_Ltold) .none kV_Ltold dc_Ltold pm_Ltold an_Ltold cd_Ltold ct_Ltold), sl_Ltold⟩)
    (c_Ltold : PySem.W.codeIn K cd_Ltold "_law_told" = true) (k_Ltold : PySem.W.keepIn K (.ref f_Ltold) = true)
    (a_Lentry : PySem.W.nsIn K mainGlobals "_law_entry" = some (some (.ref f_Lentry)))
    (l_Lentry : K.lookup f_Lentry = some ⟨oc_Lentry, od_Lentry, .func (PySem.W.fnOf "_law_entry" "_law_entry" (defArgs s_Lentry) (defBody s_Lentry) (defScope s_Lentry) .none kV_Lentry dc_Lentry pm_Lentry an_Lentry cd_Lentry ct_Lentry), sl_Lentry⟩)
    (c_Lentry : PySem.W.codeIn K cd_Lentry "_law_entry" = true) (k_Lentry : PySem.W.keepIn K (.ref f_Lentry) = true)
    (a_Lput : PySem.W.nsIn K mainGlobals "_law_put" = some (some (.ref f_Lput)))
    (l_Lput : K.lookup f_Lput = some ⟨oc_Lput, od_Lput, .func (PySem.W.fnOf "_law_put" "_law_put" (defArgs s_Lput) (defBody s_Lput) (defScope s_Lput) .none kV_Lput dc_Lput pm_Lput an_Lput cd_Lput ct_Lput), sl_Lput⟩)
    (c_Lput : PySem.W.codeIn K cd_Lput "_law_put" = true) (k_Lput : PySem.W.keepIn K (.ref f_Lput) = true)
    (a_Llean : PySem.W.nsIn K mainGlobals "_law_lean" = some (some (.ref f_Llean)))
    (l_Llean : K.lookup f_Llean = some ⟨oc_Llean, od_Llean, .func (PySem.W.fnOf "_law_lean" "_law_lean" (defArgs s_Llean) (defBody s_Llean) (defScope s_Llean) .none kV_Llean dc_Llean pm_Llean an_Llean cd_Llean ct_Llean), sl_Llean⟩)
    (c_Llean : PySem.W.codeIn K cd_Llean "_law_lean" = true) (k_Llean : PySem.W.keepIn K (.ref f_Llean) = true)
    (a_Lright : PySem.W.nsIn K mainGlobals "_law_right" = some (some (.ref f_Lright)))
    (l_Lright : K.lookup f_Lright = some ⟨oc_Lright, od_Lright, .func (PySem.W.fnOf "_law_right" "_law_right" (defArgs s_Lright) (defBody s_Lright) (defScope s_Lright) .none kV_Lright dc_Lright pm_Lright an_Lright cd_Lright ct_Lright), sl_Lright⟩)
    (c_Lright : PySem.W.codeIn K cd_Lright "_law_right" = true) (k_Lright : PySem.W.keepIn K (.ref f_Lright) = true)
    (a_law : PySem.W.nsIn K mainGlobals "law" = some (some (.ref f_law)))
    (l_law : K.lookup f_law = some ⟨oc_law, od_law, .func (PySem.W.fnOf "law" "law" (defArgs s_law) (defBody s_law) (defScope s_law) .none kV_law dc_law pm_law an_law cd_law ct_law), sl_law⟩)
    (c_law : PySem.W.codeIn K cd_law "law" = true) (k_law : PySem.W.keepIn K (.ref f_law) = true)
    (z_abs : PySem.W.nsIn K mainGlobals "abs" = some none)
    (z_bool : PySem.W.nsIn K mainGlobals "bool" = some none)
    (z_divmod : PySem.W.nsIn K mainGlobals "divmod" = some none)
    (z_int : PySem.W.nsIn K mainGlobals "int" = some none)
    (z_isinstance : PySem.W.nsIn K mainGlobals "isinstance" = some none)
    (z_len : PySem.W.nsIn K mainGlobals "len" = some none)
    (z_max : PySem.W.nsIn K mainGlobals "max" = some none)
    (z_range : PySem.W.nsIn K mainGlobals "range" = some none)
    (z_sorted : PySem.W.nsIn K mainGlobals "sorted" = some none)
    (z_str : PySem.W.nsIn K mainGlobals "str" = some none)
    (x_NO_CAUSE : PySem.W.nsIn K mainGlobals "NO_CAUSE" = some (some (.int 0 t_NO_CAUSE)))
    (x_NO_SUCH_PLACE : PySem.W.nsIn K mainGlobals "NO_SUCH_PLACE" = some (some (.int 7 t_NO_SUCH_PLACE)))
    (x__WORD_BITS : PySem.W.nsIn K mainGlobals "_WORD_BITS" = some (some (.int 16 t__WORD_BITS)))
    (x_WORDS : PySem.W.nsIn K mainGlobals "WORDS" = some (some (.int 65536 t_WORDS)))
    (x_ADDRESSES : PySem.W.nsIn K mainGlobals "ADDRESSES" = some (some (.int 4096 t_ADDRESSES)))
    (x_PLACES : PySem.W.nsIn K mainGlobals "PLACES" = some (some (.int 1024 t_PLACES)))
    (x_MEMORY_PLACES : PySem.W.nsIn K mainGlobals "MEMORY_PLACES" = some (some (.int 960 t_MEMORY_PLACES)))
    (x_PAGE_WORDS : PySem.W.nsIn K mainGlobals "PAGE_WORDS" = some (some (.int 16 t_PAGE_WORDS)))
    (x__PAGES : PySem.W.nsIn K mainGlobals "_PAGES" = some (some (.int 256 t__PAGES)))
    (x__FRAMES : PySem.W.nsIn K mainGlobals "_FRAMES" = some (some (.int 64 t__FRAMES)))
    (x__USERS_FLAG : PySem.W.nsIn K mainGlobals "_USERS_FLAG" = some (some (.int 1 t__USERS_FLAG)))
    (x__WRITABLE_FLAG : PySem.W.nsIn K mainGlobals "_WRITABLE_FLAG" = some (some (.int 2 t__WRITABLE_FLAG)))
    (x__THERE_BIT : PySem.W.nsIn K mainGlobals "_THERE_BIT" = some (some (.int 15 t__THERE_BIT)))
    (x__FLAGS_BIT : PySem.W.nsIn K mainGlobals "_FLAGS_BIT" = some (some (.int 13 t__FLAGS_BIT)))
    (x__FLAGS_BITS : PySem.W.nsIn K mainGlobals "_FLAGS_BITS" = some (some (.int 2 t__FLAGS_BITS)))
    (x__FRAME_BITS : PySem.W.nsIn K mainGlobals "_FRAME_BITS" = some (some (.int 6 t__FRAME_BITS)))
    (ic_Memory : PySem.W.findIn K (.ref C_Memory) "__class__" = some (some (.builtin "object.__class__"))) (in_Memory : PySem.W.specialIn K (.builtin "object.__class__") "__get__" = some (some (.builtin "getset_descriptor.__get__"))) (it_Memory : PySem.W.takesIn K (.builtin "object.__class__") = some true) (im_Memory : PySem.W.mroIn K C_Memory (.type "object") = some true)
    (aW : PySem.W.nsIn K mainGlobals "_WAY_CAUSES" = some (some (.ref D_W))) (lW : K.lookup D_W = some ⟨.type "dict", none, .dict es_W nn_W, #[]⟩) (yW : PySem.W.KeysLit w.params es_W.toList) (sW : (D_W == sysModules) = false) (w0W : PySem.W.nsIn K D_W "fetch" = some (some (.int 4 t0_W))) (w1W : PySem.W.nsIn K D_W "load" = some (some (.int 5 t1_W))) (w2W : PySem.W.nsIn K D_W "store" = some (some (.int 6 t2_W)))
    : ∃ fd : FuncData, (∀ (s : Shared) (v : Value), BindsTo s fd ⟨[v], []⟩ [("_law_script", v)]) ∧ ∀ base : Heap, K.In base → base.Ns mainGlobals mg → FnOk l.prog w K mg base CX0 13 fa fd ["_law_script"] (sp_law K) := by
  have e := hfa.symm.trans (PySem.W.mg_of X G a_law)
  cases e
  let T : Txt w K mg := {
    C_Memory := C_Memory, cl_Memory := ⟨pg_Memory, hd_Memory, po_Memory, sa_Memory⟩, g_Memory := PySem.W.mg_of X G aC_Memory,
    n_Memory_words := n_Memory_words,
    f_is_integer := _, fd_is_integer := _, F_is_integer := fun_mk (st := s_is_integer) l_is_integer c_is_integer k_is_integer,
    g_is_integer := PySem.W.mg_of X G a_is_integer,
    b_is_integer := (fun_mk (st := s_is_integer) l_is_integer c_is_integer k_is_integer).binds (ps := ["value"]) fun _ _ _ _ _ _ us hl => match us, hl with | [_], _ => rfl,
    f_is_between := _, fd_is_between := _, F_is_between := fun_mk (st := s_is_between) l_is_between c_is_between k_is_between,
    g_is_between := PySem.W.mg_of X G a_is_between,
    b_is_between := (fun_mk (st := s_is_between) l_is_between c_is_between k_is_between).binds (ps := ["value", "least", "most"]) fun _ _ _ _ _ _ us hl => match us, hl with | [_, _, _], _ => rfl,
    f_is_word := _, fd_is_word := _, F_is_word := fun_mk (st := s_is_word) l_is_word c_is_word k_is_word,
    g_is_word := PySem.W.mg_of X G a_is_word,
    b_is_word := (fun_mk (st := s_is_word) l_is_word c_is_word k_is_word).binds (ps := ["value"]) fun _ _ _ _ _ _ us hl => match us, hl with | [_], _ => rfl,
    f_is_address := _, fd_is_address := _, F_is_address := fun_mk (st := s_is_address) l_is_address c_is_address k_is_address,
    g_is_address := PySem.W.mg_of X G a_is_address,
    b_is_address := (fun_mk (st := s_is_address) l_is_address c_is_address k_is_address).binds (ps := ["value"]) fun _ _ _ _ _ _ us hl => match us, hl with | [_], _ => rfl,
    f_is_place := _, fd_is_place := _, F_is_place := fun_mk (st := s_is_place) l_is_place c_is_place k_is_place,
    g_is_place := PySem.W.mg_of X G a_is_place,
    b_is_place := (fun_mk (st := s_is_place) l_is_place c_is_place k_is_place).binds (ps := ["value"]) fun _ _ _ _ _ _ us hl => match us, hl with | [_], _ => rfl,
    f_need_word := _, fd_need_word := _, F_need_word := fun_mk (st := s_need_word) l_need_word c_need_word k_need_word,
    g_need_word := PySem.W.mg_of X G a_need_word,
    b_need_word := (fun_mk (st := s_need_word) l_need_word c_need_word k_need_word).binds (ps := ["value"]) fun _ _ _ _ _ _ us hl => match us, hl with | [_], _ => rfl,
    f_need_address := _, fd_need_address := _, F_need_address := fun_mk (st := s_need_address) l_need_address c_need_address k_need_address,
    g_need_address := PySem.W.mg_of X G a_need_address,
    b_need_address := (fun_mk (st := s_need_address) l_need_address c_need_address k_need_address).binds (ps := ["value"]) fun _ _ _ _ _ _ us hl => match us, hl with | [_], _ => rfl,
    f_need_place := _, fd_need_place := _, F_need_place := fun_mk (st := s_need_place) l_need_place c_need_place k_need_place,
    g_need_place := PySem.W.mg_of X G a_need_place,
    b_need_place := (fun_mk (st := s_need_place) l_need_place c_need_place k_need_place).binds (ps := ["value"]) fun _ _ _ _ _ _ us hl => match us, hl with | [_], _ => rfl,
    f_need_bits := _, fd_need_bits := _, F_need_bits := fun_mk (st := s_need_bits) l_need_bits c_need_bits k_need_bits,
    g_need_bits := PySem.W.mg_of X G a_need_bits,
    b_need_bits := (fun_mk (st := s_need_bits) l_need_bits c_need_bits k_need_bits).binds (ps := ["word", "low", "many"]) fun _ _ _ _ _ _ us hl => match us, hl with | [_, _, _], _ => rfl,
    f_bits := _, fd_bits := _, F_bits := fun_mk (st := s_bits) l_bits c_bits k_bits,
    g_bits := PySem.W.mg_of X G a_bits,
    b_bits := (fun_mk (st := s_bits) l_bits c_bits k_bits).binds (ps := ["word", "low", "many"]) fun _ _ _ _ _ _ us hl => match us, hl with | [_, _, _], _ => rfl,
    mk_Memory := ⟨mk_Memory, a_Memory_init, i_Memory_init, kc_Memory⟩,
    f_Memory_init := _, fd_Memory_init := _, F_Memory_init := fun_mk (st := s_Memory_init) l_Memory_init c_Memory_init k_Memory_init,
    b_Memory_init := (fun_mk (st := s_Memory_init) l_Memory_init c_Memory_init k_Memory_init).binds (ps := ["self"]) fun _ _ _ _ _ _ us hl => match us, hl with | [_], _ => rfl,
    me_Memory_word := ⟨a_Memory_word, i_Memory_word, k_Memory_word⟩,
    f_Memory_word := _, fd_Memory_word := _, F_Memory_word := fun_mk (st := s_Memory_word) l_Memory_word c_Memory_word k_Memory_word,
    b_Memory_word := (fun_mk (st := s_Memory_word) l_Memory_word c_Memory_word k_Memory_word).binds (ps := ["self", "place"]) fun _ _ _ _ _ _ us hl => match us, hl with | [_, _], _ => rfl,
    me_Memory_put := ⟨a_Memory_put, i_Memory_put, k_Memory_put⟩,
    f_Memory_put := _, fd_Memory_put := _, F_Memory_put := fun_mk (st := s_Memory_put) l_Memory_put c_Memory_put k_Memory_put,
    b_Memory_put := (fun_mk (st := s_Memory_put) l_Memory_put c_Memory_put k_Memory_put).binds (ps := ["self", "place", "word"]) fun _ _ _ _ _ _ us hl => match us, hl with | [_, _, _], _ => rfl,
    f_need_memory := _, fd_need_memory := _, F_need_memory := fun_mk (st := s_need_memory) l_need_memory c_need_memory k_need_memory,
    g_need_memory := PySem.W.mg_of X G a_need_memory,
    b_need_memory := (fun_mk (st := s_need_memory) l_need_memory c_need_memory k_need_memory).binds (ps := ["value"]) fun _ _ _ _ _ _ us hl => match us, hl with | [_], _ => rfl,
    f_is_memory_place := _, fd_is_memory_place := _, F_is_memory_place := fun_mk (st := s_is_memory_place) l_is_memory_place c_is_memory_place k_is_memory_place,
    g_is_memory_place := PySem.W.mg_of X G a_is_memory_place,
    b_is_memory_place := (fun_mk (st := s_is_memory_place) l_is_memory_place c_is_memory_place k_is_memory_place).binds (ps := ["value"]) fun _ _ _ _ _ _ us hl => match us, hl with | [_], _ => rfl,
    f_need_memory_place := _, fd_need_memory_place := _, F_need_memory_place := fun_mk (st := s_need_memory_place) l_need_memory_place c_need_memory_place k_need_memory_place,
    g_need_memory_place := PySem.W.mg_of X G a_need_memory_place,
    b_need_memory_place := (fun_mk (st := s_need_memory_place) l_need_memory_place c_need_memory_place k_need_memory_place).binds (ps := ["value"]) fun _ _ _ _ _ _ us hl => match us, hl with | [_], _ => rfl,
    f_need_frame := _, fd_need_frame := _, F_need_frame := fun_mk (st := s_need_frame) l_need_frame c_need_frame k_need_frame,
    g_need_frame := PySem.W.mg_of X G a_need_frame,
    b_need_frame := (fun_mk (st := s_need_frame) l_need_frame c_need_frame k_need_frame).binds (ps := ["value"]) fun _ _ _ _ _ _ us hl => match us, hl with | [_], _ => rfl,
    f_need_way := _, fd_need_way := _, F_need_way := fun_mk (st := s_need_way) l_need_way c_need_way k_need_way,
    g_need_way := PySem.W.mg_of X G a_need_way,
    b_need_way := (fun_mk (st := s_need_way) l_need_way c_need_way k_need_way).binds (ps := ["value"]) fun _ _ _ _ _ _ us hl => match us, hl with | [_], _ => rfl,
    f_need_side := _, fd_need_side := _, F_need_side := fun_mk (st := s_need_side) l_need_side c_need_side k_need_side,
    g_need_side := PySem.W.mg_of X G a_need_side,
    b_need_side := (fun_mk (st := s_need_side) l_need_side c_need_side k_need_side).binds (ps := ["value"]) fun _ _ _ _ _ _ us hl => match us, hl with | [_], _ => rfl,
    f_entry_parts := _, fd_entry_parts := _, F_entry_parts := fun_mk (st := s_entry_parts) l_entry_parts c_entry_parts k_entry_parts,
    g_entry_parts := PySem.W.mg_of X G a_entry_parts,
    b_entry_parts := (fun_mk (st := s_entry_parts) l_entry_parts c_entry_parts k_entry_parts).binds (ps := ["word"]) fun _ _ _ _ _ _ us hl => match us, hl with | [_], _ => rfl,
    f_by_entry := _, fd_by_entry := _, F_by_entry := fun_mk (st := s_by_entry) l_by_entry c_by_entry k_by_entry,
    g_by_entry := PySem.W.mg_of X G a_by_entry,
    b_by_entry := (fun_mk (st := s_by_entry) l_by_entry c_by_entry k_by_entry).binds (ps := ["word", "address", "way", "is_user"]) fun _ _ _ _ _ _ us hl => match us, hl with | [_, _, _, _], _ => rfl,
    f_translated := _, fd_translated := _, F_translated := fun_mk (st := s_translated) l_translated c_translated k_translated,
    g_translated := PySem.W.mg_of X G a_translated,
    b_translated := (fun_mk (st := s_translated) l_translated c_translated k_translated).binds (ps := ["memory", "root", "address", "way", "is_user"]) fun _ _ _ _ _ _ us hl => match us, hl with | [_, _, _, _, _], _ => rfl,
    f_walked := _, fd_walked := _, F_walked := fun_mk (st := s_walked) l_walked c_walked k_walked,
    g_walked := PySem.W.mg_of X G a_walked,
    b_walked := (fun_mk (st := s_walked) l_walked c_walked k_walked).binds (ps := ["words", "root", "address", "way", "is_user"]) fun _ _ _ _ _ _ us hl => match us, hl with | [_, _, _, _, _], _ => rfl,
    f_page_walk := _, fd_page_walk := _, F_page_walk := fun_mk (st := s_page_walk) l_page_walk c_page_walk k_page_walk,
    g_page_walk := PySem.W.mg_of X G a_page_walk,
    b_page_walk := (fun_mk (st := s_page_walk) l_page_walk c_page_walk k_page_walk).binds (ps := ["memory", "root", "page"]) fun _ _ _ _ _ _ us hl => match us, hl with | [_, _, _], _ => rfl,
    f_leaning := _, fd_leaning := _, F_leaning := fun_mk (st := s_leaning) l_leaning c_leaning k_leaning,
    g_leaning := PySem.W.mg_of X G a_leaning,
    b_leaning := (fun_mk (st := s_leaning) l_leaning c_leaning k_leaning).binds (ps := ["memory", "root", "place"]) fun _ _ _ _ _ _ us hl => match us, hl with | [_, _, _], _ => rfl,
    f__is_frame := _, fd__is_frame := _, F__is_frame := fun_mk (st := s__is_frame) l__is_frame c__is_frame k__is_frame,
    g__is_frame := PySem.W.mg_of X G a__is_frame,
    b__is_frame := (fun_mk (st := s__is_frame) l__is_frame c__is_frame k__is_frame).binds (ps := ["value"]) fun _ _ _ _ _ _ us hl => match us, hl with | [_], _ => rfl,
    f__lets := _, fd__lets := _, F__lets := fun_mk (st := s__lets) l__lets c__lets k__lets,
    g__lets := PySem.W.mg_of X G a__lets,
    b__lets := (fun_mk (st := s__lets) l__lets c__lets k__lets).binds (ps := ["flags", "way", "is_user"]) fun _ _ _ _ _ _ us hl => match us, hl with | [_, _, _], _ => rfl,
    f__entry_place := _, fd__entry_place := _, F__entry_place := fun_mk (st := s__entry_place) l__entry_place c__entry_place k__entry_place,
    g__entry_place := PySem.W.mg_of X G a__entry_place,
    b__entry_place := (fun_mk (st := s__entry_place) l__entry_place c__entry_place k__entry_place).binds (ps := ["frame", "number"]) fun _ _ _ _ _ _ us hl => match us, hl with | [_, _], _ => rfl,
    f_Lpot := _, fd_Lpot := _, F_Lpot := fun_mk (st := s_Lpot) l_Lpot c_Lpot k_Lpot,
    g_Lpot := PySem.W.mg_of X G a_Lpot,
    b_Lpot := (fun_mk (st := s_Lpot) l_Lpot c_Lpot k_Lpot).binds (ps := ["_law_script", "_law_k"]) fun _ _ _ _ _ _ us hl => match us, hl with | [_, _], _ => rfl,
    f_Ldraw := _, fd_Ldraw := _, F_Ldraw := fun_mk (st := s_Ldraw) l_Ldraw c_Ldraw k_Ldraw,
    g_Ldraw := PySem.W.mg_of X G a_Ldraw,
    b_Ldraw := (fun_mk (st := s_Ldraw) l_Ldraw c_Ldraw k_Ldraw).binds (ps := ["_law_pot_here", "_law_size"]) fun _ _ _ _ _ _ us hl => match us, hl with | [_, _], _ => rfl,
    f_Lpick := _, fd_Lpick := _, F_Lpick := fun_mk (st := s_Lpick) l_Lpick c_Lpick k_Lpick,
    g_Lpick := PySem.W.mg_of X G a_Lpick,
    b_Lpick := (fun_mk (st := s_Lpick) l_Lpick c_Lpick k_Lpick).binds (ps := ["_law_pot_here", "_law_some"]) fun _ _ _ _ _ _ us hl => match us, hl with | [_, _], _ => rfl,
    f_Lword := _, fd_Lword := _, F_Lword := fun_mk (st := s_Lword) l_Lword c_Lword k_Lword,
    g_Lword := PySem.W.mg_of X G a_Lword,
    b_Lword := (fun_mk (st := s_Lword) l_Lword c_Lword k_Lword).binds (ps := ["_law_rows", "_law_place"]) fun _ _ _ _ _ _ us hl => match us, hl with | [_, _], _ => rfl,
    f_Lcause := _, fd_Lcause := _, F_Lcause := fun_mk (st := s_Lcause) l_Lcause c_Lcause k_Lcause,
    g_Lcause := PySem.W.mg_of X G a_Lcause,
    b_Lcause := (fun_mk (st := s_Lcause) l_Lcause c_Lcause k_Lcause).binds (ps := ["_law_way"]) fun _ _ _ _ _ _ us hl => match us, hl with | [_], _ => rfl,
    f_Lsecond := _, fd_Lsecond := _, F_Lsecond := fun_mk (st := s_Lsecond) l_Lsecond c_Lsecond k_Lsecond,
    g_Lsecond := PySem.W.mg_of X G a_Lsecond,
    b_Lsecond := (fun_mk (st := s_Lsecond) l_Lsecond c_Lsecond k_Lsecond).binds (ps := ["_law_word_here", "_law_address", "_law_way", "_law_is_user"]) fun _ _ _ _ _ _ us hl => match us, hl with | [_, _, _, _], _ => rfl,
    f_Ltold := _, fd_Ltold := _, F_Ltold := fun_mk (st := s_Ltold) l_Ltold c_Ltold k_Ltold,
    g_Ltold := PySem.W.mg_of X G a_Ltold,
    b_Ltold := (fun_mk (st := s_Ltold) l_Ltold c_Ltold k_Ltold).binds (ps := ["_law_rows", "_law_root", "_law_address", "_law_way", "_law_is_user"]) fun _ _ _ _ _ _ us hl => match us, hl with | [_, _, _, _, _], _ => rfl,
    f_Lentry := _, fd_Lentry := _, F_Lentry := fun_mk (st := s_Lentry) l_Lentry c_Lentry k_Lentry,
    g_Lentry := PySem.W.mg_of X G a_Lentry,
    b_Lentry := (fun_mk (st := s_Lentry) l_Lentry c_Lentry k_Lentry).binds (ps := ["_law_pot_here", "_law_frame"]) fun _ _ _ _ _ _ us hl => match us, hl with | [_, _], _ => rfl,
    f_Lput := _, fd_Lput := _, F_Lput := fun_mk (st := s_Lput) l_Lput c_Lput k_Lput,
    g_Lput := PySem.W.mg_of X G a_Lput,
    b_Lput := (fun_mk (st := s_Lput) l_Lput c_Lput k_Lput).binds (ps := ["_law_pot_here", "_law_memory", "_law_rows", "_law_place", "_law_word_here"]) fun _ _ _ _ _ _ us hl => match us, hl with | [_, _, _, _, _], _ => rfl,
    f_Llean := _, fd_Llean := _, F_Llean := fun_mk (st := s_Llean) l_Llean c_Llean k_Llean,
    g_Llean := PySem.W.mg_of X G a_Llean,
    b_Llean := (fun_mk (st := s_Llean) l_Llean c_Llean k_Llean).binds (ps := ["_law_rows", "_law_root", "_law_place", "_law_pages"]) fun _ _ _ _ _ _ us hl => match us, hl with | [_, _, _, _], _ => rfl,
    f_Lright := _, fd_Lright := _, F_Lright := fun_mk (st := s_Lright) l_Lright c_Lright k_Lright,
    g_Lright := PySem.W.mg_of X G a_Lright,
    b_Lright := (fun_mk (st := s_Lright) l_Lright c_Lright k_Lright).binds (ps := ["_law_pot_here"]) fun _ _ _ _ _ _ us hl => match us, hl with | [_], _ => rfl,
    f_law := _, fd_law := _, F_law := fun_mk (st := s_law) l_law c_law k_law,
    g_law := PySem.W.mg_of X G a_law,
    b_law := (fun_mk (st := s_law) l_law c_law k_law).binds (ps := ["_law_script"]) fun _ _ _ _ _ _ us hl => match us, hl with | [_], _ => rfl,
    m_abs := PySem.W.mg_none_of X G z_abs,
    m_bool := PySem.W.mg_none_of X G z_bool,
    m_divmod := PySem.W.mg_none_of X G z_divmod,
    m_int := PySem.W.mg_none_of X G z_int,
    m_isinstance := PySem.W.mg_none_of X G z_isinstance,
    m_len := PySem.W.mg_none_of X G z_len,
    m_max := PySem.W.mg_none_of X G z_max,
    m_range := PySem.W.mg_none_of X G z_range,
    m_sorted := PySem.W.mg_none_of X G z_sorted,
    m_str := PySem.W.mg_none_of X G z_str,
    c_NO_CAUSE := ⟨_, PySem.W.mg_of X G x_NO_CAUSE⟩,
    c_NO_SUCH_PLACE := ⟨_, PySem.W.mg_of X G x_NO_SUCH_PLACE⟩,
    c__WORD_BITS := ⟨_, PySem.W.mg_of X G x__WORD_BITS⟩,
    c_WORDS := ⟨_, PySem.W.mg_of X G x_WORDS⟩,
    c_ADDRESSES := ⟨_, PySem.W.mg_of X G x_ADDRESSES⟩,
    c_PLACES := ⟨_, PySem.W.mg_of X G x_PLACES⟩,
    c_MEMORY_PLACES := ⟨_, PySem.W.mg_of X G x_MEMORY_PLACES⟩,
    c_PAGE_WORDS := ⟨_, PySem.W.mg_of X G x_PAGE_WORDS⟩,
    c__PAGES := ⟨_, PySem.W.mg_of X G x__PAGES⟩,
    c__FRAMES := ⟨_, PySem.W.mg_of X G x__FRAMES⟩,
    c__USERS_FLAG := ⟨_, PySem.W.mg_of X G x__USERS_FLAG⟩,
    c__WRITABLE_FLAG := ⟨_, PySem.W.mg_of X G x__WRITABLE_FLAG⟩,
    c__THERE_BIT := ⟨_, PySem.W.mg_of X G x__THERE_BIT⟩,
    c__FLAGS_BIT := ⟨_, PySem.W.mg_of X G x__FLAGS_BIT⟩,
    c__FLAGS_BITS := ⟨_, PySem.W.mg_of X G x__FLAGS_BITS⟩,
    c__FRAME_BITS := ⟨_, PySem.W.mg_of X G x__FRAME_BITS⟩,
    ic_Memory := ic_Memory,
    in_Memory := in_Memory,
    it_Memory := it_Memory,
    im_Memory := im_Memory,
    D_W := D_W,
    es_W := es_W,
    nn_W := nn_W,
    g_W := PySem.W.mg_of X G aW,
    k_W := ⟨lW, yW, sW⟩,
    w0_W := ⟨_, w0W⟩,
    w1_W := ⟨_, w1W⟩,
    w2_W := ⟨_, w2W⟩ }
  exact ⟨_, fun s v => .of_eq rfl, fun base _ _ => ok_law (P := l.prog) (w := w) (base := base) T⟩
theorem walk {l : PySem.W.OpenLaw} {q : Program} {loose : List Str} {XP : (Str → Option Value) → Heap → Prop} {YP : World → Heap → Prop} {d : DefRec} {K : Params → PySem.W.Frag} (hn : l.most = some 63) (hdf : d.params.defaults = [])
    (hY : ∀ (w : World) (h : Heap), YP w h → (K w.params).In h)
    (F : ∀ (w : World) (mg : Str → Option Value) (fa : Addr) (h : Heap), (K w.params).In h → h.Ns mainGlobals mg → mg d.name = some (.ref fa) →
      ∃ fd : FuncData, (∀ (s : Shared) (u : Value), BindsTo s fd ⟨[u], []⟩ [("_law_script", u)]) ∧ ∀ base : Heap, (K w.params).In base → base.Ns mainGlobals mg → FnOk l.prog w (K w.params) mg base CX0 13 fa fd ["_law_script"] (sp_law (K w.params))) :
    PySem.W.WalkO q loose XP YP l.row.toRowW d [] (fun f vs => PySem.call f vs) :=
  L2.walk_of (n := 63) (k := 13) (x := "_law_script") (CX := fun _ => CX0) (sp := fun w => sp_law (K w.params)) hn (by decide) hdf ⟨rfl, by decide, by decide⟩ hY F (fun _ _ a ns hl _ hS => ⟨a, ns, rfl, hS, hl, fun _ => rfl⟩) fun _ _ _ _ _ z => z
end K38
open PySem PySem.W PyProof.Rows
set_option maxRecDepth 100000 in
set_option maxHeartbeats 0 in
theorem PySem.Challenge.cw_orderlycore_k38_whole_leans_holds : PySem.Challenge.rw_orderlycore_k38_whole_leans.Holds := by
  w_on; o_law; k_head; (case hw => w_witness2)
  k_fill
  refine K38.walk (l := PySem.Challenge.rw_orderlycore_k38_whole_leans) rfl rfl (fun w h Y => PySem.W.kIn_of Y) ?F
  case F =>
    intro w mg fa h KX G hmg
    refine' K38.all_mk KX G hmg ?aC_Memory ?pg_Memory ?hd_Memory ?po_Memory ?sa_Memory ?mk_Memory ?kc_Memory ?n_Memory_words ?a_is_integer ?l_is_integer ?c_is_integer ?k_is_integer ?a_is_between ?l_is_between ?c_is_between ?k_is_between ?a_is_word ?l_is_word ?c_is_word ?k_is_word ?a_is_address ?l_is_address ?c_is_address ?k_is_address ?a_is_place ?l_is_place ?c_is_place ?k_is_place ?a_need_word ?l_need_word ?c_need_word ?k_need_word ?a_need_address ?l_need_address ?c_need_address ?k_need_address ?a_need_place ?l_need_place ?c_need_place ?k_need_place ?a_need_bits ?l_need_bits ?c_need_bits ?k_need_bits ?a_bits ?l_bits ?c_bits ?k_bits ?a_Memory_init ?i_Memory_init ?l_Memory_init ?c_Memory_init ?k_Memory_init ?a_Memory_word ?i_Memory_word ?l_Memory_word ?c_Memory_word ?k_Memory_word ?a_Memory_put ?i_Memory_put ?l_Memory_put ?c_Memory_put ?k_Memory_put ?a_need_memory ?l_need_memory ?c_need_memory ?k_need_memory ?a_is_memory_place ?l_is_memory_place ?c_is_memory_place ?k_is_memory_place ?a_need_memory_place ?l_need_memory_place ?c_need_memory_place ?k_need_memory_place ?a_need_frame ?l_need_frame ?c_need_frame ?k_need_frame ?a_need_way ?l_need_way ?c_need_way ?k_need_way ?a_need_side ?l_need_side ?c_need_side ?k_need_side ?a_entry_parts ?l_entry_parts ?c_entry_parts ?k_entry_parts ?a_by_entry ?l_by_entry ?c_by_entry ?k_by_entry ?a_translated ?l_translated ?c_translated ?k_translated ?a_walked ?l_walked ?c_walked ?k_walked ?a_page_walk ?l_page_walk ?c_page_walk ?k_page_walk ?a_leaning ?l_leaning ?c_leaning ?k_leaning ?a__is_frame ?l__is_frame ?c__is_frame ?k__is_frame ?a__lets ?l__lets ?c__lets ?k__lets ?a__entry_place ?l__entry_place ?c__entry_place ?k__entry_place ?a_Lpot ?l_Lpot ?c_Lpot ?k_Lpot ?a_Ldraw ?l_Ldraw ?c_Ldraw ?k_Ldraw ?a_Lpick ?l_Lpick ?c_Lpick ?k_Lpick ?a_Lword ?l_Lword ?c_Lword ?k_Lword ?a_Lcause ?l_Lcause ?c_Lcause ?k_Lcause ?a_Lsecond ?l_Lsecond ?c_Lsecond ?k_Lsecond ?a_Ltold ?l_Ltold ?c_Ltold ?k_Ltold ?a_Lentry ?l_Lentry ?c_Lentry ?k_Lentry ?a_Lput ?l_Lput ?c_Lput ?k_Lput ?a_Llean ?l_Llean ?c_Llean ?k_Llean ?a_Lright ?l_Lright ?c_Lright ?k_Lright ?a_law ?l_law ?c_law ?k_law ?z_abs ?z_bool ?z_divmod ?z_int ?z_isinstance ?z_len ?z_max ?z_range ?z_sorted ?z_str ?x_NO_CAUSE ?x_NO_SUCH_PLACE ?x__WORD_BITS ?x_WORDS ?x_ADDRESSES ?x_PLACES ?x_MEMORY_PLACES ?x_PAGE_WORDS ?x__PAGES ?x__FRAMES ?x__USERS_FLAG ?x__WRITABLE_FLAG ?x__THERE_BIT ?x__FLAGS_BIT ?x__FLAGS_BITS ?x__FRAME_BITS ?ic_Memory ?in_Memory ?it_Memory ?im_Memory ?aW ?lW ?yW ?sW ?w0W ?w1W ?w2W
    (case aC_Memory => k_is)
    (case pg_Memory => k_is)
    (case hd_Memory => k_is)
    (case po_Memory => k_is)
    (case sa_Memory => k_is)
    (case mk_Memory => k_is)
    (case kc_Memory => k_is)
    (case n_Memory_words => k_is)
    (case a_is_integer => k_is)
    (case l_is_integer => k_is)
    (case c_is_integer => k_is)
    (case k_is_integer => k_is)
    (case a_is_between => k_is)
    (case l_is_between => k_is)
    (case c_is_between => k_is)
    (case k_is_between => k_is)
    (case a_is_word => k_is)
    (case l_is_word => k_is)
    (case c_is_word => k_is)
    (case k_is_word => k_is)
    (case a_is_address => k_is)
    (case l_is_address => k_is)
    (case c_is_address => k_is)
    (case k_is_address => k_is)
    (case a_is_place => k_is)
    (case l_is_place => k_is)
    (case c_is_place => k_is)
    (case k_is_place => k_is)
    (case a_need_word => k_is)
    (case l_need_word => k_is)
    (case c_need_word => k_is)
    (case k_need_word => k_is)
    (case a_need_address => k_is)
    (case l_need_address => k_is)
    (case c_need_address => k_is)
    (case k_need_address => k_is)
    (case a_need_place => k_is)
    (case l_need_place => k_is)
    (case c_need_place => k_is)
    (case k_need_place => k_is)
    (case a_need_bits => k_is)
    (case l_need_bits => k_is)
    (case c_need_bits => k_is)
    (case k_need_bits => k_is)
    (case a_bits => k_is)
    (case l_bits => k_is)
    (case c_bits => k_is)
    (case k_bits => k_is)
    (case a_Memory_init => k_is)
    (case i_Memory_init => k_is)
    (case l_Memory_init => k_is)
    (case c_Memory_init => k_is)
    (case k_Memory_init => k_is)
    (case a_Memory_word => k_is)
    (case i_Memory_word => k_is)
    (case l_Memory_word => k_is)
    (case c_Memory_word => k_is)
    (case k_Memory_word => k_is)
    (case a_Memory_put => k_is)
    (case i_Memory_put => k_is)
    (case l_Memory_put => k_is)
    (case c_Memory_put => k_is)
    (case k_Memory_put => k_is)
    (case a_need_memory => k_is)
    (case l_need_memory => k_is)
    (case c_need_memory => k_is)
    (case k_need_memory => k_is)
    (case a_is_memory_place => k_is)
    (case l_is_memory_place => k_is)
    (case c_is_memory_place => k_is)
    (case k_is_memory_place => k_is)
    (case a_need_memory_place => k_is)
    (case l_need_memory_place => k_is)
    (case c_need_memory_place => k_is)
    (case k_need_memory_place => k_is)
    (case a_need_frame => k_is)
    (case l_need_frame => k_is)
    (case c_need_frame => k_is)
    (case k_need_frame => k_is)
    (case a_need_way => k_is)
    (case l_need_way => k_is)
    (case c_need_way => k_is)
    (case k_need_way => k_is)
    (case a_need_side => k_is)
    (case l_need_side => k_is)
    (case c_need_side => k_is)
    (case k_need_side => k_is)
    (case a_entry_parts => k_is)
    (case l_entry_parts => k_is)
    (case c_entry_parts => k_is)
    (case k_entry_parts => k_is)
    (case a_by_entry => k_is)
    (case l_by_entry => k_is)
    (case c_by_entry => k_is)
    (case k_by_entry => k_is)
    (case a_translated => k_is)
    (case l_translated => k_is)
    (case c_translated => k_is)
    (case k_translated => k_is)
    (case a_walked => k_is)
    (case l_walked => k_is)
    (case c_walked => k_is)
    (case k_walked => k_is)
    (case a_page_walk => k_is)
    (case l_page_walk => k_is)
    (case c_page_walk => k_is)
    (case k_page_walk => k_is)
    (case a_leaning => k_is)
    (case l_leaning => k_is)
    (case c_leaning => k_is)
    (case k_leaning => k_is)
    (case a__is_frame => k_is)
    (case l__is_frame => k_is)
    (case c__is_frame => k_is)
    (case k__is_frame => k_is)
    (case a__lets => k_is)
    (case l__lets => k_is)
    (case c__lets => k_is)
    (case k__lets => k_is)
    (case a__entry_place => k_is)
    (case l__entry_place => k_is)
    (case c__entry_place => k_is)
    (case k__entry_place => k_is)
    (case a_Lpot => k_is)
    (case l_Lpot => k_is)
    (case c_Lpot => k_is)
    (case k_Lpot => k_is)
    (case a_Ldraw => k_is)
    (case l_Ldraw => k_is)
    (case c_Ldraw => k_is)
    (case k_Ldraw => k_is)
    (case a_Lpick => k_is)
    (case l_Lpick => k_is)
    (case c_Lpick => k_is)
    (case k_Lpick => k_is)
    (case a_Lword => k_is)
    (case l_Lword => k_is)
    (case c_Lword => k_is)
    (case k_Lword => k_is)
    (case a_Lcause => k_is)
    (case l_Lcause => k_is)
    (case c_Lcause => k_is)
    (case k_Lcause => k_is)
    (case a_Lsecond => k_is)
    (case l_Lsecond => k_is)
    (case c_Lsecond => k_is)
    (case k_Lsecond => k_is)
    (case a_Ltold => k_is)
    (case l_Ltold => k_is)
    (case c_Ltold => k_is)
    (case k_Ltold => k_is)
    (case a_Lentry => k_is)
    (case l_Lentry => k_is)
    (case c_Lentry => k_is)
    (case k_Lentry => k_is)
    (case a_Lput => k_is)
    (case l_Lput => k_is)
    (case c_Lput => k_is)
    (case k_Lput => k_is)
    (case a_Llean => k_is)
    (case l_Llean => k_is)
    (case c_Llean => k_is)
    (case k_Llean => k_is)
    (case a_Lright => k_is)
    (case l_Lright => k_is)
    (case c_Lright => k_is)
    (case k_Lright => k_is)
    (case a_law => k_is)
    (case l_law => k_is)
    (case c_law => k_is)
    (case k_law => k_is)
    (case z_abs => k_is)
    (case z_bool => k_is)
    (case z_divmod => k_is)
    (case z_int => k_is)
    (case z_isinstance => k_is)
    (case z_len => k_is)
    (case z_max => k_is)
    (case z_range => k_is)
    (case z_sorted => k_is)
    (case z_str => k_is)
    (case x_NO_CAUSE => k_is)
    (case x_NO_SUCH_PLACE => k_is)
    (case x__WORD_BITS => k_is)
    (case x_WORDS => k_is)
    (case x_ADDRESSES => k_is)
    (case x_PLACES => k_is)
    (case x_MEMORY_PLACES => k_is)
    (case x_PAGE_WORDS => k_is)
    (case x__PAGES => k_is)
    (case x__FRAMES => k_is)
    (case x__USERS_FLAG => k_is)
    (case x__WRITABLE_FLAG => k_is)
    (case x__THERE_BIT => k_is)
    (case x__FLAGS_BIT => k_is)
    (case x__FLAGS_BITS => k_is)
    (case x__FRAME_BITS => k_is)
    (case ic_Memory => k_is)
    (case in_Memory => k_is)
    (case it_Memory => k_is)
    (case im_Memory => k_is)
    (case aW => k_is)
    (case lW => k_is)
    (case yW => first | exact ⟨⟨_, _, rfl, rfl⟩, ⟨_, _, rfl, rfl⟩, ⟨_, _, rfl, rfl⟩, trivial⟩ | (refine ⟨⟨_, _, rfl, ?_⟩, ⟨_, _, rfl, ?_⟩, ⟨_, _, rfl, ?_⟩, trivial⟩ <;> rfl))
    (case sW => first | rfl | decide)
    (case w0W => k_is)
    (case w1W => k_is)
    (case w2W => k_is)

