import PyProof.Rows.All
import Wide.All
import OpenK.AllK
import Wide.FinOn
import HandS.Base
import HandS.Call
import HandS.List
import HandS.Comp
import HandS.Conv
import HandS.Text
import HandS.Words
import HandS.WordsList
import HandS.Ends
import HandS.SortInts
import HandS.Wide
import HandS.IsInst
import HandS.More
import HandS.Evl
import HandS.Defaults
import HandS.Zip
import HandS.ExcOwn
import HandS.Iter
import HandS.Style
import KE.KDictZip
import PyProof.Rows.RegZipMeets
import PyProof.ReprRoads
import PyProof.StrLawsIn
import HandS.Walk
import PyProof.Rows.StrInSeq
import PyProof.EqAt
import PyProof.EqKinds
import PyProof.CollectStr
import PyProof.Rows.SortShellAny
import HandS.Dict
import HandS.ExcValue
import HandS.Rev
import KE.GoesMore
import KE.GoesZip
import PySem.Challenge.RW_lastother_k06_whole_renamed_and_reversed
set_option Elab.async false
set_option linter.all false
set_option maxRecDepth 100000
set_option maxHeartbeats 4000000
/-! Lineups over the hand layer: what stands where, and rules of my own. -/
namespace LX
open PySem L2

/-! ### own operator rules -/
def CPowW (i j : Int) : Prop := 0 ≤ j ∧ j ≤ 1000 ∧ i.natAbs < 2 ^ 1000
theorem op_powW {X : Cx} : OpR X (binaryOp .Pow) (rI CPowW fun i j => .int (i ^ j.toNat)) := opI fun i j _ _ _ _ _ hc q => by
  refine PyProof.Rows.pow_int hc.1 ?_ q
  have h1 : Builtin.Int.intBits i ≤ 1000 := PyProof.Rows.intBits_le hc.2.2
  have h2 : (Builtin.Int.intBits i : Int) ≤ 1000 := by omega
  have h3 := Int.mul_le_mul h2 hc.2.1 hc.1 (by decide : (0:Int) ≤ 1000)
  exact Int.le_trans h3 (by decide)

/-! ### the rules that speak of the written part, with its name -/
section
variable {X : Cx} {K : PySem.W.Frag} {e o : Expr} {es : List Expr} {te to : TE} {t : TA} {pos apos cpos : Pos}
theorem kix_list (h : X.K = K := by rfl) : IxR X (rIxL K) := h ▸ ix_list
theorem kix_tup (h : X.K = K := by rfl) : IxR X (rIxT K) := h ▸ ix_tup
theorem ksl_list (h : X.K = K := by rfl) : SlR X (rSlL K) := h ▸ sl_list
def qLen (K : PySem.W.Frag) : List V → Hp → VK → Prop := fun xs H Q => ∃ p ys, xs = [.ref p] ∧ (SqL K H p ys ∨ SqT K H p ys) ∧ Q (.int ys.length) H
theorem klen (h : X.K = K := by rfl) : CallR X (.builtin "len") (qLen K) := h ▸ call_len_seq
def qList (K : PySem.W.Frag) : List V → Hp → VK → Prop := fun xs H Q => ∃ p ys, xs = [.ref p] ∧ (SqL K H p ys ∨ SqT K H p ys) ∧ ∀ l, H l = none → Q (.ref l) (upd H l (.lst ys))
theorem klist (h : X.K = K := by rfl) : CallR X (.type "list") (qList K) := h ▸ call_list_of
theorem ksorted (h : X.K = K := by rfl) : CallR X (.builtin "sorted") (rSortedI K) := h ▸ cr_sortedI
theorem kall (hc : X.calm = true) (h : X.K = K := by rfl) : CallR X (.builtin "all") (rAll K) := h ▸ cr_all hc
theorem kany (hc : X.calm = true) (h : X.K = K := by rfl) : CallR X (.builtin "any") (rAny K) := h ▸ cr_any hc
theorem ksum (hc : X.calm = true) (h : X.K = K := by rfl) : CallR X (.builtin "sum") (rSum K) := h ▸ cr_sum hc
theorem kisi (h : X.K = K := by rfl) : CallR X (.builtin "isinstance") (rIsi K) := h ▸ call_isi
theorem kisiT (h : X.K = K := by rfl) : CallR X (.builtin "isinstance") (rIsiT K) := h ▸ call_isiT
theorem kin (h : X.K = K := by rfl) : OpR X (compareOp .In) (rIn K false) := h ▸ op_in_seq
theorem knotIn (h : X.K = K := by rfl) : OpR X (compareOp .NotIn) (rIn K true) := h ▸ op_notIn_seq
theorem keqD (hu : X.A.units + 64 < cLine) (h : X.K = K := by rfl) : OpR X (compareOp .Eq) (rEqD K) := h ▸ op_eqD hu
theorem kneD (hu : X.A.units + 64 < cLine) (h : X.K = K := by rfl) : OpR X (compareOp .NotEq) (rNeD K) := h ▸ op_neD hu
theorem kpi_list {tg : Expr} (he : PE X e te) (h : X.K = K := by rfl) : PI X tg e (iList K te) := h ▸ pi_list he
theorem kbm {T id : String} {name : Str} {r : V → List V → Hp → VK → Prop} (p1 : PySem.PlainAttrs T) (p2 : PySem.Slot T name id) (p3 : typeOf (.builtin id) = pure (.type "method_descriptor")) (m : MtR X id r) (ho : PE X o to) (ha : PA X (e :: es) t)
    (q1 : attributeBase o name X.env (eval o X.env) = eval o X.env := by rfl)
    (q2 : ((backTo cpos (starEach (e :: es) X.env)).all (fun y => !y.1) && (backToKw cpos (keywordEach [] X.env)).all (fun y => y.1.isSome) && decide ((e :: es).length + ([] : List Keyword).length + (if ([] : List Keyword).isEmpty then 0 else 1) < 30)) = true := by rfl)
    (q3 : (apos.endLine == cpos.line) = true := by rfl) (q4 : starEach (e :: es) X.env = (false, eval e X.env) :: starEach es X.env := by rfl) (q5 : (backTo cpos (starEach es X.env)).any (·.1) = false := by rfl) (h : X.K = K := by rfl) :
    PE X (.Call (.Attribute o name apos) (e :: es) [] cpos) (tBM K T r to t) := h ▸ pe_bm p1 p2 p3 m ho ha q1 q2 q3 q4 q5
theorem kbm0 {T id : String} {name : Str} {r : V → List V → Hp → VK → Prop} (p1 : PySem.PlainAttrs T) (p2 : PySem.Slot T name id) (p3 : typeOf (.builtin id) = pure (.type "method_descriptor")) (m : MtR X id r) (ho : PE X o to)
    (q1 : attributeBase o name X.env (eval o X.env) = eval o X.env := by rfl) (q3 : (apos.endLine == cpos.line) = true := by rfl) (h : X.K = K := by rfl) :
    PE X (.Call (.Attribute o name apos) [] [] cpos) (tBM0 K T r to) := h ▸ pe_bm0 p1 p2 p3 m ho q1 q3
def qTru (K : PySem.W.Frag) (ta : TE) : TT := fun σ H Q => ta σ H fun x H' => ∃ k, TruV K x H' k ∧ Q k H'
theorem kpt_truth {b : Expr} {tb : TE} (hb : PE X b tb) (g : ∀ whole, isTrue b X.env whole = (do let v ← whole; standAt b.pos; holding [v] (truthy v))) (h : X.K = K := by rfl) : PT X b (qTru K tb) := h ▸ pt_truth hb g
theorem kpg_tup {k n : Nat} {u : TGs} (hc : X.calm = true) (hp : PGs X es u) (hn : (assignEach es X.env).length = n := by rfl) (hst : (assignEach es X.env).findIdx? (·.1) = none := by rfl) (h : X.K = K := by rfl) :
    PG X (.Tuple es k pos) (gTup K n u) := h ▸ pg_tup hc hp hn hst
end

/-! ### heaps -/
def Same' (p : Addr) (H H' : Hp) : Prop := ∀ b o, H b = some o → b ≠ p → H' b = some o
theorem Same'.refl (p : Addr) (H : Hp) : Same' p H H := fun _ _ h _ => h
theorem Same'.trans {p : Addr} {H H1 H2 : Hp} (a : Same' p H H1) (b : Same' p H1 H2) : Same' p H H2 := fun c o h n => b c o (a c o h n) n
theorem Same'.upd {p : Addr} {H : Hp} {o : HO} : Same' p H (upd H p o) := fun b u h n => by
  rw [upd_ne n]
  exact h
/-- a row of people: person, color (a code) -/
abbrev Row := List (Nat × Nat)
abbrev sg (c : Nat) : V := .str ⟨#[c]⟩
def oV : Option Nat → V
  | some c => sg c
  | none => .non
abbrev pr (e : Nat × Nat) : List V := [.int (e.1 : Int), sg e.2]
def TupsAt (H : Hp) : List Addr → Row → Prop
  | [], [] => True
  | t :: ts, e :: r => H t = some (.tup (pr e)) ∧ TupsAt H ts r
  | _, _ => False
theorem TupsAt.len {H : Hp} : ∀ {ts : List Addr} {r : Row}, TupsAt H ts r → ts.length = r.length
  | [], [], _ => rfl
  | _ :: ts, _ :: r, h => congrArg (· + 1) (TupsAt.len (ts := ts) (r := r) h.2)
  | [], _ :: _, h => h.elim
  | _ :: _, [], h => h.elim
theorem TupsAt.mono {H H' : Hp} : ∀ {ts : List Addr} {r : Row}, TupsAt H ts r → (∀ b xs, H b = some (.tup xs) → H' b = some (.tup xs)) → TupsAt H' ts r
  | [], [], _, _ => True.intro
  | _ :: ts, _ :: r, h, k => ⟨k _ _ h.1, TupsAt.mono (ts := ts) (r := r) h.2 k⟩
  | [], _ :: _, h, _ => h.elim
  | _ :: _, [], h, _ => h.elim
theorem TupsAt.get {H : Hp} : ∀ {ts : List Addr} {r : Row} {i : Nat} {t : Addr}, TupsAt H ts r → ts[i]? = some t → ∃ e, r[i]? = some e ∧ H t = some (.tup (pr e))
  | [], [], i, t, _, h => by simp at h
  | _ :: ts, e :: r, 0, t, h, q => by
    simp at q
    subst q
    exact ⟨e, rfl, h.1⟩
  | _ :: ts, _ :: r, i + 1, t, h, q => by
    simp at q
    obtain ⟨e, h1, h2⟩ := TupsAt.get (ts := ts) (r := r) h.2 q
    exact ⟨e, by simpa using h1, h2⟩
  | [], _ :: _, _, _, h, _ => h.elim
  | _ :: _, [], _, _, h, _ => h.elim
theorem TupsAt.app {H : Hp} : ∀ {ts us : List Addr} {r q : Row}, TupsAt H ts r → TupsAt H us q → TupsAt H (ts ++ us) (r ++ q)
  | [], _, [], _, _, h => h
  | _ :: ts, us, _ :: r, q, h, k => ⟨h.1, TupsAt.app (ts := ts) (r := r) h.2 k⟩
  | [], _, _ :: _, _, h, _ => h.elim
  | _ :: _, _, [], _, h, _ => h.elim
theorem TupsAt.take {H : Hp} : ∀ {ts : List Addr} {r : Row} (n : Nat), TupsAt H ts r → TupsAt H (ts.take n) (r.take n)
  | _, _, 0, _ => True.intro
  | [], [], _ + 1, _ => True.intro
  | _ :: ts, _ :: r, n + 1, h => ⟨h.1, TupsAt.take (ts := ts) (r := r) n h.2⟩
  | [], _ :: _, _ + 1, h => h.elim
  | _ :: _, [], _ + 1, h => h.elim
theorem TupsAt.drop {H : Hp} : ∀ {ts : List Addr} {r : Row} (n : Nat), TupsAt H ts r → TupsAt H (ts.drop n) (r.drop n)
  | _, _, 0, h => h
  | [], [], _ + 1, _ => True.intro
  | _ :: ts, _ :: r, n + 1, h => TupsAt.drop (ts := ts) (r := r) n h.2
  | [], _ :: _, _ + 1, h => h.elim
  | _ :: _, [], _ + 1, h => h.elim
theorem TupsAt.one {H : Hp} {t : Addr} {e : Nat × Nat} (h : H t = some (.tup (pr e))) : TupsAt H [t] [e] := ⟨h, True.intro⟩
def RowAt (H : Hp) (a : Addr) (r : Row) : Prop := ∃ ts : List Addr, H a = some (.lst (ts.map V.ref)) ∧ TupsAt H ts r
theorem sTups {H H' : Hp} (s : Same H H') : ∀ b xs, H b = some (.tup xs) → H' b = some (.tup xs) := fun b xs h => s b _ h
theorem RowAt.same {H H' : Hp} {a : Addr} {r : Row} (h : RowAt H a r) (s : Same H H') : RowAt H' a r :=
  let ⟨ts, h1, h2⟩ := h
  ⟨ts, s _ _ h1, h2.mono (sTups s)⟩
/-- a list at p is not the tuples' -/
theorem RowAt.same' {H H' : Hp} {a p : Addr} {r : Row} {xs : List V} (h : RowAt H a r) (s : Same' p H H') (hp : H p = some (.lst xs)) (n : a ≠ p) : RowAt H' a r :=
  let ⟨ts, h1, h2⟩ := h
  ⟨ts, s _ _ h1 n, h2.mono fun b ys e => s b _ e fun q => by
    rw [q, hp] at e
    cases e⟩
theorem sNew {H : Hp} {p : Addr} {o : HO} (h : H p = none) : Same H (upd H p o) := fun a u e => by
  rw [upd_ne (ne_of_none e h)]
  exact e
/-- a change of an object that H does not know -/
theorem sUpd {H H' : Hp} {p : Addr} {o : HO} (s : Same H H') (h : H p = none) : Same H (upd H' p o) := fun a u e => by
  rw [upd_ne (ne_of_none e h)]
  exact s a u e
theorem sTo {H H' : Hp} (p : Addr) (s : Same H H') : Same' p H H' := fun b o h _ => s b o h

/-! ### the draws' bag -/
structure Src (H : Hp) (p : Addr) : Prop where
  ex : ∃ s0 s1 s2 : Int, H p = some (.lst [.int s0, .int s1, .int s2]) ∧ s1.natAbs < 2 ^ 400
theorem Src.same {H H' : Hp} {p : Addr} (h : Src H p) (s : Same H H') : Src H' p :=
  let ⟨s0, s1, s2, h1, h2⟩ := h.ex
  ⟨s0, s1, s2, s _ _ h1, h2⟩
theorem Src.lst {H : Hp} {p : Addr} (h : Src H p) : ∃ xs, H p = some (.lst xs) :=
  let ⟨s0, s1, s2, h1, _⟩ := h.ex
  ⟨_, h1⟩

/-! ### readings, step by step -/
section
variable {σ : St} {H : Hp} {Q : VK} {v x y : V} {ta tb tc te : TE} {r r' : R2} {i : Nat} {K : PySem.W.Frag} {t u : TT} {t1 t2 : TS} {D : Ends} {g : TG} {QB : Bool → Hp → Prop} {QA : List V → Hp → Prop} {tr : TA}
theorem rd_var (e : σ[i]? = some (some v)) (q : Q v H) : tVar i σ H Q := ⟨v, e, q⟩
theorem rd_c (q : Q v H) : tC v σ H Q := q
theorem rd_op (q : ta σ H fun x H1 => tb σ H1 fun y H2 => r x y H2 Q) : tOp r ta tb σ H Q := q
theorem rd_un {r : V → Hp → VK → Prop} (q : ta σ H fun x H1 => r x H1 Q) : tUn r ta σ H Q := q
theorem rd_I0 {f : Int → Int → V} {a b : Int} (q : Q (f a b) H) : rI0 f (.int a) (.int b) H Q := ⟨a, b, rfl, rfl, q⟩
theorem rd_I {C : Int → Int → Prop} {f : Int → Int → V} {a b : Int} (c : C a b) (q : Q (f a b) H) : rI C f (.int a) (.int b) H Q := ⟨a, b, rfl, rfl, c, q⟩
theorem rd_U {f : Int → V} {a : Int} (q : Q (f a) H) : rU f (.int a) H Q := ⟨a, rfl, q⟩
theorem rd_eq (s : scal x y = true) (q : Q (.bl (decide (x = y))) H) : rEq x y H Q := ⟨s, q⟩
theorem rd_ne (s : scal x y = true) (q : Q (.bl (!decide (x = y))) H) : rNe x y H Q := ⟨s, q⟩
theorem rd_test (q : te σ H fun x H' => ∃ k, x = .bl k ∧ QB k H') : tTest te σ H QB := q
theorem rd_tB (q : te σ H fun x H' => ∃ k, x = .bl k ∧ QB k H') : tB te σ H QB := q
theorem rd_bl {b : Bool} {R : Bool → Prop} (q : R b) : ∃ k, V.bl b = .bl k ∧ R k := ⟨b, rfl, q⟩
theorem rd_dec {p A B : Prop} [Decidable p] (h1 : p → A) (h2 : ¬ p → B) : if decide p = true then A else B := by
  by_cases h : p
  · rw [decide_eq_true h]
    exact iteT (h1 h)
  · rw [decide_eq_false h]
    exact iteF (h2 h)
theorem rd_ndec {p A B : Prop} [Decidable p] (h1 : ¬ p → A) (h2 : p → B) : if (!decide p) = true then A else B := by
  by_cases h : p
  · rw [decide_eq_true h]
    exact iteF (h2 h)
  · rw [decide_eq_false h]
    exact iteT (h1 h)
theorem rd_nt {A B : Prop} (h : B) : if (!true) = true then A else B := iteF h
theorem rd_nf {A B : Prop} (h : A) : if (!false) = true then A else B := iteT h
theorem rd_yes {p A B : Prop} [Decidable p] (h : p) (q : A) : if decide p = true then A else B := rd_dec (fun _ => q) fun n => absurd h n
theorem rd_no {p A B : Prop} [Decidable p] (h : ¬ p) (q : B) : if decide p = true then A else B := rd_dec (fun n => absurd n h) fun _ => q
theorem rd_2i {a b : Int} {R : Int → Int → Prop} (q : R a b) : ∃ i j, [V.int a, V.int b] = [V.int i, V.int j] ∧ R i j := ⟨a, b, rfl, q⟩
theorem rd_chain (q : ta σ H fun x H1 => tb σ H1 fun y H2 => r x y H2 fun z H3 => ∃ k, z = .bl k ∧ (if k = true then tc σ H3 fun w' H4 => r' y w' H4 Q else Q (.bl false) H3)) : tChain r r' ta tb tc σ H Q := q
theorem rd_and (q : t σ H fun c H1 => if c = true then u σ H1 QB else QB false H1) : tAnd t u σ H QB := q
theorem rd_or (q : t σ H fun c H1 => if c = true then QB true H1 else u σ H1 QB) : tOr t u σ H QB := q
theorem rd_not (q : t σ H fun c H1 => QB (!c) H1) : tNot t σ H QB := q
theorem rd_andV (q : ta σ H fun x H1 => ∃ c, x = .bl c ∧ if c = true then tb σ H1 Q else Q (.bl false) H1) : tAndV ta tb σ H Q := q
theorem rd_orV (q : ta σ H fun x H1 => ∃ c, x = .bl c ∧ if c = true then Q (.bl true) H1 else tb σ H1 Q) : tOrV ta tb σ H Q := q
theorem rd_notV (q : ta σ H fun x H1 => ∃ c, x = .bl c ∧ Q (.bl (!c)) H1) : tNotV ta σ H Q := q
theorem rd_ifE (q : t σ H fun c H1 => if c = true then ta σ H1 Q else tb σ H1 Q) : tIf t ta tb σ H Q := q
theorem rd_next (q : D.nx σ H) : tNext D σ H := q
theorem rd_seq (q : t1 { D with nx := t2 D } σ H) : tSeq t1 t2 D σ H := q
theorem rd_drop (q : te σ H fun _ H1 => D.nx σ H1) : tDrop te D σ H := q
theorem rd_ret (q : te σ H D.rt) : tRet te D σ H := q
theorem rd_ifS (q : t σ H fun b H1 => if b = true then t1 D σ H1 else t2 D σ H1) : tIfS t t1 t2 D σ H := q
theorem rd_asg (q : te σ H fun x H1 => g x σ H1 D.nx) : tAsg te g D σ H := q
theorem rd_name {R : St → Hp → Prop} (q : R (σ.set i (some v)) H) : gName i v σ H R := q
theorem rd_par {j : Nat} (q : tr σ H fun vs H1 => ∃ v w, vs = [v, w] ∧ D.nx ((σ.set i (some v)).set j (some w)) H1) : tPar i j tr D σ H := q
theorem rd_two {v w : V} {R : V → V → Prop} (q : R v w) : ∃ a b, [v, w] = [a, b] ∧ R a b := ⟨v, w, rfl, q⟩
theorem rd_nil (q : QA [] H) : tNil σ H QA := q
theorem rd_cons (q : ta σ H fun x H1 => tr σ H1 fun xs H2 => QA (x :: xs) H2) : tCons ta tr σ H QA := q
theorem rd_tup (q : tr σ H fun xs H1 => xs.length ≤ sizeLine ∧ ∀ p, H1 p = none → Q (.ref p) (upd H1 p (.tup xs))) : tTup tr σ H Q := q
theorem rd_lst (q : tr σ H fun xs H1 => xs.length ≤ sizeLine ∧ ∀ p, H1 p = none → Q (.ref p) (upd H1 p (.lst xs))) : tLst tr σ H Q := q
theorem rd_cb {r : List V → Hp → VK → Prop} (q : tr σ H fun vs H1 => r vs H1 Q) : tCB r tr σ H Q := q
theorem rd_call {sp : Sp} {dvs : List V} {E : XK} (q : tr σ H fun vs H1 => sp (vs ++ dvs) H1 Q E) : tCall sp dvs E tr σ H Q := q
theorem rd_ixL {p : Addr} {xs : List V} {j : Int} (h : H p = some (.lst xs)) (a : atI xs j = some v) (q : Q v H) : rIxL K (.ref p) (.int j) H Q := ⟨p, xs, j, v, rfl, rfl, SqL.of h, a, q⟩
theorem rd_ixT {p : Addr} {xs : List V} {j : Int} (h : H p = some (.tup xs)) (a : atI xs j = some v) (q : Q v H) : rIxT K (.ref p) (.int j) H Q := ⟨p, xs, j, v, rfl, rfl, SqT.of h, a, q⟩
theorem rd_sub {to ti : TE} {s : TSet} {R : St → Hp → Prop} (q : to σ H fun o H1 => ti σ H1 fun i H2 => s o i v H2 fun H3 => R σ H3) : gSub to ti s v σ H R := q
theorem rd_setL {p : Addr} {xs : List V} {k : Int} {j : Nat} {R : Hp → Prop} (h : H p = some (.lst xs)) (e : ixN xs.length k = some j) (q : R (upd H p (.lst (xs.set j v)))) : rSetL (.ref p) (.int k) v H R := ⟨p, xs, k, j, rfl, rfl, h, e, q⟩
theorem rd_len {p : Addr} {xs : List V} (h : H p = some (.lst xs)) (q : Q (.int xs.length) H) : qLen K [.ref p] H Q := ⟨p, xs, rfl, Or.inl (SqL.of h), q⟩
theorem rd_sl {tl th : TO} {r : V → Option Int → Option Int → Hp → VK → Prop} (q : te σ H fun x H1 => tl σ H1 fun l H2 => th σ H2 fun u H3 => r x l u H3 Q) : tSl r te tl th σ H Q := q
theorem rd_nopart {R : Option Int → Hp → Prop} (q : R none H) : tNoPart σ H R := q
theorem rd_part {R : Option Int → Hp → Prop} (q : te σ H fun x H1 => ∃ i, x = .int i ∧ R (some i) H1) : tPart te σ H R := q
theorem rd_int {j : Int} {R : Int → Prop} (q : R j) : ∃ i, V.int j = .int i ∧ R i := ⟨j, rfl, q⟩
theorem rd_slL {p : Addr} {xs : List V} {l u : Option Int} (h : H p = some (.lst xs)) (q : ∀ b, H b = none → Q (.ref b) (upd H b (.lst (cutV xs l u)))) : rSlL K (.ref p) l u H Q := ⟨p, xs, rfl, SqL.of h, q⟩
theorem rd_cat {p b : Addr} {xs ys : List V} (h : H p = some (.lst xs)) (h2 : H b = some (.lst ys)) (z : xs.length + ys.length ≤ sizeLine) (q : ∀ c, H c = none → Q (.ref c) (upd H c (.lst (xs ++ ys)))) : rCat (.ref p) (.ref b) H Q := ⟨p, b, xs, ys, rfl, rfl, h, h2, z, q⟩
theorem rd_isN (q : Q (.bl (decide (x = .non))) H) : (fun x y H Q => y = V.non ∧ Q (.bl (decide (x = .non))) H : R2) x .non H Q := ⟨rfl, q⟩
theorem rd_bm {T : String} {r : V → List V → Hp → VK → Prop} (q : te σ H fun x H1 => tyV K T x H1 ∧ tr σ H1 fun xs H2 => r x xs H2 Q) : tBM K T r te tr σ H Q := q
theorem rd_bm0 {T : String} {r : V → List V → Hp → VK → Prop} (q : te σ H fun x H1 => tyV K T x H1 ∧ r x [] H1 Q) : tBM0 K T r te σ H Q := q
theorem rd_for {wi : TI} (q : wi σ H fun J H1 => ∃ W : Nat → Nat → St → Hp → Prop, (∃ m, W 0 m σ H1) ∧ ∀ i m σ H, W i m σ H →
  (J.stop i H ∧ D.nx σ H) ∨ (J.go i H ∧ ∃ N : St → Hp → Prop, (∀ σ' H', N σ' H' → ∃ m', m' < m ∧ W (i + 1) m' σ' H') ∧ ∀ x H', J.yld i H x H' → g x σ H' fun σ2 H2 => t1 { D with nx := N, ct := N, bk := D.nx } σ2 H2)) : tFor wi g t1 D σ H := q
theorem rd_iList {tl : TE} {R : It → Hp → Prop} (q : tl σ H fun x H1 => ∃ a, x = .ref a ∧ (∃ xs, SqL K H1 a xs) ∧ R (Itl K a) H1) : iList K tl σ H R := q
theorem rd_gtup {n : Nat} {s : TGs} {p : Addr} {xs : List V} {R : St → Hp → Prop} (h : H p = some (.tup xs)) (z : xs.length = n) (q : s xs σ H R) : gTup K n s (.ref p) σ H R := ⟨p, xs, rfl, SqT.of h, z, q⟩
theorem rd_gcons {s : TG} {w : TGs} {vs : List V} {R : St → Hp → Prop} (q : s v σ H fun σ' H' => w vs σ' H' R) : gCons s w (v :: vs) σ H R := ⟨v, vs, rfl, q⟩
theorem rd_gnil {R : St → Hp → Prop} (q : R σ H) : gNil [] σ H R := ⟨rfl, q⟩
theorem rd_sl_len {n : Nat} (h : n ≤ 1000) : n ≤ sizeLine := Nat.le_of_lt (small1000 h)
end

section
variable {σ : St} {H : Hp} {Q : VK} {v x y : V} {K : PySem.W.Frag} {ta te : TE} {D : Ends} {g : TG} {tb : TS}
theorem rd_typ {n : String} (h : zTyV v H = some n) (q : Q (.ty n) H) : r1 kTyp [v] H Q := ⟨n, h, q⟩
theorem rd_2ty {m n : String} {R : String → String → Prop} (q : R m n) : ∃ a b, V.ty m = V.ty a ∧ V.ty n = V.ty b ∧ R a b := ⟨m, n, rfl, rfl, q⟩
theorem rd_NT {m n : String} (q : Q (.bl (!decide (m = n))) H) : rNT (.ty m) (.ty n) H Q := ⟨m, n, rfl, rfl, q⟩
theorem rd_2s {m n : Str} {R : Str → Str → Prop} (q : R m n) : ∃ a b, V.str m = V.str a ∧ V.str n = V.str b ∧ R a b := ⟨m, n, rfl, rfl, q⟩
theorem rd_lenS {m : Str} {R : Str → Prop} (q : R m) : ∃ a, [V.str m] = [V.str a] ∧ R a := ⟨m, rfl, q⟩
theorem rd_lenT {p : Addr} {xs : List V} (h : H p = some (.tup xs)) (q : Q (.int xs.length) H) : qLen K [.ref p] H Q := ⟨p, xs, rfl, Or.inr (SqT.of h), q⟩
theorem rd_isi {t u : Value} {c : V} {b : Bool} (h1 : ClsV c u) (h2 : TyX K H v t) (h3 : PySem.W.kitOne K t u = some b) (q : Q (.bl b) H) : rIsi K [v, c] H Q := ⟨v, c, t, u, b, rfl, h1, h2, h3, q⟩
theorem rd_listOf {p : Addr} {xs : List V} (h : H p = some (.lst xs)) (q : ∀ l, H l = none → Q (.ref l) (upd H l (.lst xs))) : qList K [.ref p] H Q := ⟨p, xs, rfl, Or.inl (SqL.of h), q⟩
theorem rd_rep {p : Addr} {xs : List V} {k : Int} (h : H p = some (.lst xs)) (h1 : 0 ≤ k) (h2 : k < 2 ^ 62) (z : xs.length * k.toNat ≤ sizeLine) (q : rRep (.ref p) (.int k) H Q) : rRep (.ref p) (.int k) H Q := q
/-- for i, x in enumerate(xs): every turn has a new tuple -/
theorem for_enum {a : Addr} {xs : List V} {σ : St} {H : Hp} (Pv : Nat → St → Hp → Prop) (h0 : Pv 0 σ H) (hl : ∀ i σ H, i ≤ xs.length → Pv i σ H → SqL K H a xs)
    (hs : ∀ i x (T : Addr) σ H, xs[i]? = some x → Pv i σ H → H T = none → g (.ref T) σ (upd H T (.tup [.int (i : Nat), x])) fun σ2 H2 => tb { D with nx := Pv (i + 1), ct := Pv (i + 1), bk := D.nx } σ2 H2) (hd : ∀ σ H, Pv xs.length σ H → D.nx σ H) :
    ∃ W : Nat → Nat → St → Hp → Prop, (∃ m, W 0 m σ H) ∧ ∀ i m σ H, W i m σ H →
      ((Ite K a).stop i H ∧ D.nx σ H) ∨ ((Ite K a).go i H ∧ ∃ N : St → Hp → Prop, (∀ σ' H', N σ' H' → ∃ m', m' < m ∧ W (i + 1) m' σ' H') ∧ ∀ x H', (Ite K a).yld i H x H' → g x σ H' fun σ2 H2 => tb { D with nx := N, ct := N, bk := D.nx } σ2 H2) := by
  refine ⟨fun i m σ H => m = xs.length - i ∧ i ≤ xs.length ∧ Pv i σ H, ⟨_, rfl, Nat.zero_le _, h0⟩, fun i m σ H hw => ?_⟩
  obtain ⟨rfl, hi, p⟩ := hw
  have q := hl i σ H hi p
  by_cases hlt : i < xs.length
  · have hx : xs[i]? = some xs[i] := List.getElem?_eq_getElem hlt
    refine Or.inr ⟨⟨xs, xs[i], q, hx⟩, Pv (i + 1), fun σ' H' p' => ⟨xs.length - (i + 1), by omega, rfl, hlt, p'⟩, fun x H' ⟨T, z, e1, e2, e3, e4⟩ => ?_⟩
    subst e1 e3
    have ez : z = xs[i] := Option.some.inj ((e4 xs q).symm.trans hx)
    subst ez
    exact hs i _ T σ H hx p e2
  · have e : i = xs.length := by omega
    subst e
    exact Or.inl ⟨⟨xs, q, Nat.le_refl _⟩, hd σ H p⟩
end

/-! ### rows: the first other color, the colors by person, a call -/
def fo (r : Row) (c : Nat) : Option Nat := (r.find? fun e => e.2 != c).map (·.2)
def colOf (r : Row) (q : Nat) : Nat := ((r.find? fun e => e.1 == q).map (·.2)).getD 0
theorem fo_nil (c : Nat) : fo [] c = none := rfl
theorem fo_yes {e : Nat × Nat} {r : Row} {c : Nat} (h : e.2 ≠ c) : fo (e :: r) c = some e.2 := by
  unfold fo
  rw [List.find?_cons_of_pos (by simpa using h)]
  rfl
theorem fo_no {e : Nat × Nat} {r : Row} {c : Nat} (h : e.2 = c) : fo (e :: r) c = fo r c := by
  unfold fo
  rw [List.find?_cons_of_neg (by simpa using h)]
theorem drop_of {α : Type} {l : List α} {i : Nat} {x : α} (h : l[i]? = some x) : l.drop i = x :: l.drop (i + 1) := by
  obtain ⟨h1, h2⟩ := List.getElem?_eq_some_iff.mp h
  rw [← h2]
  exact List.drop_eq_getElem_cons h1
structure Vr (r : Row) : Prop where
  n1 : 1 ≤ r.length
  n2 : r.length ≤ 60
  col : ∀ e ∈ r, 97 ≤ e.2 ∧ e.2 ≤ 122
  perm : (r.map (·.1)).Perm (List.range r.length)
theorem Vr.lt {r : Row} (h : Vr r) {e : Nat × Nat} (he : e ∈ r) : e.1 < r.length := by
  have := h.perm.mem_iff.mp (List.mem_map_of_mem (f := (·.1)) he)
  exact List.mem_range.mp this
theorem Vr.nodup {r : Row} (h : Vr r) : (r.map (·.1)).Nodup := h.perm.nodup_iff.mpr List.nodup_range
theorem Vr.has {r : Row} (h : Vr r) {q : Nat} (hq : q < r.length) : ∃ e ∈ r, e.1 = q := by
  have := h.perm.mem_iff.mpr (List.mem_range.mpr hq)
  obtain ⟨e, h1, h2⟩ := List.mem_map.mp this
  exact ⟨e, h1, h2⟩
/-- the list that colors_by_person fills -/
def fillC (l : List V) (r : Row) : List V := r.foldl (fun l e => l.set e.1 (sg e.2)) l
theorem fillC_len (r : Row) : ∀ l : List V, (fillC l r).length = l.length := by
  induction r with
  | nil => intro l; rfl
  | cons e r ih =>
    intro l
    show (fillC (l.set e.1 (sg e.2)) r).length = _
    rw [ih, List.length_set]
theorem fillC_no {q : Nat} : ∀ (r : Row) (l : List V), (∀ e ∈ r, e.1 ≠ q) → (fillC l r)[q]? = l[q]? := by
  intro r
  induction r with
  | nil => intro l _; rfl
  | cons e r ih =>
    intro l h
    show (fillC (l.set e.1 (sg e.2)) r)[q]? = _
    rw [ih _ fun x hx => h x (List.mem_cons_of_mem _ hx), List.getElem?_set_ne (h e List.mem_cons_self)]
theorem fillC_at {q : Nat} : ∀ (r : Row) (l : List V), (r.map (·.1)).Nodup → q < l.length → (∃ e ∈ r, e.1 = q) → (fillC l r)[q]? = some (sg (colOf r q)) := by
  intro r
  induction r with
  | nil =>
    intro l _ _ h
    obtain ⟨e, he, _⟩ := h
    cases he
  | cons e r ih =>
    intro l nd hl h
    have nd' := List.nodup_cons.mp (show (e.1 :: r.map (·.1)).Nodup from nd)
    show (fillC (l.set e.1 (sg e.2)) r)[q]? = _
    by_cases c : e.1 = q
    · rw [fillC_no r _ fun x hx z => nd'.1 (by rw [c, ← z]; exact List.mem_map_of_mem (f := (·.1)) hx), c, List.getElem?_set_self hl]
      unfold colOf
      rw [List.find?_cons_of_pos (by simpa using c)]
      rfl
    · rw [ih _ nd'.2 (by rw [List.length_set]; exact hl) ?_]
      · unfold colOf
        rw [List.find?_cons_of_neg (by simpa using c)]
      · obtain ⟨x, hx, hq⟩ := h
        rcases List.mem_cons.mp hx with z | z
        · exact absurd (z ▸ hq) c
        · exact ⟨x, z, hq⟩
def byPerson (r : Row) : List V := (List.range r.length).map fun q => sg (colOf r q)
theorem fillC_is {r : Row} (h : Vr r) {x : V} : fillC (List.replicate r.length x) r = byPerson r := by
  apply List.ext_getElem?
  intro q
  unfold byPerson
  rw [List.getElem?_map]
  by_cases c : q < r.length
  · rw [fillC_at r _ h.nodup (by rw [List.length_replicate]; exact c) (h.has c), List.getElem?_range c]
    rfl
  · rw [List.getElem?_eq_none (by rw [fillC_len, List.length_replicate]; omega), List.getElem?_eq_none (by rw [List.length_range]; omega)]
    rfl
def app (r : Row) (p : Nat) : Row := (p, (fo r (colOf r p)).getD (colOf r p)) :: r.filter fun e => e.1 != p
theorem flat_rep {α : Type} (x : α) : ∀ n : Nat, (List.replicate n [x]).flatten = List.replicate n x
  | 0 => rfl
  | n + 1 => by
    rw [List.replicate_succ, List.flatten_cons, flat_rep x n]
    rfl
theorem fillC_snoc (l : List V) (r : Row) (e : Nat × Nat) : fillC l (r ++ [e]) = (fillC l r).set e.1 (sg e.2) := by
  unfold fillC
  rw [List.foldl_append]
  rfl
theorem take_of {α : Type} {l : List α} {i : Nat} {x : α} (h : l[i]? = some x) : l.take (i + 1) = l.take i ++ [x] := by
  rw [List.take_add_one, h]
  rfl
theorem ixN_nat {n j : Nat} (h : j < n) : ixN n (j : Int) = some j := by
  unfold ixN
  rw [if_pos (by omega), if_pos (by omega)]
  simp
theorem sz60 {n : Nat} (h : n ≤ 60) : n ≤ sizeLine := Nat.le_trans h (by decide)
theorem getElem?_mem {α : Type} {l : List α} {i : Nat} {x : α} (h : l[i]? = some x) : x ∈ l := List.mem_of_getElem? h
/-! ### data -/
theorem dp_ints {K : PySem.W.Frag} {H : Hp} : ∀ ns : List Int, DpAll K H (ns.map V.int) (ns.map PyData.int)
  | [] => .nil
  | n :: ns => .cons (.int n) (dp_ints ns)
theorem lay_ints : ∀ ns : List Int, PyData.canLayAll0 (ns.map PyData.int) = true
  | [] => by simp only [List.map_nil, PyData.canLayAll0]
  | n :: ns => by
    simp only [List.map_cons, PyData.canLayAll0, PyData.canLay0, Bool.true_and]
    exact lay_ints ns
theorem dep_ints : ∀ ns : List Int, PyData.depthAll (ns.map PyData.int) = 0
  | [] => by simp only [List.map_nil, PyData.depthAll]
  | n :: ns => by
    simp only [List.map_cons, PyData.depthAll, PyData.depth]
    rw [dep_ints ns]
    rfl
abbrev dI (ns : List Int) : PyData := .list (ns.map PyData.int)
theorem shp_ints (ns : List Int) : SeqAt.shaped (dI ns) = true := by
  refine Bool.and_eq_true_iff.mpr ⟨?_, decide_eq_true ?_⟩
  · simp only [PyData.canLay0]
    exact lay_ints ns
  · simp only [PyData.depth]
    rw [dep_ints]
    decide
/-- a row as data -/
abbrev dE (e : Nat × Nat) : PyData := .tuple [.int (e.1 : Int), .str ⟨#[e.2]⟩]
abbrev dR (r : Row) : PyData := .list (r.map dE)
theorem dp_tups {K : PySem.W.Frag} {H : Hp} : ∀ {ts : List Addr} {r : Row}, TupsAt H ts r → DpAll K H (ts.map V.ref) (r.map dE)
  | [], [], _ => .nil
  | _ :: ts, e :: r, h => .cons (.tup (SqT.of h.1) (.cons (.int _) (.cons (.str _) .nil))) (dp_tups (ts := ts) (r := r) h.2)
  | [], _ :: _, h => h.elim
  | _ :: _, [], h => h.elim
theorem RowAt.dp {K : PySem.W.Frag} {H : Hp} {a : Addr} {r : Row} (h : RowAt H a r) : Dp K H (.ref a) (dR r) :=
  let ⟨_, h1, h2⟩ := h
  .lst (SqL.of h1) (dp_tups h2)
def Cok (r : Row) : Prop := ∀ e ∈ r, 97 ≤ e.2 ∧ e.2 ≤ 122
theorem str_ok {c : Nat} (h : c ≤ 122) : PyData.strOk ⟨#[c]⟩ = true := by
  show (#[c] : Array Nat).all (· < 0x110000) = true
  simp
  omega
theorem lay_row : ∀ r : Row, Cok r → PyData.canLayAll0 (r.map dE) = true ∧ PyData.depthAll (r.map dE) ≤ 1
  | [], _ => by
    simp only [List.map_nil, PyData.canLayAll0, PyData.depthAll]
    exact ⟨trivial, Nat.zero_le _⟩
  | e :: r, h => by
    obtain ⟨h1, h2⟩ := lay_row r fun x hx => h x (List.mem_cons_of_mem _ hx)
    simp only [List.map_cons, PyData.canLayAll0, PyData.canLay0, PyData.depthAll, PyData.depth, Bool.true_and, Bool.and_true]
    rw [h1, str_ok (h e List.mem_cons_self).2]
    refine ⟨rfl, ?_⟩
    omega
theorem shp_row (r : Row) (h : Cok r) : SeqAt.shaped (dR r) = true := by
  obtain ⟨h1, h2⟩ := lay_row r h
  refine Bool.and_eq_true_iff.mpr ⟨?_, decide_eq_true ?_⟩
  · simp only [PyData.canLay0]
    exact h1
  · simp only [PyData.depth]
    omega
theorem shp_ent (e : Nat × Nat) (h : e.2 ≤ 122) : SeqAt.shaped (dE e) = true := by
  refine Bool.and_eq_true_iff.mpr ⟨?_, decide_eq_true ?_⟩
  · simp only [PyData.canLay0, PyData.canLayAll0, Bool.true_and, Bool.and_true]
    exact str_ok h
  · simp only [PyData.depth, PyData.depthAll]
    decide
section
variable {σ : St} {H : Hp} {Q : VK} {v x y : V} {K : PySem.W.Frag} {ta te : TE} {D : Ends} {g : TG} {tb : TS}
theorem rd_eqD {d : PyData} (h1 : Dp K H x d) (h2 : Dp K H y d) (s : SeqAt.shaped d = true) (q : Q (.bl true) H) : rEqD K x y H Q :=
  ⟨d, d, h1, h2, s, s, by rw [SeqAt.eqv_refl d (SeqAt.canLay_of_shaped s)]; exact q⟩
theorem rd_neD {d : PyData} (h1 : Dp K H x d) (h2 : Dp K H y d) (s : SeqAt.shaped d = true) (q : Q (.bl false) H) : rNeD K x y H Q :=
  ⟨d, d, h1, h2, s, s, by rw [SeqAt.eqv_refl d (SeqAt.canLay_of_shaped s)]; exact q⟩
theorem rd_eqD2 {d e : PyData} (h1 : Dp K H x d) (h2 : Dp K H y e) (s : SeqAt.shaped d = true) (s2 : SeqAt.shaped e = true) {b : Bool} (hb : PyData.eqv d e = b) (q : Q (.bl b) H) : rEqD K x y H Q :=
  ⟨d, e, h1, h2, s, s2, by rw [hb]; exact q⟩
theorem rd_neD2 {d e : PyData} (h1 : Dp K H x d) (h2 : Dp K H y e) (s : SeqAt.shaped d = true) (s2 : SeqAt.shaped e = true) {b : Bool} (hb : PyData.eqv d e = b) (q : Q (.bl (!b)) H) : rNeD K x y H Q :=
  ⟨d, e, h1, h2, s, s2, by rw [hb]; exact q⟩
theorem rd_tyes {R : Bool → Hp → Prop} (q : R true H) : tYes σ H R := q
theorem rd_lstRg {tr : St → Hp → (Int → Int → Hp → Prop) → Prop} (q : tr σ H fun a b H1 => RgOk a b ∧ ∀ q, H1 q = none → Q (.ref q) (upd H1 q (.lst (rgV a b)))) : tLstRg tr σ H Q := q
theorem rd_rg1 {R : Int → Int → Hp → Prop} (q : ta σ H fun x H1 => ∃ n, x = .int n ∧ R 0 n H1) : tRg1 ta σ H R := q
theorem rd_tyL {p : Addr} {xs : List V} (h : H p = some (.lst xs)) (q : Q (.ty "list") H) : r1 kTyp [.ref p] H Q :=
  ⟨"list", by show (match H p with | some (.lst _) => _ | some (.tup _) => _ | _ => _) = _; rw [h], q⟩
theorem rd_tyT {p : Addr} {xs : List V} (h : H p = some (.tup xs)) (q : Q (.ty "tuple") H) : r1 kTyp [.ref p] H Q :=
  ⟨"tuple", by show (match H p with | some (.lst _) => _ | some (.tup _) => _ | _ => _) = _; rw [h], q⟩
end
abbrev pI (r : Row) : List Int := r.map fun e => (e.1 : Int)
theorem pI_map (r : Row) : (pI r).map V.int = r.map fun e => V.int (e.1 : Int) := by
  show (r.map _).map _ = _
  rw [List.map_map]
  rfl
abbrev rI' (n : Nat) : List Int := (List.range n).map fun i : Nat => (i : Int)
theorem rgV_is (n : Nat) : rgV 0 (n : Int) = (rI' n).map V.int := by
  unfold rgV
  rw [List.map_map, show ((n : Int) - 0).toNat = n by omega]
  apply List.map_congr_left
  intro i _
  show V.int (0 + (i : Int)) = V.int (i : Int)
  rw [Int.zero_add]
theorem sorted_is {r : Row} (h : Vr r) {ns : List Int} (hp : ns.Perm (pI r)) (hs : ns.Pairwise (· ≤ ·)) : ns = rI' r.length := by
  have h1 : (pI r).Perm (rI' r.length) := by
    have q := h.perm.map fun i : Nat => (i : Int)
    rw [List.map_map] at q
    exact q
  have h2 : (rI' r.length).Pairwise (· ≤ ·) := by
    refine List.pairwise_map.mpr (List.pairwise_lt_range.imp fun {a b} k => ?_)
    omega
  exact List.Perm.eq_of_pairwise (fun a b _ _ x y => Int.le_antisymm x y) hs h2 (hp.trans h1)
theorem lt60 {n : Nat} (h : n ≤ 60) : n < sizeLine := Nat.lt_of_le_of_lt h (by decide)
abbrev vN (p : Nat) : V := .int (p : Int)
/-! ### a call keeps a row a row -/
theorem byPerson_at {r : Row} {p : Nat} (h : p < r.length) : (byPerson r)[p]? = some (sg (colOf r p)) := by
  unfold byPerson
  rw [List.getElem?_map, List.getElem?_range h]
  rfl
def takenEach (r : Row) : List V := (List.range r.length).map fun q => oV (fo r (colOf r q))
theorem takenEach_at {r : Row} {p : Nat} (h : p < r.length) : (takenEach r)[p]? = some (oV (fo r (colOf r p))) := by
  unfold takenEach
  rw [List.getElem?_map, List.getElem?_range h]
  rfl
theorem fo_mem {r : Row} {c d : Nat} (h : fo r c = some d) : ∃ e ∈ r, e.2 = d ∧ d ≠ c := by
  unfold fo at h
  obtain ⟨e, h1, h2⟩ := Option.map_eq_some_iff.mp h
  have h3 := List.find?_some h1
  refine ⟨e, List.mem_of_find?_eq_some h1, h2, ?_⟩
  rw [← h2]
  simpa using h3
theorem colOf_mem {r : Row} {p : Nat} (h : ∃ e ∈ r, e.1 = p) : (p, colOf r p) ∈ r := by
  unfold colOf
  cases q : r.find? fun e => e.1 == p with
  | none =>
    obtain ⟨e, h1, h2⟩ := h
    have := List.find?_eq_none.mp q e h1
    exact absurd (by simpa using h2) this
  | some e =>
    have h1 := List.mem_of_find?_eq_some q
    have h2 : e.1 = p := by simpa using List.find?_some q
    show (p, e.2) ∈ r
    rw [← h2]
    exact h1
theorem perm_out {p : Nat} : ∀ {r : Row}, (r.map (·.1)).Nodup → (∃ e ∈ r, e.1 = p) → (p :: (r.filter fun e => e.1 != p).map (·.1)).Perm (r.map (·.1))
  | [], _, h => by
    obtain ⟨e, he, _⟩ := h
    cases he
  | e :: r, nd, h => by
    have nd' := List.nodup_cons.mp (show (e.1 :: r.map (·.1)).Nodup from nd)
    by_cases c : e.1 = p
    · rw [List.filter_cons_of_neg (by simpa using c)]
      have e2 : (r.filter fun e => e.1 != p) = r := by
        apply List.filter_eq_self.mpr
        intro x hx
        simp only [bne_iff_ne, ne_eq]
        intro z
        exact nd'.1 (by rw [c, ← z]; exact List.mem_map_of_mem (f := (·.1)) hx)
      rw [e2, List.map_cons, c]
    · rw [List.filter_cons_of_pos (by simpa using c), List.map_cons, List.map_cons]
      have h' : ∃ e ∈ r, e.1 = p := by
        obtain ⟨x, hx, hq⟩ := h
        rcases List.mem_cons.mp hx with z | z
        · exact absurd (z ▸ hq) c
        · exact ⟨x, z, hq⟩
      exact (List.Perm.swap _ _ _).trans ((perm_out nd'.2 h').cons _)
theorem app_perm {r : Row} (h : Vr r) {p : Nat} (hp : p < r.length) : ((app r p).map (·.1)).Perm (r.map (·.1)) := perm_out h.nodup (h.has hp)
theorem app_len {r : Row} (h : Vr r) {p : Nat} (hp : p < r.length) : (app r p).length = r.length := by
  have := (app_perm h hp).length_eq
  rw [List.length_map, List.length_map] at this
  exact this
theorem Vr.colOf {r : Row} (h : Vr r) {p : Nat} (hp : p < r.length) : 97 ≤ LX.colOf r p ∧ LX.colOf r p ≤ 122 := h.col _ (colOf_mem (h.has hp))
theorem Vr.fo {r : Row} (h : Vr r) {c d : Nat} (e : LX.fo r c = some d) : 97 ≤ d ∧ d ≤ 122 := by
  obtain ⟨x, h1, h2, _⟩ := fo_mem e
  rw [← h2]
  exact h.col x h1
theorem Vr.app {r : Row} (h : Vr r) {p : Nat} (hp : p < r.length) : Vr (LX.app r p) where
  n1 := by rw [app_len h hp]; exact h.n1
  n2 := by rw [app_len h hp]; exact h.n2
  col := by
    intro e he
    rcases List.mem_cons.mp he with z | z
    · rw [z]
      show 97 ≤ (LX.fo r (LX.colOf r p)).getD (LX.colOf r p) ∧ (LX.fo r (LX.colOf r p)).getD (LX.colOf r p) ≤ 122
      cases q : LX.fo r (LX.colOf r p) with
      | none => exact h.colOf hp
      | some d => exact h.fo q
    · exact h.col e (List.mem_filter.mp z).1
  perm := by rw [app_len h hp]; exact (app_perm h hp).trans h.perm
/-- calls one after the other -/
def apps (r : Row) (cs : List Nat) : Row := cs.foldl app r
theorem apps_snoc (r : Row) (cs : List Nat) (p : Nat) : apps r (cs ++ [p]) = app (apps r cs) p := by
  unfold apps
  rw [List.foldl_append]
  rfl
theorem apps_len {r : Row} (h : Vr r) : ∀ (cs : List Nat), (∀ p ∈ cs, p < r.length) → Vr (apps r cs) ∧ (apps r cs).length = r.length := by
  intro cs
  induction cs generalizing r with
  | nil => intro _; exact ⟨h, rfl⟩
  | cons p cs ih =>
    intro hc
    have hp := hc p List.mem_cons_self
    have := ih (h.app hp) fun q hq => by
      rw [app_len h hp]
      exact hc q (List.mem_cons_of_mem _ hq)
    exact ⟨this.1, this.2.trans (app_len h hp)⟩
theorem oV_none {o : Option Nat} : decide (oV o = V.non) = o.isNone := by
  cases o with
  | none => rfl
  | some c => rfl
theorem sz60' {n : Nat} (h : n ≤ 100) : n ≤ sizeLine := Nat.le_trans h (by decide)
/-! ### the script and its cells -/
theorem cut_ints (ns : List Int) (lo hi : Option Int) : ∃ ms : List Int, cutV (ns.map V.int) lo hi = ms.map V.int ∧ ms.length ≤ ns.length := by
  unfold cutV
  rw [← List.map_drop, ← List.map_take]
  refine ⟨_, rfl, ?_⟩
  rw [List.length_take, List.length_drop]
  omega
theorem eqv_nil (ns : List Int) : PyData.eqv (dI ns) (dI []) = decide (ns = []) := by
  cases ns with
  | nil => rfl
  | cons n ns => simp [PyData.eqv, PyData.eqvAll]
theorem rd_cut {t u : TS} {D : Ends} {σ : St} {H : Hp} (M : St → Hp → Prop) (h : t { D with nx := M } σ H) (k : ∀ σ' H', M σ' H' → u D σ' H') : Evl.tCut t u D σ H := ⟨M, h, k⟩
theorem rd_bool {H : Hp} {b : Bool} {R : Int → Prop} {Q : VK} (q : Q (.int (if b then 1 else 0)) H) : (∃ i, [V.bl b] = [V.int i] ∧ Q (.int i) H) ∨ ∃ k, [V.bl b] = [V.bl k] ∧ Q (.int (if k then 1 else 0)) H := Or.inr ⟨b, rfl, q⟩
theorem Same'.of {p : Addr} {H H' : Hp} (h : ∀ b, b ≠ p → H' b = H b) : Same' p H H' := fun b o e n => by rw [h b n]; exact e
theorem Same'.free {p q : Addr} {H H' : Hp} (s : Same' p H H') (h : H' q = none) (n : q ≠ p) : H q = none := by
  cases e : H q with
  | none => rfl
  | some o =>
    rw [s q o e n] at h
    cases h
theorem Src.not_none {H : Hp} {p q : Addr} (h : Src H p) (hq : H q = none) : q ≠ p := fun e => by
  obtain ⟨xs, h1⟩ := h.lst
  rw [e, h1] at hq
  cases hq
/-- the script: locked, or an object of the module -/
def Scr (K : PySem.W.Frag) (H : Hp) (l : Addr) (ns : List Int) : Prop := (∃ o, H l = some (.frz o (.lst (ns.map V.int)))) ∨ ∀ H', SqL K H' l (ns.map V.int)
theorem Scr.of {K : PySem.W.Frag} {H : Hp} {l : Addr} {ns : List Int} (hO : Only H) (h : SqL K H l (ns.map V.int)) : Scr K H l ns := by
  rcases h with (h | ⟨o, h⟩) | h
  · rcases hO l with z | ⟨o, xs, z⟩
    · rw [h] at z
      cases z
    · rw [h] at z
      cases z
  · exact Or.inl ⟨o, h⟩
  · exact Or.inr fun H' => Or.inr h
theorem Scr.seq {K : PySem.W.Frag} {H : Hp} {l : Addr} {ns : List Int} (h : Scr K H l ns) : SqL K H l (ns.map V.int) := by
  rcases h with ⟨o, h⟩ | h
  · exact Or.inl (Or.inr ⟨o, h⟩)
  · exact h H
theorem Scr.same {K : PySem.W.Frag} {H H' : Hp} {l : Addr} {ns : List Int} (h : Scr K H l ns) (s : Same H H') : Scr K H' l ns := by
  rcases h with ⟨o, h⟩ | h
  · exact Or.inl ⟨o, s _ _ h⟩
  · exact Or.inr h
theorem Scr.same' {K : PySem.W.Frag} {H H' : Hp} {l p : Addr} {ns : List Int} (h : Scr K H l ns) (s : Same' p H H') (hp : ∃ xs, H p = some (.lst xs)) : Scr K H' l ns := by
  rcases h with ⟨o, h⟩ | h
  · refine Or.inl ⟨o, s _ _ h fun e => ?_⟩
    obtain ⟨xs, hx⟩ := hp
    rw [e, hx] at h
    cases h
  · exact Or.inr h
theorem seqIx {n j : Nat} (h : j < n) : PySem.seqIndex? (j : Int) n = some j := by
  show (if (decide (0 ≤ if (j : Int) < 0 then (j : Int) + n else j) && decide ((if (j : Int) < 0 then (j : Int) + n else j) < (n : Int))) = true then some (if (j : Int) < 0 then (j : Int) + n else j).toNat else none) = some j
  have e : (if (j : Int) < 0 then (j : Int) + n else (j : Int)) = (j : Int) := if_neg (by omega)
  rw [e, if_pos (by rw [decide_eq_true (show (0 : Int) ≤ j by omega), decide_eq_true (show (j : Int) < n by omega)]; rfl)]
  simp
theorem erase_map {α β : Type} (f : α → β) : ∀ (l : List α) (j : Nat), (l.map f).eraseIdx j = (l.eraseIdx j).map f
  | [], _ => rfl
  | x :: l, 0 => rfl
  | x :: l, j + 1 => by
    show f x :: (l.map f).eraseIdx j = f x :: (l.eraseIdx j).map f
    rw [erase_map f l j]
theorem erase_perm {α : Type} : ∀ {l : List α} {j : Nat} {x : α}, l[j]? = some x → (x :: l.eraseIdx j).Perm l
  | [], j, x, h => by simp at h
  | y :: l, 0, x, h => by
    have e : y = x := Option.some.inj h
    rw [e]
    exact List.Perm.refl _
  | y :: l, j + 1, x, h => by
    have ih := erase_perm (l := l) (j := j) (x := x) (by simpa using h)
    exact (List.Perm.swap _ _ _).trans (ih.cons _)
theorem abc_at : ∀ m : Nat, m < 26 → atI (Str.ofString "abcdefghijklmnopqrstuvwxyz").cps.toList (m : Int) = some (97 + m) := by
  decide +kernel
theorem abc_len : (Str.ofString "abcdefghijklmnopqrstuvwxyz").length ≤ sizeLine := by
  have e : (Str.ofString "abcdefghijklmnopqrstuvwxyz").length = 26 := by decide +kernel
  rw [e]
  decide
theorem Same'.tups {p : Addr} {H H' : Hp} (s : Same' p H H') {xs : List V} (hp : H p = some (.lst xs)) : ∀ b ys, H b = some (.tup ys) → H' b = some (.tup ys) := fun b ys e => s b _ e fun q => by
  rw [q, hp] at e
  cases e
/-- a row that is being drawn -/
structure Drw (H : Hp) (D q p : Addr) (n i : Nat) (H0 : Hp) : Prop where
  ex : ∃ (us : List Addr) (rr : Row) (ls : List Nat), H D = some (.lst (us.map V.ref)) ∧ H q = some (.lst (ls.map vN)) ∧ TupsAt H us rr ∧ rr.length = i ∧ (rr.map (·.1) ++ ls).Perm (List.range n) ∧ Cok rr
  src : Src H p
  same : Same' p H0 H
theorem drw_end {H H0 : Hp} {D q p : Addr} {n : Nat} (h : Drw H D q p n n H0) (n1 : 1 ≤ n) (n2 : n ≤ 60) : ∃ r, RowAt H D r ∧ Vr r := by
  obtain ⟨us, rr, ls, h1, h2, h3, h4, h5, h6⟩ := h.ex
  have e := h5.length_eq
  rw [List.length_append, List.length_map, List.length_range] at e
  have : ls = [] := List.length_eq_zero_iff.mp (by omega)
  rw [this, List.append_nil] at h5
  exact ⟨rr, ⟨us, h1, h3⟩, ⟨by omega, by omega, h6, by rw [h4]; exact h5⟩⟩
theorem pick4 (a b c d : Int) {j : Int} (h0 : 0 ≤ j) (h1 : j < 4) : ∃ x : Int, atI [V.int a, V.int b, V.int c, V.int d] j = some (.int x) ∧ (x = a ∨ x = b ∨ x = c ∨ x = d) := by
  have : j = 0 ∨ j = 1 ∨ j = 2 ∨ j = 3 := by omega
  rcases this with e | e | e | e
  · subst e
    exact ⟨a, rfl, Or.inl rfl⟩
  · subst e
    exact ⟨b, rfl, Or.inr (Or.inl rfl)⟩
  · subst e
    exact ⟨c, rfl, Or.inr (Or.inr (Or.inl rfl))⟩
  · subst e
    exact ⟨d, rfl, Or.inr (Or.inr (Or.inr rfl))⟩
theorem rgV_nat {z : Int} (h : 0 ≤ z) : rgV 0 z = (List.range z.toNat).map vN := by
  have e : z = (z.toNat : Int) := by omega
  rw [e, rgV_is, List.map_map]
  rfl
theorem rd_ifV {σ : St} {H : Hp} {Q : VK} {v : V} {t : TT} {ta tb : TE} (b : Bool) (ht : ∀ R : Bool → Hp → Prop, R b H → t σ H R) (ha : b = true → ∀ R : VK, R v H → ta σ H R) (hb : b = false → ∀ R : VK, R v H → tb σ H R) (q : Q v H) : tIf t ta tb σ H Q := by
  refine ht _ ?_
  cases b with
  | true => exact ha rfl _ q
  | false => exact hb rfl _ q
theorem scal_oV (x y : Option Nat) : scal (oV x) (oV y) = true := by
  cases x <;> cases y <;> rfl
theorem oV_inj {x y : Option Nat} (h : oV x = oV y) : x = y := by
  cases x with
  | none =>
    cases y with
    | none => rfl
    | some b => cases h
  | some a =>
    cases y with
    | none => cases h
    | some b =>
      injection h with h
      injection h with h
      injection h with h
      injection h with h
      rw [h]
theorem sg_inj {x y : Nat} (h : sg x = sg y) : x = y := by
  have := oV_inj (x := some x) (y := some y) h
  exact Option.some.inj this
theorem sIx_nat (n d : Nat) (k : Nat) (h : k ≤ n) : HT.sIx n d (some (k : Int)) = k := by
  rw [HT.sIx_nat]
  omega
theorem cut_take (xs : List V) (k : Nat) (h : k ≤ xs.length) : cutV xs none (some (k : Int)) = xs.take k := by
  unfold cutV
  rw [sIx_nat _ _ _ h]
  have e : HT.sIx xs.length 0 none = 0 := rfl
  rw [e]
  rfl
theorem cut_drop (xs : List V) (k : Nat) (h : k ≤ xs.length) : cutV xs (some (k : Int)) none = xs.drop k := by
  unfold cutV
  rw [sIx_nat _ _ _ h]
  have e : HT.sIx xs.length xs.length none = xs.length := rfl
  rw [e]
  apply List.take_of_length_le
  rw [List.length_drop]
  omega
theorem at_last {α : Type} {l : List α} (h : 0 < l.length) : ∃ x ∈ l, atI l (-1) = some x := by
  have h2 : l.length - 1 < l.length := by omega
  refine ⟨l[l.length - 1], List.getElem_mem h2, ?_⟩
  unfold atI ixN
  rw [if_neg (by omega), if_pos (by omega)]
  show l[((-1 : Int) + l.length).toNat]? = _
  rw [show ((-1 : Int) + l.length).toNat = l.length - 1 by omega]
  exact List.getElem?_eq_getElem h2
theorem pick3 (a b c : Nat) {j : Int} (h0 : 0 ≤ j) (h1 : j < 3) : ∃ x : Nat, atI [sg a, sg b, sg c] j = some (sg x) ∧ (x = a ∨ x = b ∨ x = c) := by
  have : j = 0 ∨ j = 1 ∨ j = 2 := by omega
  rcases this with e | e | e
  · subst e
    exact ⟨a, rfl, Or.inl rfl⟩
  · subst e
    exact ⟨b, rfl, Or.inr (Or.inl rfl)⟩
  · subst e
    exact ⟨c, rfl, Or.inr (Or.inr rfl)⟩
theorem rd_forL {K : PySem.W.Frag} {σ : St} {H : Hp} {tl : TE} {g : TG} {tb : TS} {D : Ends} (M : Addr → Hp → Prop) (h1 : ∀ R : VK, (∀ b H1, M b H1 → R (.ref b) H1) → tl σ H R)
    (h2 : ∀ b H1, M b H1 → (∃ xs, SqL K H1 b xs) ∧ ∃ W : Nat → Nat → St → Hp → Prop, (∃ m, W 0 m σ H1) ∧ ∀ i m σ H, W i m σ H →
      ((Itl K b).stop i H ∧ D.nx σ H) ∨ ((Itl K b).go i H ∧ ∃ N : St → Hp → Prop, (∀ σ' H', N σ' H' → ∃ m', m' < m ∧ W (i + 1) m' σ' H') ∧ ∀ x H', (Itl K b).yld i H x H' → g x σ H' fun σ2 H2 => tb { D with nx := N, ct := N, bk := D.nx } σ2 H2)) :
    tFor (iList K tl) g tb D σ H := h1 _ fun b H1 m => ⟨b, rfl, (h2 b H1 m).1, (h2 b H1 m).2⟩
theorem cut_tail (xs : List V) : cutV xs (some 1) none = xs.drop 1 := by
  by_cases h : 1 ≤ xs.length
  · exact cut_drop xs 1 h
  · have e : xs = [] := List.length_eq_zero_iff.mp (by omega)
    rw [e]
    rfl
theorem rd_in {neg : Bool} {K : PySem.W.Frag} {H : Hp} {Q : VK} {x : V} {p : Addr} {xs : List V} {b : Bool} (h : H p = some (.lst xs)) (f : flatV x = true) (fs : xs.all flatV = true) (hb : inV x xs = b) (q : Q (.bl (if neg then !b else b)) H) : rIn K neg x (.ref p) H Q :=
  ⟨p, xs, rfl, Or.inl (SqL.of h), f, fs, by rw [hb]; exact q⟩
theorem rd_notin {K : PySem.W.Frag} {H : Hp} {Q : VK} {x : V} {p : Addr} {xs : List V} {b : Bool} (h : H p = some (.lst xs)) (f : flatV x = true) (fs : xs.all flatV = true) (hb : inV x xs = b) (q : Q (.bl (!b)) H) : rIn K true x (.ref p) H Q :=
  rd_in h f fs hb q
theorem rd_isin {K : PySem.W.Frag} {H : Hp} {Q : VK} {x : V} {p : Addr} {xs : List V} {b : Bool} (h : H p = some (.lst xs)) (f : flatV x = true) (fs : xs.all flatV = true) (hb : inV x xs = b) (q : Q (.bl b) H) : rIn K false x (.ref p) H Q :=
  rd_in h f fs hb q
theorem rd_forR {σ : St} {H : Hp} {ta : TA} {n : Int} {g : TG} {tb : TS} {D : Ends} (M : Hp → Prop) (h1 : ∀ R : List V → Hp → Prop, (∀ H1, M H1 → R [.int n] H1) → ta σ H R) (n0 : 0 ≤ n) (n1 : n ≤ 100000)
    (h2 : ∀ H1, M H1 → ∃ W : Nat → Nat → St → Hp → Prop, (∃ m, W 0 m σ H1) ∧ ∀ i m σ H, W i m σ H →
      ((Itr 0 n.toNat).stop i H ∧ D.nx σ H) ∨ ((Itr 0 n.toNat).go i H ∧ ∃ N : St → Hp → Prop, (∀ σ' H', N σ' H' → ∃ m', m' < m ∧ W (i + 1) m' σ' H') ∧ ∀ x H', (Itr 0 n.toNat).yld i H x H' → g x σ H' fun σ2 H2 => tb { D with nx := N, ct := N, bk := D.nx } σ2 H2)) :
    tFor (iRng1 ta) g tb D σ H := h1 _ fun H1 m => ⟨n, rfl, by omega, by omega, h2 H1 m⟩
theorem rd_forRn {σ : St} {H : Hp} {ta : TA} {g : TG} {tb : TS} {D : Ends} (M : Int → Hp → Prop) (h1 : ∀ R : List V → Hp → Prop, (∀ n H1, M n H1 → R [.int n] H1) → ta σ H R)
    (h2 : ∀ n H1, M n H1 → 0 ≤ n ∧ n ≤ 100000 ∧ ∃ W : Nat → Nat → St → Hp → Prop, (∃ m, W 0 m σ H1) ∧ ∀ i m σ H, W i m σ H →
      ((Itr 0 n.toNat).stop i H ∧ D.nx σ H) ∨ ((Itr 0 n.toNat).go i H ∧ ∃ N : St → Hp → Prop, (∀ σ' H', N σ' H' → ∃ m', m' < m ∧ W (i + 1) m' σ' H') ∧ ∀ x H', (Itr 0 n.toNat).yld i H x H' → g x σ H' fun σ2 H2 => tb { D with nx := N, ct := N, bk := D.nx } σ2 H2)) :
    tFor (iRng1 ta) g tb D σ H := h1 _ fun n H1 m => ⟨n, rfl, by have := (h2 n H1 m).1; omega, by have := (h2 n H1 m).2.1; omega, (h2 n H1 m).2.2⟩
/-! ### what calls take, runs -/
def takens : Row → List Nat → List (Option Nat)
  | _, [] => []
  | r, p :: cs => fo r (colOf r p) :: takens (app r p) cs
theorem takens_snoc : ∀ (r : Row) (cs : List Nat) (p : Nat), takens r (cs ++ [p]) = takens r cs ++ [fo (apps r cs) (colOf (apps r cs) p)]
  | _, [], _ => rfl
  | r, q :: cs, p => by
    show fo r (colOf r q) :: takens (app r q) (cs ++ [p]) = fo r (colOf r q) :: (takens (app r q) cs ++ [_])
    rw [takens_snoc (app r q) cs p]
    rfl
theorem takens_len : ∀ (r : Row) (cs : List Nat), (takens r cs).length = cs.length
  | _, [] => rfl
  | r, p :: cs => congrArg (· + 1) (takens_len (app r p) cs)
/-- the last run grows, or a new one begins -/
def rsnoc (acc : List (Int × Nat)) (x : Int) : List (Int × Nat) :=
  match acc.getLast? with
  | some (y, k) => if y = x then acc.set (acc.length - 1) (x, k + 1) else acc ++ [(x, 1)]
  | none => acc ++ [(x, 1)]
def runsI (cs : List Int) : List (Int × Nat) := cs.foldl rsnoc []
theorem runsI_snoc (cs : List Int) (x : Int) : runsI (cs ++ [x]) = rsnoc (runsI cs) x := by
  unfold runsI
  rw [List.foldl_append]
  rfl
theorem rsnoc_len (acc : List (Int × Nat)) (x : Int) : (rsnoc acc x).length ≤ acc.length + 1 := by
  unfold rsnoc
  split
  · split
    · rw [List.length_set]
      omega
    · rw [List.length_append]
      simp
  · rw [List.length_append]
    simp
theorem runs_fold_len : ∀ (cs : List Int) (acc : List (Int × Nat)), (cs.foldl rsnoc acc).length ≤ acc.length + cs.length
  | [], acc => Nat.le_refl _
  | x :: cs, acc => by
    have h1 := runs_fold_len cs (rsnoc acc x)
    have h2 := rsnoc_len acc x
    show (cs.foldl rsnoc (rsnoc acc x)).length ≤ acc.length + (cs.length + 1)
    omega
theorem runsI_len (cs : List Int) : (runsI cs).length ≤ cs.length := by
  have := runs_fold_len cs []
  have e : ([] : List (Int × Nat)).length = 0 := rfl
  rw [e] at this
  unfold runsI
  omega
def shortR (rs : List (Int × Nat)) : List Int := rs.flatMap fun e => List.replicate (if e.2 % 2 = 1 then 1 else 2) e.1
def short (cs : List Int) : List Int := shortR (runsI cs)
theorem shortR_snoc (rs : List (Int × Nat)) (e : Int × Nat) : shortR (rs ++ [e]) = shortR rs ++ List.replicate (if e.2 % 2 = 1 then 1 else 2) e.1 := by
  unfold shortR
  rw [List.flatMap_append, List.flatMap_cons, List.flatMap_nil, List.append_nil]
theorem shortR_len (rs : List (Int × Nat)) : (shortR rs).length ≤ 2 * rs.length := by
  induction rs with
  | nil => exact Nat.le_refl _
  | cons e rs ih =>
    unfold shortR at ih ⊢
    rw [List.flatMap_cons, List.length_append, List.length_replicate, List.length_cons]
    split <;> omega
abbrev prI (e : Int × Nat) : List V := [.int e.1, .int (e.2 : Int)]
/-- tuples of two ints -/
def PairsAt (H : Hp) : List Addr → List (Int × Nat) → Prop
  | [], [] => True
  | t :: ts, e :: r => H t = some (.tup (prI e)) ∧ PairsAt H ts r
  | _, _ => False
theorem PairsAt.len {H : Hp} : ∀ {ts : List Addr} {r : List (Int × Nat)}, PairsAt H ts r → ts.length = r.length
  | [], [], _ => rfl
  | _ :: ts, _ :: r, h => congrArg (· + 1) (PairsAt.len (ts := ts) (r := r) h.2)
  | [], _ :: _, h => h.elim
  | _ :: _, [], h => h.elim
theorem PairsAt.mono {H H' : Hp} : ∀ {ts : List Addr} {r : List (Int × Nat)}, PairsAt H ts r → (∀ b xs, H b = some (.tup xs) → H' b = some (.tup xs)) → PairsAt H' ts r
  | [], [], _, _ => True.intro
  | _ :: ts, _ :: r, h, k => ⟨k _ _ h.1, PairsAt.mono (ts := ts) (r := r) h.2 k⟩
  | [], _ :: _, h, _ => h.elim
  | _ :: _, [], h, _ => h.elim
theorem PairsAt.get {H : Hp} : ∀ {ts : List Addr} {r : List (Int × Nat)} {i : Nat} {t : Addr}, PairsAt H ts r → ts[i]? = some t → ∃ e, r[i]? = some e ∧ H t = some (.tup (prI e))
  | [], [], i, t, _, h => by simp at h
  | _ :: ts, e :: r, 0, t, h, q => by
    simp at q
    subst q
    exact ⟨e, rfl, h.1⟩
  | _ :: ts, _ :: r, i + 1, t, h, q => by
    simp at q
    obtain ⟨e, h1, h2⟩ := PairsAt.get (ts := ts) (r := r) h.2 q
    exact ⟨e, by simpa using h1, h2⟩
  | [], _ :: _, _, _, h, _ => h.elim
  | _ :: _, [], _, _, h, _ => h.elim
theorem PairsAt.snoc {H : Hp} {t : Addr} {e : Int × Nat} (ht : H t = some (.tup (prI e))) : ∀ {ts : List Addr} {r : List (Int × Nat)}, PairsAt H ts r → PairsAt H (ts ++ [t]) (r ++ [e])
  | [], [], _ => ⟨ht, True.intro⟩
  | _ :: ts, _ :: r, h => ⟨h.1, PairsAt.snoc ht (ts := ts) (r := r) h.2⟩
  | [], _ :: _, h => h.elim
  | _ :: _, [], h => h.elim
theorem PairsAt.set {H : Hp} {t : Addr} {e : Int × Nat} (ht : H t = some (.tup (prI e))) : ∀ {ts : List Addr} {r : List (Int × Nat)} (j : Nat), PairsAt H ts r → PairsAt H (ts.set j t) (r.set j e)
  | [], [], _, _ => True.intro
  | _ :: ts, _ :: r, 0, h => ⟨ht, h.2⟩
  | _ :: ts, _ :: r, j + 1, h => ⟨h.1, PairsAt.set ht (ts := ts) (r := r) j h.2⟩
  | [], _ :: _, _, h => h.elim
  | _ :: _, [], _, h => h.elim
theorem PairsAt.last {H : Hp} {ts : List Addr} {r : List (Int × Nat)} (h : PairsAt H ts r) {e : Int × Nat} (he : r.getLast? = some e) : ∃ t, ts[ts.length - 1]? = some t ∧ H t = some (.tup (prI e)) := by
  have hl := h.len
  rw [List.getLast?_eq_getElem?] at he
  have h1 : r.length - 1 < r.length := (List.getElem?_eq_some_iff.mp he).1
  have h2 : ts.length - 1 < ts.length := by omega
  have h3 := List.getElem?_eq_getElem h2
  obtain ⟨e', h4, h5⟩ := h.get h3
  rw [show ts.length - 1 = r.length - 1 by omega, he] at h4
  cases h4
  exact ⟨_, h3, h5⟩
theorem at_neg1 {α : Type} {l : List α} {x : α} (h : l[l.length - 1]? = some x) : atI l (-1) = some x := by
  have h1 := (List.getElem?_eq_some_iff.mp h).1
  unfold atI ixN
  rw [if_neg (by omega), if_pos (by omega)]
  show l[((-1 : Int) + l.length).toNat]? = _
  rw [show ((-1 : Int) + l.length).toNat = l.length - 1 by omega]
  exact h
theorem ix_neg1 {n : Nat} (h : 0 < n) : ixN n (-1) = some (n - 1) := by
  unfold ixN
  rw [if_neg (by omega), if_pos (by omega)]
  congr 1
  omega
theorem rd_truL {K : PySem.W.Frag} {H : Hp} {p : Addr} {xs : List V} {R : Bool → Prop} (h : H p = some (.lst xs)) (q : R (!xs.isEmpty)) : ∃ k, TruV K (.ref p) H k ∧ R k := ⟨_, Or.inl ⟨xs, SqL.of h, rfl⟩, q⟩
theorem rd_qtru {K : PySem.W.Frag} {σ : St} {H : Hp} {ta : TE} {Q : Bool → Hp → Prop} (q : ta σ H fun x H' => ∃ k, TruV K x H' k ∧ Q k H') : qTru K ta σ H Q := q
theorem sz1000 {n : Nat} (h : n ≤ 100000) : n < sizeLine := Nat.lt_of_le_of_lt h (by decide)
/-- a row that is filtered, its entries as they stand -/
theorem filt_turn {H : Hp} {us : List Addr} {r : Row} {i : Nat} {p : Nat × Nat → Bool} {t : Addr} {e : Nat × Nat} (h : TupsAt H us ((r.take i).filter p)) (he : r[i]? = some e) (ht : H t = some (.tup (pr e))) :
    TupsAt H (if p e = true then us ++ [t] else us) ((r.take (i + 1)).filter p) := by
  rw [take_of he, List.filter_append]
  by_cases c : p e = true
  · rw [if_pos c, List.filter_cons_of_pos c]
    exact h.app (TupsAt.one ht)
  · rw [if_neg c, List.filter_cons_of_neg c]
    show TupsAt H us (_ ++ [])
    rw [List.append_nil]
    exact h
/-- what happens to the runs, by the last one -/
theorem rsnoc_grow {acc : List (Int × Nat)} {x : Int} {k : Nat} (h : acc.getLast? = some (x, k)) : rsnoc acc x = acc.set (acc.length - 1) (x, k + 1) := by
  unfold rsnoc
  rw [h]
  show (if x = x then _ else _) = _
  rw [if_pos rfl]
theorem rsnoc_new {acc : List (Int × Nat)} {x y : Int} {k : Nat} (h : acc.getLast? = some (y, k)) (n : y ≠ x) : rsnoc acc x = acc ++ [(x, 1)] := by
  unfold rsnoc
  rw [h]
  show (if y = x then _ else _) = _
  rw [if_neg n]
theorem rsnoc_nil (x : Int) : rsnoc [] x = [(x, 1)] := rfl
theorem last_of_ne {acc : List (Int × Nat)} (h : acc ≠ []) : ∃ e, acc.getLast? = some e := ⟨_, List.getLast?_eq_some_getLast h⟩
theorem rd_iteJ {b : Bool} {σ : St} {H : Hp} {ta tb : TE} {Q : VK} (v : V) (h1 : b = true → ∀ R : VK, R v H → ta σ H R) (h2 : b = false → ∀ R : VK, R v H → tb σ H R) (q : Q v H) : if b = true then ta σ H Q else tb σ H Q := by
  cases b with
  | true => exact iteT (h1 rfl _ q)
  | false => exact iteF (h2 rfl _ q)
end LX

/-! ### comprehensions that add only new objects: the list they make -/
namespace LX
open PySem L2
theorem range_fm {α β : Type} (f : α → Option β) : ∀ l : List α, (List.range l.length).filterMap (fun i => (l[i]?).bind f) = l.filterMap f
  | [] => rfl
  | x :: l => by
    rw [List.length_cons, List.range_succ_eq_map, List.filterMap_cons, List.filterMap_map]
    have ih := range_fm f l
    show (match f x with | none => _ | some b => b :: _) = _
    have e : ((fun i => ((x :: l)[i]?).bind f) ∘ Nat.succ) = fun i => (l[i]?).bind f := rfl
    rw [e, ih]
    cases q : f x with
    | none => rw [List.filterMap_cons_none q]
    | some y => rw [List.filterMap_cons_some q]
section
variable {K : PySem.W.Frag} {a D : Addr} {xs : List V} {g : TG} {tt : TT} {te : TE} {vs : List Nat} {σ : L2.St} {H1 : Hp} {Qd : Hp → Prop}
theorem lc_ix (f : Nat → Option V) (hD : H1 D = none) (ha : ∀ H, Same H1 H → SqL K H a xs) (hz : xs.length ≤ 1000)
    (hs : ∀ i x, xs[i]? = some x → ∀ H, Same H1 H → ∀ (T : V → Hp → Prop) (F : Hp → Prop), (∀ y H', f i = some y → Same H H' → T y H') → (∀ H', f i = none → Same H H' → F H') →
      g x (wipe σ vs) H fun σ2 H2 => wipe σ2 vs = wipe σ vs ∧ tt σ2 H2 fun b H3 => if b = true then te σ2 H3 T else F H3)
    (hd : ∀ H', Same H1 H' → H' D = some (.lst ((List.range xs.length).filterMap f)) → Qd H') :
    ∃ W : Nat → Nat → Hp → Prop, (∃ m, W 0 m (upd H1 D (.lst []))) ∧ ∀ i m H, W i m H →
      ((Itl K a).stop i H ∧ Qd H) ∨ ((Itl K a).go i H ∧ ∃ Nx : Hp → Prop, (∀ H', Nx H' → ∃ m', m' < m ∧ W (i + 1) m' H') ∧ ∀ x H', (Itl K a).yld i H x H' → g x (wipe σ vs) H' fun σ2 H2 => wipe σ2 vs = wipe σ vs ∧ tt σ2 H2 fun b H3 =>
        if b = true then te σ2 H3 fun y H4 => ∃ acc, H4 D = some (.lst acc) ∧ acc.length < sizeLine ∧ Nx (upd H4 D (.lst (acc ++ [y]))) else Nx H3) := by
  refine lc_list (K := K) (a := a) (xs := xs) (fun i H => Same H1 H ∧ H D = some (.lst ((List.range i).filterMap f)) ∧ i ≤ 1000) ⟨sNew hD, upd_same, Nat.zero_le _⟩ (fun i H _ h => ha H h.1) ?_ ?_
  · rintro i x H hi ⟨s, e, hi2⟩
    have hil : i < xs.length := (List.getElem?_eq_some_iff.mp hi).1
    have ln : ((List.range i).filterMap f).length ≤ i := by
      have := List.length_filterMap_le f (List.range i)
      rw [List.length_range] at this
      exact this
    refine hs i x hi H s _ _ (fun y H' hy s2 => ⟨_, s2 _ _ e, small1000 (Nat.le_trans ln hi2), sUpd (s.trans s2) hD, ?_, by omega⟩) fun H' hn s2 => ⟨s.trans s2, ?_, by omega⟩
    · rw [upd_same, List.range_succ, List.filterMap_append, List.filterMap_cons_some hy]
      rfl
    · rw [s2 _ _ e, List.range_succ, List.filterMap_append, List.filterMap_cons_none hn]
      show _ = some (HO.lst (_ ++ []))
      rw [List.append_nil]
  · rintro H ⟨s, e, _⟩
    exact hd H s e
theorem lc_rng {n : Nat} (f : Nat → Option V) (hD : H1 D = none) (hz : n ≤ 1000)
    (hs : ∀ i, i < n → ∀ H, Same H1 H → ∀ (T : V → Hp → Prop) (F : Hp → Prop), (∀ y H', f i = some y → Same H H' → T y H') → (∀ H', f i = none → Same H H' → F H') →
      g (.int (i : Int)) (wipe σ vs) H fun σ2 H2 => wipe σ2 vs = wipe σ vs ∧ tt σ2 H2 fun b H3 => if b = true then te σ2 H3 T else F H3)
    (hd : ∀ H', Same H1 H' → H' D = some (.lst ((List.range n).filterMap f)) → Qd H') :
    ∃ W : Nat → Nat → Hp → Prop, (∃ m, W 0 m (upd H1 D (.lst []))) ∧ ∀ i m H, W i m H →
      ((Itr 0 n).stop i H ∧ Qd H) ∨ ((Itr 0 n).go i H ∧ ∃ Nx : Hp → Prop, (∀ H', Nx H' → ∃ m', m' < m ∧ W (i + 1) m' H') ∧ ∀ x H', (Itr 0 n).yld i H x H' → g x (wipe σ vs) H' fun σ2 H2 => wipe σ2 vs = wipe σ vs ∧ tt σ2 H2 fun b H3 =>
        if b = true then te σ2 H3 fun y H4 => ∃ acc, H4 D = some (.lst acc) ∧ acc.length < sizeLine ∧ Nx (upd H4 D (.lst (acc ++ [y]))) else Nx H3) := by
  refine lc_range (lo := 0) (n := n) (fun i H => Same H1 H ∧ H D = some (.lst ((List.range i).filterMap f)) ∧ i ≤ 1000) ⟨sNew hD, upd_same, Nat.zero_le _⟩ ?_ ?_
  · rintro i H hi ⟨s, e, hi2⟩
    have ln : ((List.range i).filterMap f).length ≤ i := by
      have := List.length_filterMap_le f (List.range i)
      rw [List.length_range] at this
      exact this
    rw [Int.zero_add]
    refine hs i hi H s _ _ (fun y H' hy s2 => ⟨_, s2 _ _ e, small1000 (Nat.le_trans ln hi2), sUpd (s.trans s2) hD, ?_, by omega⟩) fun H' hn s2 => ⟨s.trans s2, ?_, by omega⟩
    · rw [upd_same, List.range_succ, List.filterMap_append, List.filterMap_cons_some hy]
      rfl
    · rw [s2 _ _ e, List.range_succ, List.filterMap_append, List.filterMap_cons_none hn]
      show _ = some (HO.lst (_ ++ []))
      rw [List.append_nil]
  · rintro H ⟨s, e, _⟩
    exact hd H s e
theorem rd_lc {wi : TI} {H : Hp} {Q : VK} (q : wi σ H fun J H1 => ∀ D, H1 D = none → ∃ W : Nat → Nat → Hp → Prop, (∃ m, W 0 m (upd H1 D (.lst []))) ∧ ∀ i m H, W i m H →
  (J.stop i H ∧ Q (.ref D) H) ∨ (J.go i H ∧ ∃ Nx : Hp → Prop, (∀ H', Nx H' → ∃ m', m' < m ∧ W (i + 1) m' H') ∧ ∀ x H', J.yld i H x H' → g x (wipe σ vs) H' fun σ2 H2 => wipe σ2 vs = wipe σ vs ∧ tt σ2 H2 fun b H3 =>
    if b = true then te σ2 H3 fun y H4 => ∃ acc, H4 D = some (.lst acc) ∧ acc.length < sizeLine ∧ Nx (upd H4 D (.lst (acc ++ [y]))) else Nx H3)) : tLc wi g tt te vs σ H Q := q
theorem rd_iR {ta : TA} {H : Hp} {R : It → Hp → Prop} (q : ta σ H fun vs H1 => ∃ j : Int, vs = [.int j] ∧ -(2 ^ 62) ≤ j ∧ j < 2 ^ 62 ∧ R (Itr 0 j.toNat) H1) : iRng1 ta σ H R := q
theorem rd_n {n : Nat} {R : It → Prop} (h : n ≤ 1000) (q : R (Itr 0 n)) : ∃ j : Int, [V.int (n : Int)] = [.int j] ∧ -(2 ^ 62) ≤ j ∧ j < 2 ^ 62 ∧ R (Itr 0 j.toNat) := ⟨n, rfl, by omega, by omega, q⟩
/-- over a list of plain values -/
theorem lc_vals {α : Type} {zs : List α} {v : α → V} (f : α → Option V) (hD : H1 D = none) (ha : H1 a = some (.lst (zs.map v))) (hz : zs.length ≤ 1000)
    (hs : ∀ x, x ∈ zs → ∀ H, Same H1 H → ∀ (T : V → Hp → Prop) (F : Hp → Prop), (∀ y H', f x = some y → Same H H' → T y H') → (∀ H', f x = none → Same H H' → F H') →
      g (v x) (wipe σ vs) H fun σ2 H2 => wipe σ2 vs = wipe σ vs ∧ tt σ2 H2 fun b H3 => if b = true then te σ2 H3 T else F H3)
    (hd : ∀ H', Same H1 H' → H' D = some (.lst (zs.filterMap f)) → Qd H') :
    ∃ W : Nat → Nat → Hp → Prop, (∃ m, W 0 m (upd H1 D (.lst []))) ∧ ∀ i m H, W i m H →
      ((Itl K a).stop i H ∧ Qd H) ∨ ((Itl K a).go i H ∧ ∃ Nx : Hp → Prop, (∀ H', Nx H' → ∃ m', m' < m ∧ W (i + 1) m' H') ∧ ∀ x H', (Itl K a).yld i H x H' → g x (wipe σ vs) H' fun σ2 H2 => wipe σ2 vs = wipe σ vs ∧ tt σ2 H2 fun b H3 =>
        if b = true then te σ2 H3 fun y H4 => ∃ acc, H4 D = some (.lst acc) ∧ acc.length < sizeLine ∧ Nx (upd H4 D (.lst (acc ++ [y]))) else Nx H3) := by
  refine lc_ix (xs := zs.map v) (fun i => (zs[i]?).bind f) hD (fun H s => SqL.of (s _ _ ha)) (by rw [List.length_map]; exact hz) (fun i x hi H s T F hT hF => ?_) fun H' s e => hd H' s ?_
  · rw [List.getElem?_map] at hi
    obtain ⟨z, h1, rfl⟩ := Option.map_eq_some_iff.mp hi
    refine hs z (List.mem_of_getElem? h1) H s T F (fun y H' hy => hT y H' ?_) fun H' hn => hF H' ?_
    · rw [h1]
      exact hy
    · rw [h1]
      exact hn
  · rw [List.length_map, range_fm] at e
    exact e
/-- over a row -/
theorem lc_row {ts : List Addr} {r : Row} (f : Nat × Nat → Option V) (hD : H1 D = none) (ha : H1 a = some (.lst (ts.map V.ref))) (ht : TupsAt H1 ts r) (hz : r.length ≤ 1000)
    (hs : ∀ t e, e ∈ r → t ∈ ts → ∀ H, Same H1 H → H t = some (.tup (pr e)) → ∀ (T : V → Hp → Prop) (F : Hp → Prop), (∀ y H', f e = some y → Same H H' → T y H') → (∀ H', f e = none → Same H H' → F H') →
      g (.ref t) (wipe σ vs) H fun σ2 H2 => wipe σ2 vs = wipe σ vs ∧ tt σ2 H2 fun b H3 => if b = true then te σ2 H3 T else F H3)
    (hd : ∀ H', Same H1 H' → H' D = some (.lst (r.filterMap f)) → Qd H') :
    ∃ W : Nat → Nat → Hp → Prop, (∃ m, W 0 m (upd H1 D (.lst []))) ∧ ∀ i m H, W i m H →
      ((Itl K a).stop i H ∧ Qd H) ∨ ((Itl K a).go i H ∧ ∃ Nx : Hp → Prop, (∀ H', Nx H' → ∃ m', m' < m ∧ W (i + 1) m' H') ∧ ∀ x H', (Itl K a).yld i H x H' → g x (wipe σ vs) H' fun σ2 H2 => wipe σ2 vs = wipe σ vs ∧ tt σ2 H2 fun b H3 =>
        if b = true then te σ2 H3 fun y H4 => ∃ acc, H4 D = some (.lst acc) ∧ acc.length < sizeLine ∧ Nx (upd H4 D (.lst (acc ++ [y]))) else Nx H3) := by
  have hl := ht.len
  refine lc_ix (xs := ts.map V.ref) (fun i => (r[i]?).bind f) hD (fun H s => SqL.of (s _ _ ha)) (by rw [List.length_map, hl]; exact hz) (fun i x hi H s T F hT hF => ?_) fun H' s e => hd H' s ?_
  · rw [List.getElem?_map] at hi
    obtain ⟨t, h1, rfl⟩ := Option.map_eq_some_iff.mp hi
    obtain ⟨e, h2, h3⟩ := ht.get h1
    refine hs t e (List.mem_of_getElem? h2) (List.mem_of_getElem? h1) H s (s _ _ h3) T F (fun y H' hy => hT y H' ?_) fun H' hn => hF H' ?_
    · rw [h2]
      exact hy
    · rw [h2]
      exact hn
  · rw [List.length_map, hl, range_fm] at e
    exact e
/-- over a row, the entries as they stand -/
theorem lc_rowF {ts : List Addr} {r : Row} (p : Nat × Nat → Bool) (hD : H1 D = none) (ha : H1 a = some (.lst (ts.map V.ref))) (ht : TupsAt H1 ts r) (hz : r.length ≤ 1000)
    (hs : ∀ t e, e ∈ r → ∀ H, Same H1 H → H t = some (.tup (pr e)) → ∀ (T : V → Hp → Prop) (F : Hp → Prop), (∀ H', p e = true → Same H H' → T (.ref t) H') → (∀ H', ¬ p e = true → Same H H' → F H') →
      g (.ref t) (wipe σ vs) H fun σ2 H2 => wipe σ2 vs = wipe σ vs ∧ tt σ2 H2 fun b H3 => if b = true then te σ2 H3 T else F H3)
    (hd : ∀ H' us, Same H1 H' → H' D = some (.lst (us.map V.ref)) → TupsAt H' us (r.filter p) → Qd H') :
    ∃ W : Nat → Nat → Hp → Prop, (∃ m, W 0 m (upd H1 D (.lst []))) ∧ ∀ i m H, W i m H →
      ((Itl K a).stop i H ∧ Qd H) ∨ ((Itl K a).go i H ∧ ∃ Nx : Hp → Prop, (∀ H', Nx H' → ∃ m', m' < m ∧ W (i + 1) m' H') ∧ ∀ x H', (Itl K a).yld i H x H' → g x (wipe σ vs) H' fun σ2 H2 => wipe σ2 vs = wipe σ vs ∧ tt σ2 H2 fun b H3 =>
        if b = true then te σ2 H3 fun y H4 => ∃ acc, H4 D = some (.lst acc) ∧ acc.length < sizeLine ∧ Nx (upd H4 D (.lst (acc ++ [y]))) else Nx H3) := by
  have hl := ht.len
  refine lc_list (K := K) (a := a) (xs := ts.map V.ref) (fun i H => Same H1 H ∧ ∃ us, H D = some (.lst (us.map V.ref)) ∧ TupsAt H us ((r.take i).filter p)) ⟨sNew hD, [], upd_same, True.intro⟩ (fun i H _ h => SqL.of (h.1 _ _ ha)) ?_ ?_
  · rintro i x H hi ⟨s, us, e, hU⟩
    rw [List.getElem?_map] at hi
    obtain ⟨t, h1, rfl⟩ := Option.map_eq_some_iff.mp hi
    obtain ⟨en, h2, h3⟩ := ht.get h1
    have hz2 := hU.len
    have ln : us.length ≤ 1000 := by
      have q := List.length_filter_le p (r.take i)
      rw [List.length_take] at q
      omega
    refine hs t en (List.mem_of_getElem? h2) H s (s _ _ h3) _ _ (fun H' c s2 => ⟨_, s2 _ _ e, small1000 (by rw [List.length_map]; exact ln), sUpd (s.trans s2) hD, us ++ [t], ?_, ?_⟩) fun H' c s2 => ⟨s.trans s2, us, s2 _ _ e, ?_⟩
    · rw [upd_same, List.map_append]
      rfl
    · have q := filt_turn hU h2 (s _ _ h3)
      rw [if_pos c] at q
      refine q.mono fun b ys eb => ?_
      have nb : b ≠ D := fun z => by
        rw [z, e] at eb
        cases eb
      rw [upd_ne nb]
      exact s2 _ _ eb
    · have q := filt_turn hU h2 (s _ _ h3)
      rw [if_neg c] at q
      exact q.mono (sTups s2)
  · rintro H ⟨s, us, e, hU⟩
    rw [List.length_map, hl, List.take_length] at hU
    exact hd H us s e hU
end
/-! ### the colors of the others -/
def ot (r : Row) (w : Nat) : List Nat := (r.filter fun e => e.1 != w).map (·.2)
theorem fm_if {α : Type} {p : α → Bool} {v : α → V} : ∀ l : List α, l.filterMap (fun e => if p e = true then some (v e) else none) = (l.filter p).map v
  | [] => rfl
  | x :: l => by
    by_cases h : p x = true
    · rw [List.filterMap_cons_some (b := v x) (by rw [if_pos h]), List.filter_cons_of_pos h, List.map_cons, fm_if l]
    · rw [List.filterMap_cons_none (by rw [if_neg h]), List.filter_cons_of_neg h, fm_if l]
theorem fm_all {α : Type} {v : α → V} : ∀ l : List α, l.filterMap (fun e => some (v e)) = l.map v
  | [] => rfl
  | x :: l => by
    have e : (x :: l).filterMap (fun e => some (v e)) = v x :: l.filterMap fun e => some (v e) := List.filterMap_cons_some (f := fun e => some (v e)) rfl
    rw [e, fm_all l, List.map_cons]
theorem colOf_is {r : Row} (nd : (r.map (·.1)).Nodup) {e : Nat × Nat} (he : e ∈ r) : colOf r e.1 = e.2 := by
  induction r with
  | nil => cases he
  | cons x r ih =>
    have nd' := List.nodup_cons.mp (show (x.1 :: r.map (·.1)).Nodup from nd)
    unfold colOf
    rcases List.mem_cons.mp he with z | z
    · rw [z, List.find?_cons_of_pos (by simp)]
      rfl
    · have : x.1 ≠ e.1 := fun q => nd'.1 (by rw [q]; exact List.mem_map_of_mem (f := (·.1)) z)
      rw [List.find?_cons_of_neg (by simpa using this)]
      exact ih nd'.2 z
theorem ot_find {c w : Nat} : ∀ {r : Row}, (∀ e ∈ r, e.1 = w → e.2 = c) → (ot r w).find? (fun x => x != c) = fo r c
  | [], _ => rfl
  | e :: r, h => by
    have ih := ot_find (r := r) fun x hx => h x (List.mem_cons_of_mem _ hx)
    by_cases k : e.1 = w
    · rw [fo_no (h e List.mem_cons_self k), ← ih]
      unfold ot
      rw [List.filter_cons_of_neg (by simpa using k)]
    · have e2 : ot (e :: r) w = e.2 :: ot r w := by
        unfold ot
        rw [List.filter_cons_of_pos (by simpa using k)]
        rfl
      rw [e2]
      by_cases d : e.2 = c
      · rw [fo_no d, ← ih, List.find?_cons_of_neg (by simpa using d)]
      · rw [fo_yes d, List.find?_cons_of_pos (by simpa using d)]
/-- what a called person takes, counted from the others -/
def cand (o : List Nat) (c : Nat) : List Nat := (o.take 1).filter (fun x => x != c) ++ o.filter fun x => x != o.headD 0
theorem cand_head (o : List Nat) (c : Nat) : (cand o c).head? = o.find? fun x => x != c := by
  unfold cand
  cases o with
  | nil => rfl
  | cons x o =>
    show (([x] : List Nat).filter (fun y => y != c) ++ (x :: o).filter fun y => y != x).head? = _
    by_cases h : x = c
    · rw [List.filter_cons_of_neg (by simpa using h), List.filter_nil, List.nil_append, List.filter_cons_of_neg (by simp), List.head?_filter, List.find?_cons_of_neg (by simpa using h), h]
    · rw [List.filter_cons_of_pos (by simpa using h), List.find?_cons_of_pos (by simpa using h)]
      rfl
theorem cand_is {r : Row} (h : Vr r) {w : Nat} : (cand (ot r w) (colOf r w)).head? = fo r (colOf r w) := by
  rw [cand_head]
  exact ot_find fun e he k => by rw [← k, colOf_is h.nodup he]
/-- letters as data -/
abbrev dS (cs : List Nat) : PyData := .list (cs.map fun c => .str ⟨#[c]⟩)
theorem dp_strs {K : PySem.W.Frag} {H : Hp} : ∀ cs : List Nat, DpAll K H (cs.map sg) (cs.map fun c => PyData.str ⟨#[c]⟩)
  | [] => .nil
  | c :: cs => .cons (.str _) (dp_strs cs)
theorem lay_strs : ∀ cs : List Nat, (∀ c ∈ cs, c ≤ 122) → PyData.canLayAll0 (cs.map fun c => PyData.str ⟨#[c]⟩) = true ∧ PyData.depthAll (cs.map fun c => PyData.str ⟨#[c]⟩) ≤ 1
  | [], _ => by
    simp only [List.map_nil, PyData.canLayAll0, PyData.depthAll]
    exact ⟨trivial, Nat.zero_le _⟩
  | c :: cs, h => by
    obtain ⟨h1, h2⟩ := lay_strs cs fun x hx => h x (List.mem_cons_of_mem _ hx)
    simp only [List.map_cons, PyData.canLayAll0, PyData.canLay0, PyData.depthAll, PyData.depth]
    rw [h1, str_ok (h c List.mem_cons_self)]
    exact ⟨rfl, by omega⟩
theorem shp_strs (cs : List Nat) (h : ∀ c ∈ cs, c ≤ 122) : SeqAt.shaped (dS cs) = true := by
  obtain ⟨h1, h2⟩ := lay_strs cs h
  refine Bool.and_eq_true_iff.mpr ⟨?_, decide_eq_true ?_⟩
  · simp only [PyData.canLay0]
    exact h1
  · simp only [PyData.depth]
    omega
theorem eqv_nilS (cs : List Nat) : PyData.eqv (dS cs) (.list []) = cs.isEmpty := by
  cases cs with
  | nil => rfl
  | cons n ns => simp [PyData.eqv, PyData.eqvAll]
theorem cut1 (xs : List V) : cutV xs none (some 1) = xs.take 1 := by
  unfold cutV HT.sIx
  cases xs with
  | nil => rfl
  | cons x xs => simp
end LX

/-! ### defs that show data (repr): the same promises, said where no repr runs -/
namespace LX
open PySem L2
open PySem.Spec PyProof.Rows
/-- as FnOk, for callers among whom no repr runs -/
structure FnG (P : Program) (w : World) (K : PySem.W.Frag) (mg : Str → Option Value) (base : Heap) (k : Nat) (f : Addr) (fd : FuncData) (ps : List Str) (sp : Sp) : Prop where
  len : ∀ vs H Q E, sp vs H Q E → vs.length = ps.length
  go : ∀ (A : Around) (o : List Env) (s : Shared) (H : Hp) (ar : Args) (us : List Value) (vs : List V) (Q : VK) (E : XK), Room k A → A.guards = some [] → Env0 P w K mg base A o s H →
    BindsTo s fd ar (ps.zip us) → Vals vs us → sp vs H Q E → codeAny (model P w) A (.call (.ref f) ar) (CR CX0 o P w H s Q E) s
section
variable {P : Program} {w : World} {K : PySem.W.Frag} {mg : Str → Option Value} {base : Heap} {x qual : Str} {st : Stmt} {f : Addr} {fd : FuncData} {N ps : List Str} {k : Nat} {sp : Sp}
/-- a def of the text by its body, as Fun.ok, with the word that no repr runs around it -/
theorem fnG (F : Fun K x qual st f fd) (S : FnScope N ps (defScope st)) (len : ∀ vs H Q E, sp vs H Q E → vs.length = ps.length)
    (body : ∀ (cdv : Value) (A : Around) (outer : List Env) (s : Shared) (H : Hp) (vs : List V) (Q : VK) (E : XK), Room k (A.deeper (envOfC qual (defScope st) s.heap.objs.size f cdv)) →
      (A.deeper (envOfC qual (defScope st) s.heap.objs.size f cdv)).guards = some [] → sp vs H Q E →
      ∃ t, PSs (cxOf CX0 P w K mg base N qual (defScope st) f cdv A outer s H E).nox (defBody st) t ∧ t { nx := fun _ H' => Q .non H', rt := Q } (start N vs) H) :
    FnG P w K mg base (k + 1) f fd ps sp := by
  obtain ⟨oc, od, kV, doc, pm, an, cdv, ct, osl, rfl, lk, hcd⟩ := F.ex
  constructor
  · exact len
  intro A o s H ar us vs Q E room quiet e0 bind r want
  have n := len vs H Q E want
  have KH := e0.mod.kin.keeps fun b ob e => (e0.bs b ob e).1
  have NL := e0.mod.nolimit.keeps fun b ob e => (e0.bs b ob e).1
  -- every parameter is a local or a cell
  have par : ∀ q ∈ ps.zip us, (defScope st).names.lookup q.1 = some .local ∨ ((defScope st).names.lookup q.1 = some .cell ∧ ((cellsFrom (s.heap.objs.size + 1) (defScope st).names []).lookup q.1).isSome = true) := by
    intro q hq
    have hm : q.1 ∈ ps := (List.of_mem_zip (show (q.1, q.2) ∈ ps.zip us from hq)).1
    exact (S.par q.1 hm).imp id fun c => ⟨c, PySem.W.cellsFrom_some _ _ _ (Or.inl c)⟩
  apply codeAny_call_function room.depth (KH _ _ lk) rfl S.co S.gen rfl (PySem.W.codeRec_of KH hcd)
  apply bind
  apply wpAny_newFunctionEnv_cells S.kind par
  intro env henv s1 made
  cases henv
  refine ⟨NL.keeps made.toInCall.keep, ?_⟩
  apply codeAny_func
  obtain ⟨t, der, rd⟩ := body cdv A o s H vs Q E (room.deeper _) quiet want
  have inv := inv_start (CX := CX0) (E := E) (N := N) S room.hd e0 n r made
  apply wpAny_mono (der.nox.run [] s1 (start N vs) H _ inv rd)
  · intro fl s2 hs
    cases fl with
    | brk =>
      obtain ⟨_, _, _, no⟩ := hs
      exact no.elim
    | cont =>
      obtain ⟨_, _, _, no⟩ := hs
      exact no.elim
    | next =>
      obtain ⟨σ', H', J, q⟩ := hs
      exact ⟨.non, H', J.os, J.bare, J.base, J.hok, rfl, q⟩
    | ret u =>
      obtain ⟨v, σ', H', J, rv, q⟩ := hs
      exact ⟨v, H', J.os, J.bare, J.base, J.hok, rv, q⟩
  · exact fun _ _ z => z
theorem FnG.mono {j : Nat} (F : FnG P w K mg base j f fd ps sp) (h : j ≤ k) : FnG P w K mg base k f fd ps sp := ⟨F.len, fun A o s H ar us vs Q E room => F.go A o s H ar us vs Q E (room.mono h)⟩
end
section
variable {X : Cx} {k n : Nat} {f : Addr} {fd : FuncData} {ps ks : List Str} {sp : Sp} {x : Str} {p pos : Pos} {e : Expr} {es : List Expr} {kws : List Keyword} {t tk : TA} {g : List Value → List Value → List Value} {gV : List V → List V → List V}
/-- f(e, ..), f a def that shows data -/
theorem pe_callG (F : FnG X.prog X.w X.K X.mg X.base k f fd ps sp) (room : Room k X.A) (quiet : X.A.guards = some []) (g0 : Gl X x) (g1 : X.mg x = some (.ref f)) (g2 : PySem.W.keepIn X.K (.ref f) = true) (b : Binds X.K fd ps [])
    (ha : PA X (e :: es) t) (q0 : (x == ("__debug__" : Str)) = false := by decide) (q1 : starEach (e :: es) X.env = (false, eval e X.env) :: starEach es X.env := by rfl) (q2 : (backTo pos (starEach es X.env)).any (·.1) = false := by rfl) :
    PE X (.Call (.Name x p) (e :: es) [] pos) (tCall sp [] E0 t) := by
  constructor
  intro pins s σ H Q I h
  apply wpAny_Call_Name_kw
  apply ld_glob I g0 g1 _ q0
  refine PySem.W.callWith_K (h₀ := X.base) I.ok.mod.kin g2 (thn (ha.run pos pins s σ H _ I h) ?_) q1 q2
  rintro us s1 ⟨vs, H1, J, r, q⟩
  refine ⟨J.kIn, ?_⟩
  have q' : sp vs H1 Q E0 := by rw [List.append_nil] at q; exact q
  have lu : (us ++ []).length = ps.length := by
    rw [List.append_nil, ← r.length]
    exact F.len _ _ _ _ q'
  have bd := b s1 us J.kIn lu
  rw [List.append_nil] at bd
  refine wpAny_call (codeAny_mono (F.go X.A X.stack s1 H1 ⟨us, []⟩ us vs Q E0 room quiet J.env0 bd r q') ?_)
  intro res s2 hq
  match res, hq with
  | .error _, hq => exact hq.elim
  | .ok (.ret _), hq => exact J.after hq
  | .ok .next, hq => exact hq.elim
  | .ok .brk, hq => exact hq.elim
  | .ok .cont, hq => exact hq.elim
/-- f(k = v, ..): nothing by position -/
theorem pe_callN0 (F : FnOk X.prog X.w X.K X.mg X.base CX0 k f fd ps sp) (room : Room k X.A) (g0 : Gl X x) (g1 : X.mg x = some (.ref f)) (g2 : PySem.W.keepIn X.K (.ref f) = true) (b : KBn X.K fd ps 0 ks g gV) (hk : PK X kws tk)
    (q1 : (backToKw pos (keywordEach kws X.env)).all (·.1.isSome) = true := by rfl) (q2 : (backToKw pos (keywordEach kws X.env)).filterMap (·.1) = ks := by rfl) (q0 : (x == ("__debug__" : Str)) = false := by decide)
    (q3 : ((backTo pos (starEach [] X.env)).any (·.1) || (backToKw pos (keywordEach kws X.env)).any (·.1.isNone)) = false := by rfl) :
    PE X (.Call (.Name x p) [] kws pos) (tCallN 0 ks.length sp gV E0 tNil tk) := by
  constructor
  intro pins s σ H Q I h
  apply wpAny_Call_Name_kw
  apply ld_glob I g0 g1 _ q0
  refine PySem.W.callWith_KW0 (h₀ := X.base) I.ok.mod.kin g2 q1 ?_ q3
  refine thn (hk.run pos pins s σ H _ I h) ?_
  rintro ws s2 ⟨zs, H2, J, rz, l1, l2, q⟩
  refine ⟨J.kIn, ?_⟩
  rw [q2]
  exact run_fnN (us := []) (vs := []) F room b pass0 J .nil rz l1 l2 q
/-- repr of data: none, bools, ints, texts, lists and tuples of these -/
def qRepr (K : PySem.W.Frag) : List V → Hp → VK → Prop := fun vs H Q => ∃ (v : V) (d : PyData), vs = [v] ∧ (∃ a, v = .ref a) ∧ Dp K H v d ∧ d.showable = true ∧ d.hasDict = false ∧ d.depth ≤ 20 ∧ d.shown.length ≤ sizeLine ∧ Q (.str d.shown) H
theorem krepr {K : PySem.W.Frag} (quiet : X.A.guards = some []) (hu : X.A.units + 64 < cLine) (h : X.K = K := by rfl) : CallR X (.builtin "repr") (qRepr K) := by
  subst h
  intro pins s σ H vs us Q I r want
  obtain ⟨v, d, rfl, ⟨a, rfl⟩, dp, sh, nd, dd, sz, q⟩ := want
  obtain ⟨u, rfl, ru⟩ : ∃ u, us = [u] ∧ RelV (.ref a) u := by
    cases r with
    | cons r1 r2 =>
      cases r2
      exact ⟨_, rfl, r1⟩
  cases ru
  obtain ⟨as, rs⟩ := Dp.reads I d (.ref a) (.ref a) dp rfl
  refine PySem.repr_of_reads' rs sh (fun z => by rw [nd] at z; cases z) quiet (by omega) (fun _ _ e => e) ?_ sz
  intro h' y tk keep
  exact ⟨.str d.shown, H, I.kept keep, ⟨y, rfl⟩, q⟩
end
/-! ### the law's own head, for a law that shows data -/
/-- what is tracked at the start: the script, locked, if it is none of the module's own objects -/
def H0 (K : PySem.W.Frag) (a : Addr) (o : Obj) (xs : List V) : Hp := fun b => if b = a ∧ (K.lookup a).isNone = true then some (.frz o (.lst xs)) else none
theorem H0_some {K : PySem.W.Frag} {a b : Addr} {o : Obj} {xs : List V} {u : HO} (h : H0 K a o xs b = some u) : b = a ∧ K.lookup a = none ∧ u = .frz o (.lst xs) := by
  unfold H0 at h
  by_cases c : b = a ∧ (K.lookup a).isNone = true
  · rw [if_pos c] at h
    exact ⟨c.1, Option.isNone_iff_eq_none.mp c.2, (Option.some.inj h).symm⟩
  · rw [if_neg c] at h
    cases h
theorem law_callG {P : Program} {w : World} {K : PySem.W.Frag} {mg mb : Str → Option Value} {k : Nat} {fa a : Addr} {fd : FuncData} {x : Str} {sp : Sp} {s₁ : Shared} {vs : List Value} {ns : List Int} (inK : K.In s₁.heap) (gm : s₁.heap.Ns mainGlobals mg) (gb : s₁.heap.Ns builtinsNs mb)
    (bb : ∀ y : Str, y ≠ "__name__" → mb y = bootBuiltins y) (nl : s₁.heap.NoLimit) (gens : s₁.gens = #[]) (at_a : s₁.heap.get? a = some { cls := .type "list", data := .seq vs.toArray }) (hin : IntsAre vs ns) (few : ns.length ≤ sizeLine) (room : Room k callerA)
    (F : ∀ base : Heap, K.In base → base.Ns mainGlobals mg → FnG P w K mg base k fa fd [x] sp) (bind : ∀ (s : Shared) (u : Value), BindsTo s fd ⟨[u], []⟩ [(x, u)])
    (good : ∀ H : Hp, Only H → SqL K H a (ns.map V.int) → sp [.ref a] H (fun v _ => v = .bl true) fun _ _ _ => False) :
    codeAny (model P w) callerA (.call (.ref fa) ⟨[.ref a], []⟩) (fun r s' => r = .ok (.ret (.bool true)) ∧ OldK s₁.heap s'.heap ∧ s'.os = s₁.os ∧ AllBare s'.gens) s₁ := by
  have rv := vals_ints hin
  have nv := hin.length
  generalize ho : ({ cls := .type "list", data := .seq vs.toArray } : Obj) = o at at_a
  have only : Only (H0 K a o (ns.map V.int)) := fun b => by
    cases q : H0 K a o (ns.map V.int) b with
    | none => exact Or.inl rfl
    | some u => exact Or.inr ⟨o, _, by rw [(H0_some q).2.2]⟩
  have seq : SqL K (H0 K a o (ns.map V.int)) a (ns.map V.int) := by
    cases q : K.lookup a with
    | none => exact Or.inl (Or.inr ⟨o, if_pos ⟨rfl, by rw [q]; rfl⟩⟩)
    | some o' =>
      have e := inK a o' q
      rw [at_a] at e
      cases e
      subst ho
      exact Or.inr ⟨_, vs.toArray, _, q, rfl, rfl, rfl, by rw [List.size_toArray, nv]; exact few, by simpa using rv⟩
  have held : HOk P w (H0 K a o (ns.map V.int)) s₁.heap := fun b u q => by
    obtain ⟨rfl, _, rfl⟩ := H0_some q
    subst ho
    exact ⟨at_a, by rw [List.length_map]; exact few, vs, _, rv, at_a⟩
  -- what is not the script stands in the base
  have out : ∀ {b : Addr} {ob : Obj}, s₁.heap.get? b = some ob → H0 K a o (ns.map V.int) b = none → (hidT s₁.heap (H0 K a o (ns.map V.int))).get? b = some ob := fun e n => hidT_get e n
  have dicts : ∀ {b : Addr} {ob : Obj} {es : Array DictEntry} {n : Nat}, s₁.heap.get? b = some ob → ob.data = .dict es n → H0 K a o (ns.map V.int) b = none := by
    intro b ob es n e d
    cases q : H0 K a o (ns.map V.int) b with
    | none => rfl
    | some u =>
      obtain ⟨rfl, _, _⟩ := H0_some q
      rw [at_a] at e
      cases e
      subst ho
      cases d
  have names : ∀ {b : Addr} {m : Str → Option Value}, s₁.heap.Ns b m → (hidT s₁.heap (H0 K a o (ns.map V.int))).Ns b m := by
    rintro b m ⟨ob, es, n, e, d, z⟩
    exact ⟨ob, es, n, out e (dicts e d), d, z⟩
  have kb : K.In (hidT s₁.heap (H0 K a o (ns.map V.int))) := fun b ob e => by
    refine out (inK b ob e) ?_
    cases q : H0 K a o (ns.map V.int) b with
    | none => rfl
    | some u =>
      obtain ⟨rfl, q2, _⟩ := H0_some q
      rw [q2] at e
      cases e
  obtain ⟨mc, c1, c2⟩ := nl
  have e0 : Env0 P w K mg (hidT s₁.heap (H0 K a o (ns.map V.int))) callerA [] s₁ (H0 K a o (ns.map V.int)) := {
    frames := rfl
    mod := ⟨kb, names gm, ⟨mb, names gb, bb⟩, ⟨mc, names c1, c2⟩⟩
    bs := fun b ob e => of_hidT e
    bsz := Nat.le_of_eq (hidT_size _ _)
    funs := trivial
    frf := fun b hb => absurd (show b ∈ ([] : List Addr) from hb) List.not_mem_nil
    hok := held
    bare := .of_eq gens }
  refine codeAny_mono ((F _ kb (names gm)).go callerA [] s₁ (H0 K a o (ns.map V.int)) ⟨[.ref a], []⟩ [.ref a] [.ref a] _ _ room rfl e0 (bind s₁ (.ref a)) (.cons rfl .nil) (good _ only seq)) ?_
  intro res s' hq
  match res, hq with
  | .error _, hq => exact hq.elim
  | .ok .next, hq => exact hq.elim
  | .ok .brk, hq => exact hq.elim
  | .ok .cont, hq => exact hq.elim
  | .ok (.ret u), hq =>
    obtain ⟨v, H', os, bare, un, held', r', q⟩ := hq
    have q' : v = .bl true := q
    subst q'
    cases (show u = Value.bool true from r')
    refine ⟨rfl, OldK.of_keep fun b ob e => ?_, os, bare⟩
    cases z : H0 K a o (ns.map V.int) b with
    | none => exact un.keep b ob e z (fun y => absurd (show b ∈ ([] : List Addr) from y) List.not_mem_nil) List.not_mem_nil
    | some y =>
      obtain ⟨rfl, _, rfl⟩ := H0_some z
      obtain ⟨e1, _⟩ := held _ _ z
      obtain ⟨e2, _⟩ := held' _ _ (un.frzs _ _ _ z)
      rw [e] at e1
      cases e1
      exact e2
theorem walk_ofG {l : PySem.W.OpenLaw} {n k : Nat} {q : Program} {loose : List Str} {XP : (Str → Option Value) → Heap → Prop} {YP : World → Heap → Prop} {d : DefRec} {K : Params → PySem.W.Frag} {sp : PySem.W.Frag → Sp} {x : Str} (hn : l.most = some n) (few : n ≤ sizeLine)
    (nodef : d.params.defaults = []) (room : Room k callerA) (hY : ∀ (w : World) (h : Heap), YP w h → (K w.params).In h)
    (F : ∀ (w : World) (mg : Str → Option Value) (fa : Addr) (h : Heap), (K w.params).In h → h.Ns mainGlobals mg → mg d.name = some (.ref fa) → ∃ fd : FuncData, (∀ (s : Shared) (u : Value), BindsTo s fd ⟨[u], []⟩ [(x, u)]) ∧
      ∀ base : Heap, (K w.params).In base → base.Ns mainGlobals mg → FnG l.prog w (K w.params) mg base k fa fd [x] (sp (K w.params)))
    (good : ∀ (K : PySem.W.Frag) (H : Hp) (a : Addr) (ns : List Int), ns.length ≤ n → Only H → SqL K H a (ns.map V.int) → sp K [.ref a] H (fun v _ => v = .bl true) fun _ _ _ => False) :
    PySem.W.WalkO q loose XP YP l.row.toRowW d [] (fun f vs => PySem.call f vs) := by
  apply Att.attach_call hn nodef
  intro w s₀ s₁ mg mb fa o pm cd doc a vs ns G Y ho hd hcd hmg at_a hin most gens
  have inK := hY w _ Y
  obtain ⟨fd, bind, hF⟩ := F w mg fa _ inK G.T.g hmg
  exact law_callG inK G.T.g G.T.b G.T.builtins G.T.nolimit gens at_a hin (Nat.le_trans most few) room hF bind fun H only seq => good _ H a ns most only seq
/-! ### calls with keywords: the values in the parameters' order -/
def pick {α : Type} (ix : List Nat) (l : List α) : List α := ix.filterMap (l[·]?)
theorem vals_at {vs : List V} {us : List Value} (h : Vals vs us) : ∀ i : Nat, (vs[i]? = none ∧ us[i]? = none) ∨ ∃ v u, vs[i]? = some v ∧ us[i]? = some u ∧ RelV v u := by
  induction h with
  | nil => exact fun i => Or.inl ⟨rfl, rfl⟩
  | cons r _ ih =>
    intro i
    cases i with
    | zero => exact Or.inr ⟨_, _, rfl, rfl, r⟩
    | succ i => exact ih i
theorem vals_pick {vs : List V} {us : List Value} (h : Vals vs us) : ∀ ix : List Nat, Vals (pick ix vs) (pick ix us)
  | [] => .nil
  | i :: ix => by
    unfold pick
    rcases vals_at h i with ⟨h1, h2⟩ | ⟨v, u, h1, h2, r⟩
    · rw [List.filterMap_cons_none h1, List.filterMap_cons_none h2]
      exact vals_pick h ix
    · rw [List.filterMap_cons_some h1, List.filterMap_cons_some h2]
      exact .cons r (vals_pick h ix)
theorem _root_.L2.Fun.kb {K : PySem.W.Frag} {x qual : Str} {st : Stmt} {f : Addr} {fd : FuncData} {ps ks : List Str} {n : Nat} {ix : List Nat} (F : Fun K x qual st f fd)
    (h : ∀ (kV doc pm : Value) (an : Option Addr) (cdv ct : Value) (us ws : List Value), us.length = n → ws.length = ks.length → bindArgs (PySem.W.fnOf x qual (defArgs st) (defBody st) (defScope st) .none kV doc pm an cdv ct) ⟨us, ks.zip ws⟩ = pure (ps.zip (pick ix (us ++ ws)))) :
    KBn K fd ps n ks (fun us ws => pick ix (us ++ ws)) (fun vs zs => pick ix (vs ++ zs)) := by
  obtain ⟨oc, od, kV, doc, pm, an, cdv, ct, osl, rfl, lk, hcd⟩ := F.ex
  exact ⟨fun s us ws _ l1 l2 => .of_eq (h kV doc pm an cdv ct us ws l1 l2), fun r1 r2 => vals_pick (r1.append r2) ix⟩
theorem rd_callN0 {σ : L2.St} {H : Hp} {Q : VK} {m : Nat} {sp : Sp} {gV : List V → List V → List V} {E : XK} {tk : TA} (q : tk σ H fun zs H2 => zs.length = m ∧ sp (gV [] zs) H2 Q E) : tCallN 0 m sp gV E tNil tk σ H Q := by
  show tk σ H fun zs H2 => ([] : List V).length = 0 ∧ zs.length = m ∧ sp (gV [] zs) H2 Q E
  have e : (fun (zs : List V) (H2 : Hp) => ([] : List V).length = 0 ∧ zs.length = m ∧ sp (gV [] zs) H2 Q E) = fun zs H2 => zs.length = m ∧ sp (gV [] zs) H2 Q E := by
    funext zs H2
    exact propext ⟨fun z => z.2, fun z => ⟨rfl, z⟩⟩
  rw [e]
  exact q
/-! ### what can be shown: no deeper than n, the leaves no longer than B, no heavier than m -/
structure Sh (B n m : Nat) (d : PyData) : Prop where
  sh : d.showable = true
  nd : d.hasDict = false
  dp : d.depth ≤ n
  ls : d.leavesShort B = true
  wt : d.weight ≤ m
theorem sh_all {B n m : Nat} : ∀ {xs : List PyData}, (∀ x ∈ xs, Sh B n m x) → PyData.showableAll xs = true ∧ PyData.hasDictAll xs = false ∧ PyData.depthAll xs ≤ n ∧ PyData.leavesShortAll B xs = true ∧ PyData.weightAll xs ≤ xs.length * (m + 1)
  | [], _ => by
    simp only [PyData.showableAll, PyData.hasDictAll, PyData.depthAll, PyData.leavesShortAll, PyData.weightAll]
    exact ⟨trivial, trivial, Nat.zero_le _, trivial, Nat.zero_le _⟩
  | x :: xs, h => by
    obtain ⟨a1, a2, a3, a4, a5⟩ := h x List.mem_cons_self
    obtain ⟨b1, b2, b3, b4, b5⟩ := sh_all fun y hy => h y (List.mem_cons_of_mem _ hy)
    have e : (xs.length + 1) * (m + 1) = xs.length * (m + 1) + (m + 1) := Nat.succ_mul ..
    simp only [PyData.showableAll, PyData.hasDictAll, PyData.depthAll, PyData.leavesShortAll, PyData.weightAll, List.length_cons, a1, a2, a4, b1, b2, b4, Bool.and_self, Bool.or_self, true_and, e]
    omega
theorem Sh.list {B n m : Nat} {xs : List PyData} (h : ∀ x ∈ xs, Sh B n m x) : Sh B (n + 1) (xs.length * (m + 1)) (.list xs) := by
  obtain ⟨a1, a2, a3, a4, a5⟩ := sh_all h
  exact ⟨by simpa only [PyData.showable] using a1, by simpa only [PyData.hasDict] using a2, by simp only [PyData.depth]; omega, by simpa only [PyData.leavesShort] using a4, by simpa only [PyData.weight] using a5⟩
theorem Sh.tuple {B n m : Nat} {xs : List PyData} (h : ∀ x ∈ xs, Sh B n m x) : Sh B (n + 1) (xs.length * (m + 1)) (.tuple xs) := by
  obtain ⟨a1, a2, a3, a4, a5⟩ := sh_all h
  exact ⟨by simpa only [PyData.showable] using a1, by simpa only [PyData.hasDict] using a2, by simp only [PyData.depth]; omega, by simpa only [PyData.leavesShort] using a4, by simpa only [PyData.weight] using a5⟩
theorem Sh.mono {B n m n' m' : Nat} {d : PyData} (h : Sh B n m d) (h1 : n ≤ n') (h2 : m ≤ m') : Sh B n' m' d := ⟨h.sh, h.nd, Nat.le_trans h.dp h1, h.ls, Nat.le_trans h.wt h2⟩
theorem Sh.none {B : Nat} : Sh B 0 0 .none := ⟨by simp only [PyData.showable], by simp only [PyData.hasDict], by simp only [PyData.depth]; omega, by simp only [PyData.leavesShort], by simp only [PyData.weight]; omega⟩
theorem Sh.chr {B c : Nat} (h : c ≤ 122) : Sh B 0 1 (.str ⟨#[c]⟩) := ⟨by simp only [PyData.showable], by simp only [PyData.hasDict], by simp only [PyData.depth]; omega, by
  simp only [PyData.leavesShort]
  show [c].all (fun c => decide (c < 16 ^ 8)) = true
  have : c < 16 ^ 8 := Nat.lt_of_le_of_lt h (by decide)
  simp only [List.all_cons, List.all_nil, Bool.and_true, decide_eq_true_eq]
  exact this, by simp only [PyData.weight]; exact Nat.le_refl 1⟩
theorem Sh.int {i : Int} (h : i.natAbs < 10 ^ 12) : Sh 13 0 40 (.int i) := by
  have l : i.natAbs.log2 < 40 := by
    by_cases z : i.natAbs = 0
    · rw [z]
      decide
    · exact (Nat.log2_lt z).mpr (Nat.lt_of_lt_of_le h (by decide))
  refine ⟨?_, by simp only [PyData.hasDict], by simp only [PyData.depth]; omega, ?_, ?_⟩
  · simp only [PyData.showable, decide_eq_true_eq]
    omega
  · simp only [PyData.leavesShort, decide_eq_true_eq]
    exact PyData.shown_int_le h
  · simp only [PyData.weight]
    split
    · omega
    · omega
theorem Sh.fits {n m : Nat} {d : PyData} (h : Sh 13 n m d) (hm : m ≤ 2 ^ 20) : d.shown.length ≤ sizeLine := PyData.shown_fits (by decide) (by decide) h.ls (Nat.le_trans h.wt hm)
theorem rd_repr {K : PySem.W.Frag} {H : Hp} {Q : VK} {a : Addr} {n m : Nat} {d : PyData} (hd : Dp K H (.ref a) d) (h : Sh 13 n m d) (hn : n ≤ 20) (hm : m ≤ 2 ^ 20) (q : Q (.str d.shown) H) : qRepr K [.ref a] H Q :=
  ⟨_, d, rfl, ⟨a, rfl⟩, hd, h.sh, h.nd, Nat.le_trans h.dp hn, h.fits hm, q⟩
theorem sh_row {r : Row} (h : Vr r) : Sh 13 2 (60 * 83) (dR r) := by
  have e : ∀ x ∈ r.map dE, Sh 13 1 82 x := fun x hx => by
    obtain ⟨y, hy, rfl⟩ := List.mem_map.mp hx
    refine (Sh.tuple (xs := [.int (y.1 : Int), .str ⟨#[y.2]⟩]) (n := 0) (m := 40) fun z hz => ?_).mono (Nat.le_refl _) (show 2 * 41 ≤ 82 by decide)
    have hl := h.col y hy
    have hp := h.lt hy
    have h60 := h.n2
    rcases List.mem_cons.mp hz with c | c
    · rw [c]
      exact Sh.int (by have : (10 : Nat) ^ 12 = 1000000000000 := by decide
                       omega)
    · rw [List.mem_singleton.mp c]
      exact (Sh.chr hl.2).mono (Nat.le_refl _) (by decide)
  refine (Sh.list e).mono (Nat.le_refl _) ?_
  rw [List.length_map]
  exact Nat.mul_le_mul_right 83 h.n2
/-- letters or None -/
def dO : Option Nat → PyData
  | none => .none
  | some c => .str ⟨#[c]⟩
theorem dp_opt {K : PySem.W.Frag} {H : Hp} (o : Option Nat) : Dp K H (oV o) (dO o) := by
  cases o with
  | none => exact .non
  | some c => exact .str _
theorem dp_opts {K : PySem.W.Frag} {H : Hp} : ∀ os : List (Option Nat), DpAll K H (os.map oV) (os.map dO)
  | [] => .nil
  | o :: os => .cons (dp_opt o) (dp_opts os)
theorem sh_opt {o : Option Nat} (h : ∀ c, o = some c → c ≤ 122) : Sh 13 0 1 (dO o) := by
  cases o with
  | none => exact Sh.none.mono (Nat.le_refl _) (by decide)
  | some c => exact Sh.chr (h c rfl)
theorem sh_opts {os : List (Option Nat)} (h : ∀ c, some c ∈ os → c ≤ 122) : Sh 13 1 (os.length * 2) (.list (os.map dO)) := by
  have := Sh.list (xs := os.map dO) (n := 0) (m := 1) (B := 13) fun x hx => by
    obtain ⟨o, ho, rfl⟩ := List.mem_map.mp hx
    exact sh_opt fun c e => h c (by rw [← e]; exact ho)
  rw [List.length_map] at this
  exact this
end LX

/-! ### a source of draws that counts them -/
namespace LX
open PySem L2
structure SrcN (H : Hp) (p : Addr) (b : Nat) : Prop where
  ex : ∃ s0 s1 s2 : Int, H p = some (.lst [.int s0, .int s1, .int s2]) ∧ s1.natAbs < 2 ^ 400 ∧ s2.natAbs ≤ b
theorem SrcN.src {H : Hp} {p : Addr} {b : Nat} (h : SrcN H p b) : Src H p :=
  let ⟨s0, s1, s2, h1, h2, _⟩ := h.ex
  ⟨s0, s1, s2, h1, h2⟩
theorem SrcN.same {H H' : Hp} {p : Addr} {b : Nat} (h : SrcN H p b) (s : Same H H') : SrcN H' p b :=
  let ⟨s0, s1, s2, h1, h2⟩ := h.ex
  ⟨s0, s1, s2, s _ _ h1, h2⟩
theorem SrcN.mono {H : Hp} {p : Addr} {b c : Nat} (h : SrcN H p b) (k : b ≤ c) : SrcN H p c :=
  let ⟨s0, s1, s2, h1, h2, h3⟩ := h.ex
  ⟨s0, s1, s2, h1, h2, Nat.le_trans h3 k⟩
theorem SrcN.not_none {H : Hp} {p q : Addr} {b : Nat} (h : SrcN H p b) (hq : H q = none) : q ≠ p := h.src.not_none hq
theorem SrcN.lst {H : Hp} {p : Addr} {b : Nat} (h : SrcN H p b) : ∃ xs, H p = some (.lst xs) := h.src.lst
/-- kept where a list elsewhere changes -/
theorem SrcN.off {H : Hp} {p q : Addr} {b : Nat} {o : HO} (h : SrcN H p b) (n : q ≠ p) : SrcN (upd H q o) p b :=
  let ⟨s0, s1, s2, h1, h2⟩ := h.ex
  ⟨s0, s1, s2, by rw [upd_ne n.symm]; exact h1, h2⟩
theorem mod_small {x m : Int} {k : Nat} (h0 : 0 < m) (h : m ≤ 2 ^ k) : (x % m).natAbs < 2 ^ k := by
  have a0 := Int.emod_nonneg x (show m ≠ 0 by omega)
  have a1 := Int.emod_lt_of_pos x h0
  have e : ((2 ^ k : Nat) : Int) = (2 : Int) ^ k := by
    rw [Int.natCast_pow]
    rfl
  omega
theorem add_small {x y : Int} {j k m : Nat} (hx : x.natAbs < 2 ^ j) (hy : y.natAbs < 2 ^ k) (h1 : j < m) (h2 : k < m) : (x + y).natAbs < 2 ^ m := by
  obtain ⟨n, rfl⟩ : ∃ n, m = n + 1 := ⟨m - 1, by omega⟩
  have a := Nat.pow_le_pow_right (show 0 < 2 by decide) (show j ≤ n by omega)
  have b := Nat.pow_le_pow_right (show 0 < 2 by decide) (show k ≤ n by omega)
  rw [Nat.pow_succ]
  omega
theorem mul_small {x y : Int} {j k m : Nat} (hx : x.natAbs < 2 ^ j) (hy : y.natAbs < 2 ^ k) (h : j + k ≤ m) : (x * y).natAbs < 2 ^ m := by
  rw [Int.natAbs_mul]
  refine Nat.lt_of_lt_of_le ?_ (Nat.pow_le_pow_right (show 0 < 2 by decide) h)
  rw [Nat.pow_add]
  exact Nat.mul_lt_mul'' hx hy
end LX

/-! ### list(zip(xs, ys)), two lists of one length: new tuples in a new list -/
namespace LX
open PySem PySem.Spec PyProof.Rows L2
theorem Un.more {fs : List Addr} {H H' : Hp} {h h' : Heap} (k : ∀ b u, h.get? b = some u → h'.get? b = some u) (s : Same H H') (new : ∀ b, H b = none → b < h.objs.size → H' b = none) : Un fs [] H H' h h' where
  keep := fun b u q _ _ _ => k b u q
  slot := fun b u q _ _ _ => ⟨u.slots, k b u q⟩
  free := fun b u q n _ => new b n (Heap.lt_size q)
  there := fun b u q _ => ⟨u, k b u q⟩
  tups := fun b xs q => s b _ q
  frzs := fun b u xs q => s b _ q
  tbls := fun b ps q => ⟨#[], by rw [s b _ q]; simp⟩
theorem HOk.more {P : Program} {w : World} {H H' : Hp} {h h' : Heap} (x : HOk P w H h) (k : ∀ b u, h.get? b = some u → h'.get? b = some u) (s : Same H H') (new : ∀ b o, H b = none → H' b = some o → ObjOk P w H' h' b o) : HOk P w H' h' := fun b o e => by
  cases q : H b with
  | none => exact new b o q e
  | some u =>
    have e2 := s b _ q
    rw [e] at e2
    cases e2
    exact (x b o q).stay (fun c v _ z => k c v z) (fun c z => s c _ z) fun c xs z => s c _ z
/-- the zip z amid its walk: i pairs are out, all above B -/
structure ZAt (h : Heap) (z TI TO i1 i2 l1 l2 B : Addr) (xs ys : Array Value) (i : Nat) (Ts : List Addr) : Prop where
  pr : IsPair h TI (.ref i1) (.ref i2)
  w1 : h.IsListIter i1 l1 i
  w2 : h.IsListIter i2 l2 i
  a1 : h.IsList l1 xs
  a2 : h.IsList l2 ys
  zp : (IsZip h z TI TO .none ∧ ∃ a b, IsPair h TO a b) ∨ ∃ T f oT, IsZipHeld h z TI TO T f ∧ h.get? T = some oT ∧ B ≤ T
  len : Ts.length = i
  nd : Ts.Nodup
  out : ∀ (j : Nat) (T : Addr), Ts[j]? = some T → B ≤ T ∧ ∃ x y, xs[j]? = some x ∧ ys[j]? = some y ∧ IsPair h T x y
theorem pairKeep {h h' : Heap} {T : Addr} {x y : Value} (p : IsPair h T x y) (e : ∀ o, h.get? T = some o → h'.get? T = some o) : IsPair h' T x y := e _ p
section
variable {P : Program} {w : World} {A : Around} {R : Result → Shared → Prop} {z TI TO i1 i2 l1 l2 S B : Addr} {xs ys : Array Value} {res : Value}
theorem zipLoop (hh : A.in1.handled = none) (D : ZipApart z TI TO i1 i2 l1 l2) (same : ys.size = xs.size) (few : xs.size ≤ sizeLine) (lt : ∀ b, b = z ∨ b = TI ∨ b = TO ∨ b = i1 ∨ b = i2 ∨ b = l1 ∨ b = l2 → b < B) (ltS : S < B) (offS : S ≠ z ∧ S ≠ TI ∧ S ≠ TO ∧ S ≠ i1 ∧ S ≠ i2 ∧ S ≠ l1 ∧ S ≠ l2) :
    ∀ (m i : Nat) (s : Shared) (Ts : List Addr), i + m = xs.size → B ≤ s.heap.objs.size → ZAt s.heap z TI TO i1 i2 l1 l2 B xs ys i Ts → (∃ c, s.heap.get? S = some (seqObj "list" (Ts.map Value.ref).toArray c)) →
      (∀ (h' : Heap) (tk : Nat) (Us : List Addr) (c' : Nat), Us.length = xs.size → Us.Nodup → (∀ (j : Nat) (T : Addr), Us[j]? = some T → B ≤ T ∧ ∃ x y, xs[j]? = some x ∧ ys[j]? = some y ∧ IsPair h' T x y) → h'.get? S = some (seqObj "list" (Us.map Value.ref).toArray c') →
        (∀ b o, b ≠ S → b ≠ z → b ≠ TO → b ≠ i1 → b ≠ i2 → s.heap.get? b = some o → h'.get? b = some o) → R (.ok (.ret res)) { s with heap := h', toks := tk }) →
      codeAny (model P w) A (.builtin "list.extend.loop" ⟨[.ref S, .ref z, res], []⟩) R s := by
  have lz := lt z (by simp)
  have lTI := lt TI (by simp)
  have lTO := lt TO (by simp)
  have li1 := lt i1 (by simp)
  have li2 := lt i2 (by simp)
  have ll1 := lt l1 (by simp)
  have ll2 := lt l2 (by simp)
  obtain ⟨oz, oTI, oTO, oi1, oi2, ol1, ol2⟩ := offS
  intro m
  induction m with
  | zero =>
    intro i s Ts hi hB Z ⟨c, hS⟩ hR
    have e : i = xs.size := by omega
    subst e
    have off : xs[xs.size]? = none ∨ ys[xs.size]? = none := Or.inl (Array.getElem?_eq_none (Nat.le_refl _))
    refine codeAny_builtin PySem.F.entry_extend_loop ?_
    rw [Around.under_plainId PySem.F.plain_extend_loop _]
    show wpAny _ A.in1 (pyNext (.ref z) >>= _) _ _ s
    have fin : ∀ h' : Heap, (∀ b o, b ≠ z → b ≠ TO → b ≠ i1 → b ≠ i2 → s.heap.get? b = some o → h'.get? b = some o) → R (.ok (.ret res)) { s with heap := h' } := fun h' k => by
      refine hR h' s.toks Ts c Z.len Z.nd (fun j T hj => ?_) (k _ _ oz oTO oi1 oi2 hS) fun b o _ b1 b2 b3 b4 e => k b o b1 b2 b3 b4 e
      obtain ⟨q1, x, y, q2, q3, q4⟩ := Z.out j T hj
      exact ⟨q1, x, y, q2, q3, pairKeep q4 fun o e => k T o (Nat.ne_of_gt (Nat.lt_of_lt_of_le lz q1)) (Nat.ne_of_gt (Nat.lt_of_lt_of_le lTO q1)) (Nat.ne_of_gt (Nat.lt_of_lt_of_le li1 q1)) (Nat.ne_of_gt (Nat.lt_of_lt_of_le li2 q1)) e⟩
    rcases Z.zp with ⟨z1, a, b, z2⟩ | ⟨T, f, oT, z1, z2, z3⟩
    · exact wpAny_bind (wpAny_pyNext_zip_end hh D z1 Z.pr z2 Z.w1 Z.w2 Z.a1 Z.a2 off fun h' k => wpAny_pure (fin h' fun b o b1 b2 b3 b4 e => k b o b1 b2 b3 b4 e))
    · exact wpAny_bind (wpAny_pyNext_zip_end_held hh D z1 z2 Z.pr Z.w1 Z.w2 Z.a1 Z.a2 off fun h' k => wpAny_pure (fin h' fun b o b1 _ b3 b4 e => k b o b1 b3 b4 e))
  | succ m ih =>
    intro i s Ts hi hB Z ⟨c, hS⟩ hR
    have ex : xs[i]? = some xs[i] := Array.getElem?_eq_getElem (by omega)
    have ey : ys[i]? = some ys[i] := Array.getElem?_eq_getElem (by omega)
    refine codeAny_builtin PySem.F.entry_extend_loop ?_
    rw [Around.under_plainId PySem.F.plain_extend_loop _]
    show wpAny _ A.in1 (pyNext (.ref z) >>= _) _ _ s
    have szT : (Ts.map Value.ref).toArray.size = i := by rw [List.size_toArray, List.length_map, Z.len]
    have turn : ∀ h' : Heap, ((∃ T f oT, IsZipHeld h' z TI TO T f ∧ h'.get? T = some oT ∧ B ≤ T)) → h'.IsListIter i1 l1 (i + 1) → h'.IsListIter i2 l2 (i + 1) → IsPair h' s.heap.objs.size xs[i] ys[i] → h'.objs.size = s.heap.objs.size + 1 →
        (∀ b o, b ≠ z → b ≠ TO → b ≠ i1 → b ≠ i2 → s.heap.get? b = some o → h'.get? b = some o) →
        wpAny (model P w) A.in1 (updateSeq S (·.push (.ref s.heap.objs.size)) >>= fun _ => again (.builtin "list.extend.loop" ⟨[.ref S, .ref z, res], []⟩))
          (fun fin s' => match fin with | .done f => R (.ok f) s' | .again c' => c'.quiet = true ∧ codeAny (model P w) A c' R s') (fun e s' => R (.error e) s') { s with heap := h' } := by
      intro h' hz hw1 hw2 hp hsz k
      have hS1 := k _ _ oz oTO oi1 oi2 hS
      have lim : i + 1 ≤ sizeLine := by omega
      refine wpAny_bind (wpAny_updateSeq hS1 rfl ?_ (by rw [szT]; exact Nat.le_trans (Nat.le_of_lt (by omega : i < xs.size)) few) (by show ((Ts.map Value.ref).toArray.push _).size ≤ sizeLine + 1; rw [Array.size_push, szT]; omega))
      refine wpAny_pure ⟨plainId_quiet PySem.F.plain_extend_loop _, ?_⟩
      have other : ∀ b o, b ≠ S → h'.get? b = some o → (h'.update S (Obj.mapSeq (·.push (Value.ref s.heap.objs.size)))).get? b = some o := fun b o nb e => (Heap.get?_update_other _ _ (Ne.symm nb)).trans e
      have nS : ∀ {b : Addr}, B ≤ b → b ≠ S := fun q => Nat.ne_of_gt (Nat.lt_of_lt_of_le ltS q)
      refine ih (i + 1) _ (Ts ++ [s.heap.objs.size]) (by omega) (by show B ≤ (h'.update S _).objs.size; rw [Heap.size_update, hsz]; exact Nat.le_trans hB (Nat.le_succ _)) ?_ ?_ fun h2 tk Us c2 u1 u0 u2 u3 u4 => ?_
      · obtain ⟨T, f, oT, z1, z2, z3⟩ := hz
        exact { pr := pairKeep Z.pr fun o e => other _ o (Ne.symm oTI) (k _ o D.TIz D.TITO D.TIi1 D.TIi2 e), w1 := hw1.at fun o e => other _ o (Ne.symm oi1) e, w2 := hw2.at fun o e => other _ o (Ne.symm oi2) e
                a1 := Z.a1.at fun o e => other _ o (Ne.symm ol1) (k _ o D.l1z D.l1TO D.l1i1 D.l1i2 e), a2 := Z.a2.at fun o e => other _ o (Ne.symm ol2) (k _ o D.l2z D.l2TO D.l2i1 D.l2i2 e)
                zp := Or.inr ⟨T, f, oT, other _ _ (Ne.symm oz) z1, other _ _ (nS z3) z2, z3⟩
                len := by rw [List.length_append, Z.len]; rfl
                nd := List.nodup_append.mpr ⟨Z.nd, List.nodup_cons.mpr ⟨List.not_mem_nil, List.nodup_nil⟩, fun T hT U hU e => by
                  obtain ⟨j, hj⟩ := List.mem_iff_getElem?.mp hT
                  obtain ⟨_, x, y, _, _, q4⟩ := Z.out j T hj
                  rw [List.mem_singleton] at hU
                  have l := Heap.lt_size q4
                  rw [e, hU] at l
                  exact Nat.lt_irrefl _ l⟩
                out := fun j T hj => by
                  by_cases c : j < Ts.length
                  · rw [List.getElem?_append_left c] at hj
                    obtain ⟨q1, x, y, q2, q3, q4⟩ := Z.out j T hj
                    exact ⟨q1, x, y, q2, q3, pairKeep q4 fun o e => other T o (nS q1) (k T o (Nat.ne_of_gt (Nat.lt_of_lt_of_le lz q1)) (Nat.ne_of_gt (Nat.lt_of_lt_of_le lTO q1)) (Nat.ne_of_gt (Nat.lt_of_lt_of_le li1 q1)) (Nat.ne_of_gt (Nat.lt_of_lt_of_le li2 q1)) e)⟩
                  · have len := Z.len
                    rw [List.getElem?_append_right (by omega)] at hj
                    have hj2 := (List.getElem?_eq_some_iff.mp hj).1
                    rw [List.length_singleton] at hj2
                    have ej : j = i := by omega
                    subst ej
                    rw [show j - Ts.length = 0 by omega] at hj
                    injection hj with hj
                    subst hj
                    exact ⟨hB, _, _, ex, ey, pairKeep hp fun o e => other _ o (nS hB) e⟩ }
      · have q := Heap.get?_update_self (Obj.mapSeq (·.push (Value.ref s.heap.objs.size))) hS1 rfl
        refine ⟨_, q.trans (congrArg (fun l : Array Value => some (seqObj "list" l _)) ?_)⟩
        show (Ts.map Value.ref).toArray.push (Value.ref s.heap.objs.size) = ((Ts ++ [s.heap.objs.size]).map Value.ref).toArray
        rw [List.push_toArray, List.map_append]
        rfl
      · exact hR h2 tk Us c2 u1 u0 u2 u3 fun b o b0 b1 b2 b3 b4 e => u4 b o b0 b1 b2 b3 b4 (other b o b0 (k b o b1 b2 b3 b4 e))
    rcases Z.zp with ⟨z1, a, b, z2⟩ | ⟨T, f, oT, z1, z2, z3⟩
    · refine wpAny_bind (wpAny_pyNext_zip_item D z1 Z.pr z2 Z.w1 Z.w2 Z.a1 Z.a2 ex ey fun h' b1 b2 b3 b4 b5 b6 k => ?_)
      exact turn h' ⟨_, false, _, b1, b5, hB⟩ b3 b4 b5 b6 fun b o n1 n2 n3 n4 e => k b o n1 n2 n3 n4 e
    · refine wpAny_bind (wpAny_pyNext_zip_item_held D z1 z2 Z.pr Z.w1 Z.w2 Z.a1 Z.a2 ex ey fun h' b1 b3 b4 b5 b6 k => ?_)
      have n1 : T ≠ z := Nat.ne_of_gt (Nat.lt_of_lt_of_le lz z3)
      have n3 : T ≠ i1 := Nat.ne_of_gt (Nat.lt_of_lt_of_le li1 z3)
      have n4 : T ≠ i2 := Nat.ne_of_gt (Nat.lt_of_lt_of_le li2 z3)
      exact turn h' ⟨T, true, oT, b1, k _ _ n1 n3 n4 z2, z3⟩ b3 b4 b5 b6 fun b o n1 _ n3 n4 e => k b o n1 n3 n4 e
theorem zip_no_len : typeLookup (.type "zip") "__len__" = pure none := am_miss_of_fast (by decide +kernel)
theorem zip_no_hint : typeLookup (.type "zip") "__length_hint__" = pure none := am_miss_of_fast (by decide +kernel)
theorem listZip {E : Value → Shared → Prop} {s : Shared} {Q : Value → Shared → Prop} (hh : A.handled = none) (D : ZipApart z TI TO i1 i2 l1 l2) (same : ys.size = xs.size) (few : xs.size ≤ sizeLine) (hz : IsZip s.heap z TI TO .none) (hTI : IsPair s.heap TI (.ref i1) (.ref i2)) (hTO : IsPair s.heap TO .none .none)
    (h1 : s.heap.IsListIter i1 l1 0) (h2 : s.heap.IsListIter i2 l2 0) (g1 : s.heap.IsList l1 xs) (g2 : s.heap.IsList l2 ys)
    (hQ : ∀ (h' : Heap) (tk : Nat) (Us : List Addr) (c' : Nat), Us.length = xs.size → Us.Nodup → (∀ (j : Nat) (T : Addr), Us[j]? = some T → s.heap.objs.size < T ∧ ∃ x y, xs[j]? = some x ∧ ys[j]? = some y ∧ IsPair h' T x y) → h'.get? s.heap.objs.size = some (seqObj "list" (Us.map Value.ref).toArray c') →
      (∀ b o, b ≠ z → b ≠ TO → b ≠ i1 → b ≠ i2 → s.heap.get? b = some o → h'.get? b = some o) → Q (.ref s.heap.objs.size) { s with heap := h', toks := tk }) :
    wpAny (model P w) A (call (.type "list") [.ref z]) Q E s := by
  have none1 : A.in1.in1.handled = none := by simp [hh]
  obtain ⟨oh1, e1, _⟩ := id h1
  obtain ⟨oh2, e2, _⟩ := id h2
  obtain ⟨og1, f1, _⟩ := id g1
  obtain ⟨og2, f2, _⟩ := id g2
  refine callType_codes (Q₁ := fun obj s1 => obj = .ref s.heap.objs.size ∧ s1 = { s with heap := s.heap.push { cls := .type "list", data := .seq #[] } }) PySem.F.called_list (PySem.F.typeCall_list_1 _) PySem.F.entry_list_init (code_list_new _ ⟨rfl, rfl⟩) fun obj s1 hs1 => ?_
  obtain ⟨rfl, rfl⟩ := hs1
  have at0 : (s.heap.push { cls := .type "list", data := .seq #[] }).get? s.heap.objs.size = some { cls := .type "list", data := .seq #[] } := Heap.get?_push_size _ rfl
  have old : ∀ b o, s.heap.get? b = some o → (s.heap.push { cls := .type "list", data := .seq #[] }).get? b = some o := fun b o e => Heap.get?_push_of_some _ e
  refine ⟨⟨_, at0, rfl⟩, PySem.F.args_list_init_2 _ _, ?_⟩
  show wpAny _ _ (do let old ← Builtin.List.listItems (.ref s.heap.objs.size); Builtin.List.listUpdate (.ref s.heap.objs.size) (fun _ => #[]); letGo old.toList.reverse; Builtin.List.listExtendWith (.ref s.heap.objs.size) (.ref z) .none) _ _ _
  refine wpAny_bind ?_
  unfold Builtin.List.listItems
  refine wpAny_bind (wpAny_seqItems at0 rfl (wpAny_pure ?_))
  show wpAny _ _ (updateSeq s.heap.objs.size (fun _ => #[]) >>= fun _ => letGo (#[] : Array Value).toList.reverse >>= fun _ => Builtin.List.listExtendWith (.ref s.heap.objs.size) (.ref z) .none) _ _ _
  refine wpAny_bind (wpAny_updateSeq at0 rfl (wpAny_bind (wpAny_letGo ?_)))
  have at1 := Heap.get?_update_self (Obj.mapSeq (fun _ => (#[] : Array Value))) at0 rfl
  have ne : ∀ {b : Addr} {o : Obj}, s.heap.get? b = some o → s.heap.objs.size ≠ b := fun e => Nat.ne_of_gt (Heap.lt_size e)
  have old1 : ∀ b o, s.heap.get? b = some o → ((s.heap.push { cls := .type "list", data := .seq #[] }).update s.heap.objs.size (Obj.mapSeq (fun _ => (#[] : Array Value)))).get? b = some o := fun b o e => (Heap.get?_update_other _ _ (ne e)).trans (old b o e)
  generalize hh1 : ((s.heap.push { cls := .type "list", data := .seq #[] }).update s.heap.objs.size (Obj.mapSeq (fun _ => (#[] : Array Value)))) = hp1 at at1 old1
  have sz1 : hp1.objs.size = s.heap.objs.size + 1 := by rw [← hh1, Heap.size_update, Heap.size_push]
  unfold Builtin.List.listExtendWith
  have tz : Shared.TypeIs { s with heap := hp1 } (.ref z) "zip" := ⟨_, old1 _ _ hz, rfl⟩
  refine wpAny_bind (wpAny_typeOf tz ?_)
  have k1 : Builtin.List.listSameRef (.ref s.heap.objs.size) (.ref z) = false := by simp [Builtin.List.listSameRef, ne hz]
  have k2 : (Value.type "zip" == Value.type "list") = false := by decide
  have k3 : (Value.type "zip" == Value.type "tuple") = false := by decide
  simp only [k1, k2, k3, Bool.or_false, Bool.false_eq_true, if_false]
  refine wpAny_bind (wpAny_pyIter_zip (old1 _ _ hz) (wpAny_bind (wpAny_holding ?_)))
  unfold Builtin.List.listLengthHint
  refine wpAny_bind (wpAny_specialOf tz zip_no_len ?_)
  show wpAny _ _ (specialOf (Value.ref z) (Str.ofString "__length_hint__") >>= _) _ _ _
  refine wpAny_bind (wpAny_specialOf tz zip_no_hint (wpAny_pure ?_))
  show wpAny _ _ (rule "list.extend.makes-room" >>= fun _ => Builtin.List.listTouch (.ref s.heap.objs.size) >>= fun _ => again (.builtin "list.extend.loop" ⟨[.ref s.heap.objs.size, .ref z, .none], []⟩)) _ _ _
  refine wpAny_bind (wpAny_rule (wpAny_bind ?_))
  show wpAny _ _ (updateSeq s.heap.objs.size (·.push .none) >>= fun _ => updateSeq s.heap.objs.size (·.pop)) _ _ _
  refine wpAny_bind (wpAny_updateSeq at1 rfl ?_)
  have at2 := Heap.get?_update_self (Obj.mapSeq (·.push Value.none)) at1 rfl
  refine wpAny_updateSeq (hz := by seq_fits) at2 rfl ?_
  have at3 := Heap.get?_update_self (Obj.mapSeq (·.pop)) at2 rfl
  have old3 : ∀ b o, s.heap.get? b = some o → ((hp1.update s.heap.objs.size (Obj.mapSeq (·.push Value.none))).update s.heap.objs.size (Obj.mapSeq (·.pop))).get? b = some o := fun b o e => (Heap.get?_update_other _ _ (ne e)).trans ((Heap.get?_update_other _ _ (ne e)).trans (old1 b o e))
  have sz3 : ((hp1.update s.heap.objs.size (Obj.mapSeq (·.push Value.none))).update s.heap.objs.size (Obj.mapSeq (·.pop))).objs.size = s.heap.objs.size + 1 := by rw [Heap.size_update, Heap.size_update, sz1]
  generalize (hp1.update s.heap.objs.size (Obj.mapSeq (·.push Value.none))).update s.heap.objs.size (Obj.mapSeq (·.pop)) = hp3 at at3 old3 sz3
  refine wpAny_pure ⟨plainId_quiet PySem.F.plain_extend_loop _, ?_⟩
  refine zipLoop none1 D same few (B := s.heap.objs.size + 1) (fun b hb => ?_) (Nat.lt_succ_self _) ⟨ne hz, ne hTI, ne hTO, ne e1, ne e2, ne f1, ne f2⟩ xs.size 0 _ [] (Nat.zero_add _) (Nat.le_of_eq sz3.symm) ?_ ⟨_, at3⟩ fun h' tk Us c' u1 u0 u2 u3 u4 => ?_
  · have up : ∀ {b : Addr} {o : Obj}, s.heap.get? b = some o → b < s.heap.objs.size + 1 := fun e => Nat.lt_succ_of_lt (Heap.lt_size e)
    rcases hb with rfl | rfl | rfl | rfl | rfl | rfl | rfl
    · exact up hz
    · exact up hTI
    · exact up hTO
    · exact up e1
    · exact up e2
    · exact up f1
    · exact up f2
  · exact { pr := old3 _ _ hTI, w1 := h1.at fun o e => old3 _ o e, w2 := h2.at fun o e => old3 _ o e, a1 := g1.at fun o e => old3 _ o e, a2 := g2.at fun o e => old3 _ o e, zp := Or.inl ⟨old3 _ _ hz, _, _, old3 _ _ hTO⟩, len := rfl, nd := List.nodup_nil, out := fun j T hj => by simp at hj }
  · exact ⟨rfl, hQ h' tk Us c' u1 u0 u2 u3 fun b o b1 b2 b3 b4 e => u4 b o (Ne.symm (ne e)) b1 b2 b3 b4 (old3 b o e)⟩
end
section
variable {X : Cx} {K : PySem.W.Frag}
def tListZip (K : PySem.W.Frag) (ta : TA) : TE := fun σ H Q => ta σ H fun vs H1 => ∃ (a b : Addr) (xs ys : List V), vs = [.ref a, .ref b] ∧ SqL K H1 a xs ∧ SqL K H1 b ys ∧ ys.length = xs.length ∧
  ∀ (L : Addr) (H2 : Hp) (Ts : List Addr), H1 L = none → Same H1 H2 → H2 L = some (.lst (Ts.map V.ref)) → Ts.length = xs.length → (∀ (j : Nat) (x y : V), xs[j]? = some x → ys[j]? = some y → ∃ T, Ts[j]? = some T ∧ H2 T = some (.tup [x, y])) → Q (.ref L) H2
theorem rd_lz {ta : TA} {σ : L2.St} {H : Hp} {Q : VK} (q : ta σ H fun vs H1 => ∃ (a b : Addr) (xs ys : List V), vs = [.ref a, .ref b] ∧ SqL K H1 a xs ∧ SqL K H1 b ys ∧ ys.length = xs.length ∧
  ∀ (L : Addr) (H2 : Hp) (Ts : List Addr), H1 L = none → Same H1 H2 → H2 L = some (.lst (Ts.map V.ref)) → Ts.length = xs.length → (∀ (j : Nat) (x y : V), xs[j]? = some x → ys[j]? = some y → ∃ T, Ts[j]? = some T ∧ H2 T = some (.tup [x, y])) → Q (.ref L) H2) : tListZip K ta σ H Q := q
theorem vals_get {xs : List V} {us : List Value} (h : Vals xs us) : ∀ {j : Nat} {u : Value}, us[j]? = some u → ∃ x, xs[j]? = some x ∧ RelV x u := by
  induction h with
  | nil => intro j u e; simp at e
  | cons r _ ih =>
    intro j u e
    cases j with
    | zero => simp at e; subst e; exact ⟨_, rfl, r⟩
    | succ j => simpa using ih (by simpa using e)
def pick2 : List Addr → List V → List V → Addr → List V
  | T :: Ts, x :: xs, y :: ys, c => if c = T then [x, y] else pick2 Ts xs ys c
  | _, _, _, _ => []
theorem pick2_at : ∀ {Ts : List Addr} {xs ys : List V} {j : Nat} {T : Addr} {x y : V}, Ts.Nodup → Ts[j]? = some T → xs[j]? = some x → ys[j]? = some y → pick2 Ts xs ys T = [x, y]
  | [], _, _, j, T, x, y, _, h, _, _ => by simp at h
  | _ :: _, [], _, j, T, x, y, _, _, h, _ => by simp at h
  | _ :: _, _ :: _, [], j, T, x, y, _, _, _, h => by simp at h
  | T0 :: Ts, x0 :: xs, y0 :: ys, 0, T, x, y, _, h1, h2, h3 => by
    simp at h1 h2 h3
    rw [h1, h2, h3]
    exact if_pos rfl
  | T0 :: Ts, x0 :: xs, y0 :: ys, j + 1, T, x, y, nd, h1, h2, h3 => by
    simp at h1 h2 h3
    obtain ⟨n1, n2⟩ := List.nodup_cons.mp nd
    have ne : T ≠ T0 := fun z => n1 (by rw [← z]; exact List.mem_of_getElem? h1)
    exact (if_neg ne).trans (pick2_at n2 h1 h2 h3)
theorem vals_refs : ∀ Us : List Addr, Vals (Us.map V.ref) (Us.map Value.ref)
  | [] => .nil
  | _ :: Us => .cons rfl (vals_refs Us)
theorem pe_listZip {e e2 : Expr} {ta : TA} {p p2 pos q : Pos} (hc : X.calm = true) (hg : Gl X "list") (hm : X.mg "list" = none) (hg2 : Gl X "zip") (hm2 : X.mg "zip" = none) (ha : PA X [e, e2] ta)
    (hs : starEach [e, e2] X.env = (false, eval e X.env) :: starEach [e2] X.env := by rfl) (hpl : (backTo q (starEach [e2] X.env)).any (·.1) = false := by rfl) (h : X.K = K := by rfl) :
    PE X (.Call (.Name "list" p) [.Call (.Name "zip" p2) [e, e2] [] q] [] pos) (tListZip K ta) := by
  subst h
  refine ⟨fun pins s σ H Q I want => ?_⟩
  refine Call_ (ld_blt (u := .type "list") I hg hm (by decide +kernel) (PyProof.Rows.callWith_type1 (PyProof.Rows.args_cons ?_ rfl) rfl rfl))
  refine Call_ (ld_blt I hg2 hm2 PyProof.Rows.boot_zip (PyProof.Rows.callWith_type1 (thn (ha.run q pins s σ H _ I want) fun us s1 ⟨vs, H1, I1, r1, q1⟩ => ?_) hs hpl))
  obtain ⟨a, b, xs, ys, ex, hx, hy, len, qq⟩ := q1
  subst ex
  obtain ⟨u1, u2, rfl, ra, rb⟩ : ∃ u1 u2, us = [u1, u2] ∧ RelV (.ref a) u1 ∧ RelV (.ref b) u2 := by
    cases r1 with
    | cons r rr =>
      cases rr with
      | cons r' rr =>
        cases rr
        exact ⟨_, _, rfl, r, r'⟩
  cases ra
  cases rb
  obtain ⟨its, rv, p1, z1⟩ := I1.list hx
  obtain ⟨its2, rv2, p2', z2⟩ := I1.list hy
  have l1 := rv.length
  have l2 := rv2.length
  have la : a < s1.heap.objs.size := p1.lt
  have lb : b < s1.heap.objs.size := p2'.lt
  refine call_zip_2 p1.isList p2'.isList fun h' hz hTI hTO w1 w2 hsz hk => ?_
  refine PyProof.Rows.args_nil ?_
  have D : ZipApart (s1.heap.objs.size + 4) (s1.heap.objs.size + 2) (s1.heap.objs.size + 3) s1.heap.objs.size (s1.heap.objs.size + 1) a b := PySem.W.ktu_apart s1.heap.objs.size a b la lb
  have keepL : ∀ {l : Addr} {items : Array Value}, s1.heap.IsList l items → h'.IsList l items := fun g => g.at fun o e => hk _ o e
  refine listZip (s := { s1 with heap := h' }) (I1.ok.hd hc) D (xs := its.toArray) (ys := its2.toArray) (by rw [List.size_toArray, List.size_toArray]; omega) (by rw [List.size_toArray]; omega) hz hTI hTO w1 w2 (keepL p1.isList) (keepL p2'.isList) fun h2 tk Us c' n1 n0 n2 n3 n4 => ?_
  rw [List.size_toArray] at n1
  have above : ∀ {c : Addr} {o : Obj}, s1.heap.get? c = some o → h2.get? c = some o := fun {c o} e => by
    have lt := Heap.lt_size e
    exact n4 c o (Nat.ne_of_lt (Nat.lt_add_right 4 lt)) (Nat.ne_of_lt (Nat.lt_add_right 3 lt)) (Nat.ne_of_lt lt) (Nat.ne_of_lt (Nat.lt_add_right 1 lt)) (hk c o e)
  have hsz' : h'.objs.size = s1.heap.objs.size + 5 := hsz
  -- what is tracked from here on
  have bigT : ∀ (j : Nat) (T : Addr), Us[j]? = some T → h'.objs.size < T := fun j T hj => (n2 j T hj).1
  have newT : ∀ T ∈ Us, H1 T = none ∧ T ≠ h'.objs.size := fun T hT => by
    obtain ⟨j, hj⟩ := List.mem_iff_getElem?.mp hT
    have := bigT j T hj
    exact ⟨I1.hok.fresh (Nat.le_of_lt (Nat.lt_of_le_of_lt (by rw [hsz']; exact Nat.le_add_right _ _) this)), Nat.ne_of_gt this⟩
  have newL : H1 h'.objs.size = none := I1.hok.fresh (by rw [hsz']; exact Nat.le_add_right _ _)
  have at_ : ∀ (j : Nat) (T : Addr), Us[j]? = some T → ∃ x y u v, xs[j]? = some x ∧ ys[j]? = some y ∧ RelV x u ∧ RelV y v ∧ IsPair h2 T u v := fun j T hj => by
    obtain ⟨_, u, v, e1, e2, pr⟩ := n2 j T hj
    obtain ⟨x, ex, rx⟩ := vals_get rv (j := j) (u := u) (by simpa using e1)
    obtain ⟨y, ey, ry⟩ := vals_get rv2 (j := j) (u := v) (by simpa using e2)
    exact ⟨x, y, u, v, ex, ey, rx, ry, pr⟩
  let H2 : Hp := fun c => if c = h'.objs.size then some (.lst (Us.map V.ref)) else if c ∈ Us then some (.tup (pick2 Us xs ys c)) else H1 c
  have gL : H2 h'.objs.size = some (.lst (Us.map V.ref)) := if_pos rfl
  have gT : ∀ (j : Nat) (T : Addr) (x y : V), Us[j]? = some T → xs[j]? = some x → ys[j]? = some y → H2 T = some (.tup [x, y]) := fun j T x y hj hx hy => by
    have hT := List.mem_of_getElem? hj
    show (if T = h'.objs.size then _ else if T ∈ Us then _ else _) = _
    rw [if_neg (newT T hT).2, if_pos hT, pick2_at n0 hj hx hy]
  have same2 : Same H1 H2 := fun c o e => by
    have m1 : c ≠ h'.objs.size := fun z => by
      rw [z, newL] at e
      cases e
    have m2 : c ∉ Us := fun z => by
      rw [(newT c z).1] at e
      cases e
    show (if c = h'.objs.size then _ else if c ∈ Us then _ else _) = _
    rw [if_neg m1, if_neg m2]
    exact e
  have szU : (Us.map V.ref).length ≤ sizeLine := by rw [List.length_map, n1]; omega
  have un : Un (frs X.stack) [] H1 H2 s1.heap h2 := Un.more (fun c o e => above e) same2 fun c e lt => by
    show (if c = h'.objs.size then _ else if c ∈ Us then _ else _) = _
    rw [if_neg fun z => by rw [z, hsz'] at lt; exact Nat.not_lt_of_le (Nat.le_add_right _ 5) lt, if_neg fun z => ?_]
    · exact e
    · obtain ⟨j, hj⟩ := List.mem_iff_getElem?.mp z
      have q := bigT j c hj
      rw [hsz'] at q
      exact Nat.lt_irrefl _ (Nat.lt_of_lt_of_le (Nat.lt_of_lt_of_le lt (Nat.le_add_right _ 5)) (Nat.le_of_lt q))
  have hok : HOk X.prog X.w H2 h2 := HOk.more I1.hok (fun c o e => above e) same2 fun c o e0 e => by
    have e' : (if c = h'.objs.size then some (.lst (Us.map V.ref)) else if c ∈ Us then some (.tup (pick2 Us xs ys c)) else H1 c) = some o := e
    by_cases c1 : c = h'.objs.size
    · rw [if_pos c1] at e'
      cases e'
      subst c1
      exact ⟨szU, Us.map Value.ref, c', vals_refs Us, n3⟩
    · rw [if_neg c1] at e'
      by_cases c2 : c ∈ Us
      · obtain ⟨j, hj⟩ := List.mem_iff_getElem?.mp c2
        obtain ⟨x, y, u, v, ex, ey, rx, ry, pr⟩ := at_ j c hj
        have g := gT j c x y hj ex ey
        rw [e] at g
        cases g
        refine ⟨by show 2 ≤ sizeLine; decide, [u, v], .cons rx (.cons ry .nil), _, pr, rfl, 0, rfl⟩
      · rw [if_neg c2, e0] at e'
        cases e'
  exact ⟨.ref h'.objs.size, H2, I1.call' (ch := []) rfl un hok I1.bare (fun _ z => nomatch z), rfl, qq h'.objs.size H2 Us newL same2 gL (by rw [n1, l1]) fun j x y hx hy => by
    have lt : j < Us.length := by
      have := (List.getElem?_eq_some_iff.mp hx).1
      omega
    exact ⟨Us[j], List.getElem?_eq_getElem lt, gT j _ x y (List.getElem?_eq_getElem lt) hx hy⟩⟩
end
/-! ### list(s), list(x) and len(x) of a text or a list -/
section
variable {X : Cx} {K : PySem.W.Frag}
theorem vals_strs_of : ∀ (cs : List Nat) (us : List Value), us.length = cs.length → (∀ (j : Nat) (u : Value), us[j]? = some u → ∃ c t, cs[j]? = some c ∧ u = Value.str ⟨#[c]⟩ t) → Vals (cs.map fun c => V.str ⟨#[c]⟩) us
  | [], [], _, _ => .nil
  | [], _ :: _, h, _ => by simp at h
  | _ :: _, [], h, _ => by simp at h
  | c :: cs, u :: us, h, k => by
    obtain ⟨d, t, h1, h2⟩ := k 0 u rfl
    simp at h1
    subst h1
    exact .cons ⟨t, h2⟩ (vals_strs_of cs us (by simpa using h) fun j v hv => by
      obtain ⟨d, t, q1, q2⟩ := k (j + 1) v (by simpa using hv)
      exact ⟨d, t, by simpa using q1, q2⟩)
def rListS : List V → Hp → VK → Prop := fun xs H Q => ∃ z : Str, xs = [.str z] ∧ z.cps.size ≤ 4000 ∧ ∀ l, H l = none → Q (.ref l) (upd H l (.lst (z.cps.toList.map fun c => V.str ⟨#[c]⟩)))
theorem klistS (hc : X.calm = true) : CallR X (.type "list") rListS := by
  intro pins s σ H xs us Q I r h
  obtain ⟨z, rfl, few, q⟩ := h
  obtain ⟨u, rfl, t, rfl⟩ := vals1 r
  have lim : z.cps.size ≤ sizeLine := by rw [sizeLine_eq]; omega
  refine PySem.call_list_str (hn := lim) (I.ok.hd hc) z t fun h' tk acc c' keep at_ it => ?_
  have sz : (z.cps.toList.map fun c => V.str ⟨#[c]⟩).length ≤ sizeLine := by rw [List.length_map, Array.length_toList]; exact lim
  refine ⟨.ref s.heap.objs.size, _, I.laid (o := .lst (z.cps.toList.map fun c => V.str ⟨#[c]⟩)) keep (Nat.le_refl _) ⟨sz, acc.toList, c', ?_, at_⟩, rfl, q _ (I.hok.fresh (Nat.le_refl _))⟩
  refine vals_strs_of _ _ (by rw [Array.length_toList, Array.length_toList]; exact it.1) fun j u hu => ?_
  obtain ⟨c, t', e1, e2⟩ := it.2 j u (by simpa using hu)
  exact ⟨c, t', by simpa using e1, e2⟩
def qListA (K : PySem.W.Frag) : List V → Hp → VK → Prop := fun xs H Q => qList K xs H Q ∨ rListS xs H Q
theorem klistA (hc : X.calm = true) (h : X.K = K := by rfl) : CallR X (.type "list") (qListA K) := CallR.or (klist h) (klistS hc)
def qLenA (K : PySem.W.Frag) : List V → Hp → VK → Prop := fun xs H Q => qLen K xs H Q ∨ ∃ z, xs = [.str z] ∧ z.length ≤ sizeLine ∧ Q (.int z.length) H
theorem klenA (h : X.K = K := by rfl) : CallR X (.builtin "len") (qLenA K) := CallR.or (klen h) call_len_str
end
/-! ### s * n -/
def repS (z : Str) (n : Nat) : Str := ⟨(List.replicate n z.cps).foldl (· ++ ·) #[]⟩
theorem fold_size (z : Array Nat) : ∀ (n : Nat) (acc : Array Nat), ((List.replicate n z).foldl (· ++ ·) acc).size = acc.size + n * z.size
  | 0, acc => by simp
  | n + 1, acc => by
    rw [List.replicate_succ, List.foldl_cons, fold_size z n, Array.size_append, Nat.succ_mul]
    omega
theorem repS_len (z : Str) (n : Nat) : (repS z n).length = n * z.length := by
  have := fold_size z.cps n #[]
  simpa [repS, Str.length] using this
theorem repS_one (z : Str) : repS z 1 = z := by
  cases z with
  | mk c =>
    show (⟨#[] ++ c⟩ : Str) = ⟨c⟩
    rw [Array.empty_append]
theorem repS_nil (z : Str) (n : Nat) (h : z.length = 0) : repS z n = z := by
  have e := repS_len z n
  rw [h, Nat.mul_zero] at e
  cases z with
  | mk c =>
    have h1 : c = #[] := Array.eq_empty_of_size_eq_zero h
    have h2 : (repS ⟨c⟩ n).cps = #[] := Array.eq_empty_of_size_eq_zero e
    subst h1
    cases q : repS ⟨#[]⟩ n with
    | mk d =>
      rw [q] at h2
      rw [show d = #[] from h2]
def rRepS : R2 := fun x y H Q => ∃ (z : Str) (n : Nat), x = .str z ∧ y = .int (n : Int) ∧ n ≤ 1000 ∧ z.length ≤ 1000 ∧ Q (.str (repS z n)) H
theorem op_repS {X : Cx} : OpR X (binaryOp .Mult) rRepS := by
  intro pins s σ H x y v u Q I rx ry h
  obtain ⟨z, n, rfl, rfl, hn, hz, q⟩ := h
  obtain ⟨t, rfl⟩ := rx
  obtain ⟨t', rfl⟩ := ry
  have prod : z.length * n ≤ 1000 * 1000 := Nat.mul_le_mul hz hn
  have fits : Builtin.Str.tooLong (z.length * ((n : Nat) : Int).toNat) = false := by
    rw [Int.toNat_natCast]
    refine decide_eq_false ?_
    rw [sizeLine_eq]
    omega
  refine PySem.P.mul_str (by rw [decide_eq_false (by omega), decide_eq_false (by omega)]; rfl) (fun h1 _ => ?_) (fun _ _ => fits) ?_
  · have b : (1 : Int) ≤ n := by omega
    have d := Int.ediv_le_ediv (a := (2 ^ 63 - 1) / 1000 * n) (b := 2 ^ 63 - 1) (c := n) (by omega) (by omega)
    rw [Int.mul_ediv_cancel _ (by omega)] at d
    omega
  by_cases h0 : (n : Int) < 1
  · have e : n = 0 := by omega
    subst e
    rw [if_pos h0]
    exact ⟨by decide, ⟨.str (repS z 0), H, I.tok _, ⟨_, rfl⟩, q⟩⟩
  · rw [if_neg h0]
    by_cases h1 : ((n : Int) == 1 || z.length == 0) = true
    · rw [if_pos h1]
      have e : repS z n = z := by
        rcases Bool.or_eq_true_iff.mp h1 with k | k
        · have : n = 1 := by
            have := eq_of_beq k
            omega
          rw [this, repS_one]
        · exact repS_nil z n (eq_of_beq k)
      rw [e] at q
      exact ⟨.str z, H, I, ⟨_, rfl⟩, q⟩
    · rw [if_neg h1, Int.toNat_natCast]
      refine ⟨?_, ⟨.str (repS z n), H, I.tok _, ⟨_, rfl⟩, q⟩⟩
      have e := repS_len z n
      rw [Nat.mul_comm] at e
      show (repS z n).length ≤ sizeLine
      rw [sizeLine_eq]
      omega
/-! ### xs + ys of any two lists that are read -/
theorem meets_cat (l b : Addr) (xs ys : Array Value) (n m : Nat) (d1 d2 : Option Addr) (s1 s2 : Array (Option Value)) (few : xs.size + ys.size ≤ sizeLine) :
    Meets (Builtin.«list.__add__» ⟨[.ref l, .ref b], []⟩) (fun _ R s => s.heap.get? l = some { cls := .type "list", dict := d1, data := .seq xs n, slots := s1 } ∧ s.heap.get? b = some { cls := .type "list", dict := d2, data := .seq ys m, slots := s2 } ∧
      R (.ok (.ret (Value.ref s.heap.objs.size))) { s with heap := s.heap.push { cls := Value.type "list", data := Data.seq (xs ++ ys) }, toks := s.toks }) :=
  .of_wp fun prog w A R s h => by
    obtain ⟨hp, gs, dr, tk, os⟩ := s
    obtain ⟨h1, h2, fin⟩ := h
    have j1 := PySem.AutoSeq1.idx_int
    have j2 := PySem.AutoSeq1.sub_tuple_tuple
    have j3 := PySem.AutoSeq1.sub_list_list
    have j4 := PySem.AutoSeq1.sub_tuple_list
    have j5 := PySem.AutoSeq1.sub_list_tuple
    wp_walk using PySem.AutoSeq1.wpAny_loadPart' h1, PySem.AutoSeq1.wpAny_loadPart' h2
    exact ⟨_, rfl, fin⟩
section
variable {X : Cx} {K : PySem.W.Frag}
def rCatL (K : PySem.W.Frag) : R2 := fun x y H Q => ∃ a b xs ys, x = .ref a ∧ y = .ref b ∧ SqL K H a xs ∧ SqL K H b ys ∧ xs.length + ys.length ≤ sizeLine ∧ ∀ p, H p = none → Q (.ref p) (upd H p (.lst (xs ++ ys)))
theorem op_catL (h : X.K = K := by rfl) : OpR X (binaryOp .Add) (rCatL K) := by
  subst h
  intro pins s σ H x y v u Q I rx ry want
  obtain ⟨a, b, xs, ys, rfl, rfl, ha, hb, few, q⟩ := want
  cases rx
  cases ry
  obtain ⟨its, r1, ⟨⟨c1, d1, e1, s1⟩, n1, g1, hc1, hd1, he1⟩, _⟩ := I.list ha
  obtain ⟨its2, r2, ⟨⟨c2, d2, e2, s2⟩, n2, g2, hc2, hd2, he2⟩, _⟩ := I.list hb
  simp only at hc1 hc2 he1 he2
  subst hc1 hc2 he1 he2
  have z1 := r1.length
  have z2 := r2.length
  refine PySem.concat_meets ⟨_, g1, rfl⟩ ⟨_, g2, rfl⟩ PySem.noFill_list_add PySem.seq_list_add PySem.F.slot_list_add PySem.F.entry_list_add (PySem.F.args_list_add_2 _ _) (meets_cat a b its.toArray its2.toArray n1 n2 d1 d2 s1 s2 (by rw [List.size_toArray, List.size_toArray]; omega)) ⟨g1, g2, ?_⟩
  have e : its.toArray ++ its2.toArray = (its ++ its2).toArray := by simp
  rw [e]
  exact ⟨.ref _, _, I.lnew (t' := s.toks) (r1.append r2) (by rw [List.length_append]; omega), rfl, q _ I.fresh⟩
end
end LX
namespace K06
open PySem L2 LX
def top (i : Nat) : Stmt := PySem.Challenge.pw_lastother_k06_whole_renamed_and_reversed.main.body.getD i (.Pass ⟨0, 0, 0, 0⟩)
abbrev s__law_draw : Stmt := top 23
abbrev s__law_shuffled : Stmt := top 24
abbrev s__law_colors : Stmt := top 25
abbrev s__law_people : Stmt := top 26
abbrev s_is_integer : Stmt := top 5
abbrev s_is_color : Stmt := top 6
abbrev s_is_colored_integer : Stmt := top 19
abbrev s_is_lineup : Stmt := top 10
abbrev s_check_lineup : Stmt := top 17
abbrev s_runs_of : Stmt := top 7
abbrev s_color_runs : Stmt := top 13
abbrev s_colors_in_order : Stmt := top 14
abbrev s_front_color : Stmt := top 11
abbrev s_check_color : Stmt := top 18
abbrev s_count_of : Stmt := top 15
abbrev s_people_ahead_of : Stmt := top 16
abbrev s__law_longer_right : Stmt := top 28
abbrev s_first_other_color : Stmt := top 20
abbrev s_second_color : Stmt := top 12
abbrev s__law_results : Stmt := top 27
abbrev s__law_renamed_right : Stmt := top 29
abbrev s__law_holds : Stmt := top 30
abbrev s__law_source : Stmt := top 22
abbrev s_law : Stmt := top 31
structure Ad where
  f__law_draw : Addr
  d__law_draw : FuncData
  f__law_shuffled : Addr
  d__law_shuffled : FuncData
  f__law_colors : Addr
  d__law_colors : FuncData
  f__law_people : Addr
  d__law_people : FuncData
  f_is_integer : Addr
  d_is_integer : FuncData
  f_is_color : Addr
  d_is_color : FuncData
  f_is_colored_integer : Addr
  d_is_colored_integer : FuncData
  f_is_lineup : Addr
  d_is_lineup : FuncData
  f_check_lineup : Addr
  d_check_lineup : FuncData
  f_runs_of : Addr
  d_runs_of : FuncData
  f_color_runs : Addr
  d_color_runs : FuncData
  f_colors_in_order : Addr
  d_colors_in_order : FuncData
  f_front_color : Addr
  d_front_color : FuncData
  f_check_color : Addr
  d_check_color : FuncData
  f_count_of : Addr
  d_count_of : FuncData
  f_people_ahead_of : Addr
  d_people_ahead_of : FuncData
  f__law_longer_right : Addr
  d__law_longer_right : FuncData
  f_first_other_color : Addr
  d_first_other_color : FuncData
  f_second_color : Addr
  d_second_color : FuncData
  f__law_results : Addr
  d__law_results : FuncData
  f__law_renamed_right : Addr
  d__law_renamed_right : FuncData
  f__law_holds : Addr
  d__law_holds : FuncData
  f__law_source : Addr
  d__law_source : FuncData
  f_law : Addr
  d_law : FuncData
  t_MOST_PEOPLE : Tok
structure Txt (K : PySem.W.Frag) (mg : Str → Option Value) (a : Ad) : Prop where
  b_bool : mg "bool" = none
  b_dict : mg "dict" = none
  b_enumerate : mg "enumerate" = none
  b_int : mg "int" = none
  b_isinstance : mg "isinstance" = none
  b_len : mg "len" = none
  b_list : mg "list" = none
  b_max : mg "max" = none
  b_min : mg "min" = none
  b_range : mg "range" = none
  b_sorted : mg "sorted" = none
  b_str : mg "str" = none
  b_tuple : mg "tuple" = none
  b_type : mg "type" = none
  b_zip : mg "zip" = none
  c_MOST_PEOPLE : mg "MOST_PEOPLE" = some (.int 60 a.t_MOST_PEOPLE)
  F__law_draw : Fun K "_law_draw" "_law_draw" s__law_draw a.f__law_draw a.d__law_draw
  n__law_draw : Binds K a.d__law_draw ["source", "count"] []
  g__law_draw : mg "_law_draw" = some (.ref a.f__law_draw)
  k__law_draw : PySem.W.keepIn K (.ref a.f__law_draw) = true
  F__law_shuffled : Fun K "_law_shuffled" "_law_shuffled" s__law_shuffled a.f__law_shuffled a.d__law_shuffled
  n__law_shuffled : Binds K a.d__law_shuffled ["source", "items"] []
  g__law_shuffled : mg "_law_shuffled" = some (.ref a.f__law_shuffled)
  k__law_shuffled : PySem.W.keepIn K (.ref a.f__law_shuffled) = true
  F__law_colors : Fun K "_law_colors" "_law_colors" s__law_colors a.f__law_colors a.d__law_colors
  n__law_colors : Binds K a.d__law_colors ["source", "size"] []
  g__law_colors : mg "_law_colors" = some (.ref a.f__law_colors)
  k__law_colors : PySem.W.keepIn K (.ref a.f__law_colors) = true
  F__law_people : Fun K "_law_people" "_law_people" s__law_people a.f__law_people a.d__law_people
  n__law_people : Binds K a.d__law_people ["source", "most"] []
  g__law_people : mg "_law_people" = some (.ref a.f__law_people)
  k__law_people : PySem.W.keepIn K (.ref a.f__law_people) = true
  F_is_integer : Fun K "is_integer" "is_integer" s_is_integer a.f_is_integer a.d_is_integer
  n_is_integer : Binds K a.d_is_integer ["value"] []
  g_is_integer : mg "is_integer" = some (.ref a.f_is_integer)
  k_is_integer : PySem.W.keepIn K (.ref a.f_is_integer) = true
  F_is_color : Fun K "is_color" "is_color" s_is_color a.f_is_color a.d_is_color
  n_is_color : Binds K a.d_is_color ["value"] []
  g_is_color : mg "is_color" = some (.ref a.f_is_color)
  k_is_color : PySem.W.keepIn K (.ref a.f_is_color) = true
  F_is_colored_integer : Fun K "is_colored_integer" "is_colored_integer" s_is_colored_integer a.f_is_colored_integer a.d_is_colored_integer
  n_is_colored_integer : Binds K a.d_is_colored_integer ["value"] []
  g_is_colored_integer : mg "is_colored_integer" = some (.ref a.f_is_colored_integer)
  k_is_colored_integer : PySem.W.keepIn K (.ref a.f_is_colored_integer) = true
  F_is_lineup : Fun K "is_lineup" "is_lineup" s_is_lineup a.f_is_lineup a.d_is_lineup
  n_is_lineup : Binds K a.d_is_lineup ["value"] []
  g_is_lineup : mg "is_lineup" = some (.ref a.f_is_lineup)
  k_is_lineup : PySem.W.keepIn K (.ref a.f_is_lineup) = true
  F_check_lineup : Fun K "check_lineup" "check_lineup" s_check_lineup a.f_check_lineup a.d_check_lineup
  n_check_lineup : Binds K a.d_check_lineup ["value"] []
  g_check_lineup : mg "check_lineup" = some (.ref a.f_check_lineup)
  k_check_lineup : PySem.W.keepIn K (.ref a.f_check_lineup) = true
  F_runs_of : Fun K "runs_of" "runs_of" s_runs_of a.f_runs_of a.d_runs_of
  n_runs_of : Binds K a.d_runs_of ["row"] []
  g_runs_of : mg "runs_of" = some (.ref a.f_runs_of)
  k_runs_of : PySem.W.keepIn K (.ref a.f_runs_of) = true
  F_color_runs : Fun K "color_runs" "color_runs" s_color_runs a.f_color_runs a.d_color_runs
  n_color_runs : Binds K a.d_color_runs ["lineup"] []
  g_color_runs : mg "color_runs" = some (.ref a.f_color_runs)
  k_color_runs : PySem.W.keepIn K (.ref a.f_color_runs) = true
  F_colors_in_order : Fun K "colors_in_order" "colors_in_order" s_colors_in_order a.f_colors_in_order a.d_colors_in_order
  n_colors_in_order : Binds K a.d_colors_in_order ["lineup"] []
  g_colors_in_order : mg "colors_in_order" = some (.ref a.f_colors_in_order)
  k_colors_in_order : PySem.W.keepIn K (.ref a.f_colors_in_order) = true
  F_front_color : Fun K "front_color" "front_color" s_front_color a.f_front_color a.d_front_color
  n_front_color : Binds K a.d_front_color ["lineup"] []
  g_front_color : mg "front_color" = some (.ref a.f_front_color)
  k_front_color : PySem.W.keepIn K (.ref a.f_front_color) = true
  F_check_color : Fun K "check_color" "check_color" s_check_color a.f_check_color a.d_check_color
  n_check_color : Binds K a.d_check_color ["value"] []
  g_check_color : mg "check_color" = some (.ref a.f_check_color)
  k_check_color : PySem.W.keepIn K (.ref a.f_check_color) = true
  F_count_of : Fun K "count_of" "count_of" s_count_of a.f_count_of a.d_count_of
  n_count_of : Binds K a.d_count_of ["lineup", "color"] []
  g_count_of : mg "count_of" = some (.ref a.f_count_of)
  k_count_of : PySem.W.keepIn K (.ref a.f_count_of) = true
  F_people_ahead_of : Fun K "people_ahead_of" "people_ahead_of" s_people_ahead_of a.f_people_ahead_of a.d_people_ahead_of
  n_people_ahead_of : Binds K a.d_people_ahead_of ["lineup", "color"] []
  g_people_ahead_of : mg "people_ahead_of" = some (.ref a.f_people_ahead_of)
  k_people_ahead_of : PySem.W.keepIn K (.ref a.f_people_ahead_of) = true
  F__law_longer_right : Fun K "_law_longer_right" "_law_longer_right" s__law_longer_right a.f__law_longer_right a.d__law_longer_right
  n__law_longer_right : Binds K a.d__law_longer_right ["source", "people"] []
  g__law_longer_right : mg "_law_longer_right" = some (.ref a.f__law_longer_right)
  k__law_longer_right : PySem.W.keepIn K (.ref a.f__law_longer_right) = true
  F_first_other_color : Fun K "first_other_color" "first_other_color" s_first_other_color a.f_first_other_color a.d_first_other_color
  n_first_other_color : Binds K a.d_first_other_color ["lineup", "color"] []
  g_first_other_color : mg "first_other_color" = some (.ref a.f_first_other_color)
  k_first_other_color : PySem.W.keepIn K (.ref a.f_first_other_color) = true
  F_second_color : Fun K "second_color" "second_color" s_second_color a.f_second_color a.d_second_color
  n_second_color : Binds K a.d_second_color ["lineup"] []
  g_second_color : mg "second_color" = some (.ref a.f_second_color)
  k_second_color : PySem.W.keepIn K (.ref a.f_second_color) = true
  F__law_results : Fun K "_law_results" "_law_results" s__law_results a.f__law_results a.d__law_results
  n__law_results : Binds K a.d__law_results ["people"] []
  g__law_results : mg "_law_results" = some (.ref a.f__law_results)
  k__law_results : PySem.W.keepIn K (.ref a.f__law_results) = true
  F__law_renamed_right : Fun K "_law_renamed_right" "_law_renamed_right" s__law_renamed_right a.f__law_renamed_right a.d__law_renamed_right
  n__law_renamed_right : Binds K a.d__law_renamed_right ["source", "people"] []
  g__law_renamed_right : mg "_law_renamed_right" = some (.ref a.f__law_renamed_right)
  k__law_renamed_right : PySem.W.keepIn K (.ref a.f__law_renamed_right) = true
  F__law_holds : Fun K "_law_holds" "_law_holds" s__law_holds a.f__law_holds a.d__law_holds
  n__law_holds : Binds K a.d__law_holds ["source", "most"] []
  g__law_holds : mg "_law_holds" = some (.ref a.f__law_holds)
  k__law_holds : PySem.W.keepIn K (.ref a.f__law_holds) = true
  F__law_source : Fun K "_law_source" "_law_source" s__law_source a.f__law_source a.d__law_source
  n__law_source : Binds K a.d__law_source ["cell", "k"] []
  g__law_source : mg "_law_source" = some (.ref a.f__law_source)
  k__law_source : PySem.W.keepIn K (.ref a.f__law_source) = true
  F_law : Fun K "law" "law" s_law a.f_law a.d_law
  n_law : Binds K a.d_law ["script"] []
  g_law : mg "law" = some (.ref a.f_law)
  k_law : PySem.W.keepIn K (.ref a.f_law) = true
theorem sc__law_draw : FnScope ["source", "count", "digit", "mixed"] ["source", "count"] (defScope s__law_draw) := ⟨rfl, rfl, rfl, by decide +kernel, rfl, by decide +kernel, by decide +kernel⟩
theorem sc__law_shuffled : FnScope ["source", "items", "rest", "k"] ["source", "items"] (defScope s__law_shuffled) := ⟨rfl, rfl, rfl, by decide +kernel, rfl, by decide +kernel, by decide +kernel⟩
theorem sc__law_colors : FnScope ["source", "size", "kind", "limit", "letters", "chosen", "k", "letter", "alphabet"] ["source", "size"] (defScope s__law_colors) := ⟨rfl, rfl, rfl, by decide +kernel, rfl, by decide +kernel, by decide +kernel⟩
theorem sc__law_people : FnScope ["source", "most", "size"] ["source", "most"] (defScope s__law_people) := ⟨rfl, rfl, rfl, by decide +kernel, rfl, by decide +kernel, by decide +kernel⟩
theorem sc_is_integer : FnScope ["value"] ["value"] (defScope s_is_integer) := ⟨rfl, rfl, rfl, by decide +kernel, rfl, by decide +kernel, by decide +kernel⟩
theorem sc_is_color : FnScope ["value"] ["value"] (defScope s_is_color) := ⟨rfl, rfl, rfl, by decide +kernel, rfl, by decide +kernel, by decide +kernel⟩
theorem sc_is_colored_integer : FnScope ["value"] ["value"] (defScope s_is_colored_integer) := ⟨rfl, rfl, rfl, by decide +kernel, rfl, by decide +kernel, by decide +kernel⟩
theorem sc_is_lineup : FnScope ["value", "item", "person", "_"] ["value"] (defScope s_is_lineup) := ⟨rfl, rfl, rfl, by decide +kernel, rfl, by decide +kernel, by decide +kernel⟩
theorem sc_check_lineup : FnScope ["value"] ["value"] (defScope s_check_lineup) := ⟨rfl, rfl, rfl, by decide +kernel, rfl, by decide +kernel, by decide +kernel⟩
theorem sc_runs_of : FnScope ["row", "runs", "item"] ["row"] (defScope s_runs_of) := ⟨rfl, rfl, rfl, by decide +kernel, rfl, by decide +kernel, by decide +kernel⟩
theorem sc_color_runs : FnScope ["lineup", "_", "color"] ["lineup"] (defScope s_color_runs) := ⟨rfl, rfl, rfl, by decide +kernel, rfl, by decide +kernel, by decide +kernel⟩
theorem sc_colors_in_order : FnScope ["lineup", "found", "_", "color"] ["lineup"] (defScope s_colors_in_order) := ⟨rfl, rfl, rfl, by decide +kernel, rfl, by decide +kernel, by decide +kernel⟩
theorem sc_front_color : FnScope ["lineup"] ["lineup"] (defScope s_front_color) := ⟨rfl, rfl, rfl, by decide +kernel, rfl, by decide +kernel, by decide +kernel⟩
theorem sc_check_color : FnScope ["value"] ["value"] (defScope s_check_color) := ⟨rfl, rfl, rfl, by decide +kernel, rfl, by decide +kernel, by decide +kernel⟩
theorem sc_count_of : FnScope ["lineup", "color", "person", "worn"] ["lineup", "color"] (defScope s_count_of) := ⟨rfl, rfl, rfl, by decide +kernel, rfl, by decide +kernel, by decide +kernel⟩
theorem sc_people_ahead_of : FnScope ["lineup", "color", "position", "_", "worn"] ["lineup", "color"] (defScope s_people_ahead_of) := ⟨rfl, rfl, rfl, by decide +kernel, rfl, by decide +kernel, by decide +kernel⟩
theorem sc__law_longer_right : FnScope ["source", "people", "letter", "longer", "pieces", "expected", "order"] ["source", "people"] (defScope s__law_longer_right) := ⟨rfl, rfl, rfl, by decide +kernel, rfl, by decide +kernel, by decide +kernel⟩
theorem sc_first_other_color : FnScope ["lineup", "color", "_", "worn"] ["lineup", "color"] (defScope s_first_other_color) := ⟨rfl, rfl, rfl, by decide +kernel, rfl, by decide +kernel, by decide +kernel⟩
theorem sc_second_color : FnScope ["lineup"] ["lineup"] (defScope s_second_color) := ⟨rfl, rfl, rfl, by decide +kernel, rfl, by decide +kernel, by decide +kernel⟩
theorem sc__law_results : FnScope ["people", "some", "letters", "letter"] ["people"] (defScope s__law_results) := ⟨rfl, rfl, rfl, by decide +kernel, rfl, by decide +kernel, by decide +kernel⟩
theorem sc__law_renamed_right : FnScope ["source", "people", "letters", "names", "renamed", "second", "letter", "person", "length"] ["source", "people"] (defScope s__law_renamed_right) := ⟨rfl, rfl, rfl, by decide +kernel, rfl, by decide +kernel, by decide +kernel⟩
theorem sc__law_holds : FnScope ["source", "most", "people", "letters", "renumbered", "backward", "letter", "person"] ["source", "most"] (defScope s__law_holds) := ⟨rfl, rfl, rfl, by decide +kernel, rfl, by decide +kernel, by decide +kernel⟩
theorem sc__law_source : FnScope ["cell", "k"] ["cell", "k"] (defScope s__law_source) := ⟨rfl, rfl, rfl, by decide +kernel, rfl, by decide +kernel, by decide +kernel⟩
theorem sc_law : FnScope ["script", "k", "cell"] ["script"] (defScope s_law) := ⟨rfl, rfl, rfl, by decide +kernel, rfl, by decide +kernel, by decide +kernel⟩
end K06

namespace K06
open PySem L2 LX
local macro_rules | `(tactic| walk_at "rd") => `(tactic| repeat (first
  | with_reducible refine rd_var rfl ?_ | with_reducible refine rd_c ?_ | with_reducible refine rd_op ?_ | with_reducible refine rd_un ?_ | with_reducible refine rd_I0 ?_ | with_reducible refine rd_U ?_
  | with_reducible refine rd_test ?_ | with_reducible refine rd_tB ?_ | with_reducible refine rd_bl ?_ | with_reducible refine rd_chain ?_
  | with_reducible refine rd_and ?_ | with_reducible refine rd_or ?_ | with_reducible refine rd_not ?_ | with_reducible refine rd_andV ?_ | with_reducible refine rd_orV ?_ | with_reducible refine rd_notV ?_
  | with_reducible refine rd_next ?_ | with_reducible refine rd_seq ?_ | with_reducible refine rd_drop ?_ | with_reducible refine rd_ret ?_ | with_reducible refine rd_ifS ?_ | with_reducible refine rd_asg ?_ | with_reducible refine rd_name ?_
  | with_reducible refine rd_par ?_ | with_reducible refine rd_two ?_ | with_reducible refine rd_2i ?_ | with_reducible refine rd_nil ?_ | with_reducible refine rd_cons ?_ | with_reducible refine rd_tup ?_ | with_reducible refine rd_lst ?_ | with_reducible refine rd_cb ?_ | with_reducible refine rd_call ?_
  | with_reducible refine rd_ixL (by assumption) rfl ?_ | with_reducible refine rd_ixT (by assumption) rfl ?_ | with_reducible refine rd_ixL upd_same rfl ?_ | with_reducible refine rd_sub ?_ | with_reducible refine rd_sl ?_ | with_reducible refine rd_nopart ?_ | with_reducible refine rd_part ?_ | with_reducible refine rd_int ?_
  | with_reducible refine rd_len (by assumption) ?_ | with_reducible refine rd_bm ?_ | with_reducible refine rd_bm0 ?_ | with_reducible refine rd_gcons ?_ | with_reducible refine rd_gnil ?_
  | ((with_reducible refine rd_I ?ci ?_); (case ci => first | assumption | (show (0 : Int) < _; decide) | exact Or.inl ⟨by decide, by decide⟩ | exact Or.inr ⟨by decide, by decide⟩ | exact ⟨by decide, by decide, (by decide : Int.natAbs 10 < 2 ^ 1000)⟩))
  | with_reducible refine rd_setL (by assumption) rfl ?_ | with_reducible refine rd_setL upd_same rfl ?_ | with_reducible refine rd_len upd_same ?_
  | with_reducible refine rd_2ty ?_ | with_reducible refine rd_NT ?_ | with_reducible refine rd_2s ?_ | with_reducible refine rd_lenS ?_ | with_reducible refine rd_lenT (by assumption) ?_ | ((with_reducible refine rd_typ ?ct ?_); (case ct => rfl))
  | ((with_reducible refine rd_eq ?cs ?_); (case cs => rfl)) | ((with_reducible refine rd_ne ?cs ?_); (case cs => rfl))
  | with_reducible refine rd_qtru ?_ | with_reducible refine rd_lstRg ?_ | with_reducible refine rd_rg1 ?_ | with_reducible refine rd_tyes ?_ | with_reducible refine rd_tyL (by assumption) ?_ | with_reducible refine rd_tyT (by assumption) ?_
  | with_reducible refine iteT ?_ | with_reducible refine iteF ?_ | with_reducible refine rd_nt ?_ | with_reducible refine rd_nf ?_
  | (dsimp only)))

variable {P : Program} {w : World} {K : PySem.W.Frag} {mg : Str → Option Value} {base : Heap} {a : Ad}
def sp__law_source (K : PySem.W.Frag) : Sp := fun vs H Q _ => ∃ (c k : Int), vs = [.int c, .int k] ∧ 0 ≤ k ∧ k ≤ 100 ∧ ∀ p H', H p = none → SrcN H' p 0 → (∀ b, b ≠ p → H' b = H b) → Q (.ref p) H'
theorem ok__law_source (T : Txt K mg a) : FnOk P w K mg base CX0 1 a.f__law_source a.d__law_source ["cell", "k"] (sp__law_source K) := by
  refine T.F__law_source.ok sc__law_source (fun vs H Q E h => ?_) (fun cdv A outer s H vs Q E hr h => ?_)
  · obtain ⟨c, k, rfl, _⟩ := h
    rfl
  · obtain ⟨c, k, rfl, k0, k1, kq⟩ := h
    have hu := hu_of hr
    have nd := sc__law_source.nd
    refine ⟨_, (pss_one (ps_ret (pe_lst (pa_cons (pe_callB (call_max2 rfl) (by rfl) T.b_max (by decide +kernel) (pa_cons pe_int (pa_cons (pe_op op_sub (pv 0) (pe_op op_powW pe_int pe_int)) pa_nil))) (pa_cons (pe_op op_add (pe_op op_mul (pe_op op_mod (pv 0) (pe_op op_add (pe_op op_powW pe_int pe_int) pe_int)) pe_int) (pv 1)) (pa_cons pe_int pa_nil)))))), ?_⟩
    walk_at "rd"
    refine ⟨rd_sl_len (by simp only [List.length_cons, List.length_nil]; decide), fun p np => kq p _ np ⟨⟨_, _, _, upd_same, ?_, Nat.le_refl _⟩⟩ fun b nb => upd_ne nb⟩
    have b1 : (c % (10 ^ Int.toNat 39 + 3)).natAbs < 2 ^ 200 := mod_small (by decide) (by decide)
    have b2 : (c % (10 ^ Int.toNat 39 + 3) * 97).natAbs < 2 ^ 300 := mul_small (k := 100) b1 (by decide) (by decide)
    exact add_small b2 (k := 300) (by omega) (by decide) (by decide)
def sp__law_draw (K : PySem.W.Frag) : Sp := fun vs H Q _ => ∃ (p : Addr) (n : Int) (b : Nat), vs = [.ref p, .int n] ∧ SrcN H p b ∧ b ≤ 2 ^ 100 ∧ 0 < n ∧ n < 2 ^ 60 ∧
  ∀ (r : Int) H', 0 ≤ r → r < n → SrcN H' p (b + 1) → (∀ b, b ≠ p → H' b = H b) → Q (.int r) H'
theorem ok__law_draw (T : Txt K mg a) : FnOk P w K mg base CX0 1 a.f__law_draw a.d__law_draw ["source", "count"] (sp__law_draw K) := by
  refine T.F__law_draw.ok sc__law_draw (fun vs H Q E h => ?_) (fun cdv A outer s H vs Q E hr h => ?_)
  · obtain ⟨p, n, b, rfl, _⟩ := h
    rfl
  · obtain ⟨p, n, b, rfl, S, hb, n0, n1, kq⟩ := h
    obtain ⟨s0, s1, s2, hp, hs1, hs2⟩ := S.ex
    have hu := hu_of hr
    have nd := sc__law_draw.nd
    have nw : n.natAbs < 2 ^ 60 := by omega
    refine ⟨_, (pss_cons (ps_if (pt_cmpR op_gt (pe_ix (kix_list (K := K)) (pv 0) pe_int (fun _ _ => rfl)) pe_int (nomark _)) (pss_cons (ps_set (i := 2) nd rfl (Or.inl rfl) (pe_op op_mod (pe_ix (kix_list (K := K)) (pv 0) pe_int (fun _ _ => rfl)) (pv 1)))
      (pss_cons (ps_asg (pe_op op_fdivW (pe_ix (kix_list (K := K)) (pv 0) pe_int (fun _ _ => rfl)) (pv 1)) (pg_sub (pv 0) pe_int set_list))
      (pss_one (ps_ret (pv 2))))) pss_nil)
      (pss_cons (ps_asg (pe_op op_add (pe_ix (kix_list (K := K)) (pv 0) pe_int (fun _ _ => rfl)) pe_int) (pg_sub (pv 0) pe_int set_list))
      (pss_cons (ps_set (i := 3) nd rfl (Or.inl rfl) (pe_op op_mod (pe_op op_powW (pe_op op_add (pe_ix (kix_list (K := K)) (pv 0) pe_int (fun _ _ => rfl)) (pe_op op_mul pe_int (pe_ix (kix_list (K := K)) (pv 0) pe_int (fun _ _ => rfl)))) pe_int) (pe_op op_add (pe_op op_powW pe_int pe_int) pe_int)))
      (pss_cons (ps_set (i := 3) nd rfl (Or.inl rfl) (pe_op op_mod (pe_op op_powW (pe_op op_add (pe_op op_mulW (pv 3) (pe_ix (kix_list (K := K)) (pv 0) pe_int (fun _ _ => rfl))) pe_int) pe_int) (pe_op op_add (pe_op op_powW pe_int pe_int) pe_int)))
      (pss_one (ps_ret (pe_op op_mod (pe_op op_fdivW (pv 3) pe_int) (pv 1)))))))), ?_⟩
    walk_at "rd"
    refine rd_dec (fun c => ?_) fun c => ?_
    · walk_at "rd"
      refine rd_I (wide_div n0 nw (by decide) (by decide)) ?_
      walk_at "rd"
      exact kq _ _ (Int.emod_nonneg _ (by omega)) (Int.emod_lt_of_pos _ n0) ⟨⟨_, _, _, upd_same, hs1, by omega⟩⟩ fun b nb => upd_ne nb
    · have z2 : (s2 + 1).natAbs < 2 ^ 102 := by
        have : (2 : Nat) ^ 102 = 4 * 2 ^ 100 := by decide
        omega
      have z3 : (600011 * (s2 + 1)).natAbs < 2 ^ 200 := mul_small (j := 20) (by decide) z2 (by decide)
      have z4 : (s1 + 600011 * (s2 + 1)).natAbs < 2 ^ 500 := add_small hs1 z3 (by decide) (by decide)
      walk_at "rd"
      refine rd_I (C := CPowW) ⟨by decide, by decide, Nat.lt_of_lt_of_le z4 (Nat.pow_le_pow_right (by decide) (by decide))⟩ ?_
      walk_at "rd"
      have z5 : ((s1 + 600011 * (s2 + 1)) ^ Int.toNat 3 % (10 ^ Int.toNat 36 + 67)).natAbs < 2 ^ 200 := mod_small (by decide) (by decide)
      generalize (s1 + 600011 * (s2 + 1)) ^ Int.toNat 3 % (10 ^ Int.toNat 36 + 67) = m1 at z5 ⊢
      refine rd_I (wide_mul z5 z2 (by decide) (by decide) (by decide)) ?_
      walk_at "rd"
      have z6 : (m1 * (s2 + 1)).natAbs < 2 ^ 400 := mul_small z5 z2 (by decide)
      have z7 : (m1 * (s2 + 1) + 77773).natAbs < 2 ^ 500 := add_small z6 (k := 20) (by decide) (by decide) (by decide)
      refine rd_I (C := CPowW) ⟨by decide, by decide, Nat.lt_of_lt_of_le z7 (Nat.pow_le_pow_right (by decide) (by decide))⟩ ?_
      walk_at "rd"
      refine rd_I (wide_div (b := 60) (by decide) (by decide) (by decide) (by decide)) ?_
      walk_at "rd"
      exact kq _ _ (Int.emod_nonneg _ (by omega)) (Int.emod_lt_of_pos _ n0) ⟨⟨_, _, _, upd_same, hs1, by omega⟩⟩ fun b nb => upd_ne nb
/-- drawn so far us, still there ls -/
def Shf (H H8 : Hp) (D q p : Addr) (xs : List V) (b i : Nat) : Prop := ∃ us ls : List V, H8 D = some (.lst us) ∧ H8 q = some (.lst ls) ∧ us.length = i ∧ (us ++ ls).Perm xs ∧ SrcN H8 p (b + i) ∧ Same' p H H8
def sp__law_shuffled (K : PySem.W.Frag) : Sp := fun vs H Q _ => ∃ (p : Addr) (v : V) (xs : List V) (b : Nat), vs = [.ref p, v] ∧ SrcN H p b ∧ ((∃ l, v = .ref l ∧ H l = some (.lst xs)) ∨ ∃ z : Str, v = .str z ∧ xs = z.cps.toList.map fun c => V.str ⟨#[c]⟩) ∧ xs.length ≤ 1000 ∧ b + xs.length ≤ 2 ^ 100 ∧
  ∀ L H' (ys : List V), H L = none → Same' p H H' → SrcN H' p (b + xs.length) → H' L = some (.lst ys) → ys.Perm xs → Q (.ref L) H'
theorem ok__law_shuffled (T : Txt K mg a) : FnOk P w K mg base CX0 2 a.f__law_shuffled a.d__law_shuffled ["source", "items"] (sp__law_shuffled K) := by
  refine T.F__law_shuffled.ok sc__law_shuffled (fun vs H Q E h => ?_) (fun cdv A outer s H vs Q E hr h => ?_)
  · obtain ⟨p, v, xs, b, rfl, _⟩ := h
    rfl
  · obtain ⟨p, v, xs, b, rfl, S, how, few, hb, kq⟩ := h
    have nd := sc__law_shuffled.nd
    refine ⟨_, (pss_cons (ps_set (i := 2) nd rfl (Or.inr rfl) (pe_callTy (klistA (K := K) rfl) (by rfl) T.b_list (by decide +kernel) (pa_cons (pv 1) pa_nil)))
      (pss_one (ps_ret (pe_lc (own := [("k", 3)]) (g := gName 3) (tt := tYes) rfl nd (pi_range1 rfl T.b_range (pa_cons (pe_callB (klenA (K := K)) (by rfl) T.b_len (by decide +kernel) (pa_cons (pv 1) pa_nil)) pa_nil)) (blkOk_by (own := [("k", 3)]) (N := ["source", "items", "rest", "k"]) (sc := defScope s__law_shuffled) (by decide +kernel)) (fun _ _ _ _ _ => (pg_name (i := 3) nd rfl (Or.inl rfl))) (fun _ _ _ _ _ => pts_nil) (fun _ _ _ _ _ => (kbm (K := K) PySem.F.plainAttrs_list PySem.F.slot_list_pop PySem.F.type_list_pop mt_popAt (pv 2) (pa_cons (pe_call (ok__law_draw T) (hr.mono (by decide)) rfl T.g__law_draw T.k__law_draw T.n__law_draw .nil pass0 (pa_cons (pv 0) (pa_cons (pe_callB (klen (K := K)) (by rfl) T.b_len (by decide +kernel) (pa_cons (pv 2) pa_nil)) pa_nil))) pa_nil))))))), ?_⟩
    walk_at "rd"
    have go : ∀ q : Addr, H q = none → ∀ R : VK, (∀ H1, Same H H1 → H1 q = some (.lst xs) → R (.ref q) H1) → R (.ref q) (upd H q (.lst xs)) := fun q hq R k => k _ (sNew hq) upd_same
    have one : ∀ R : VK, (∀ q H1, H q = none → Same H H1 → H1 q = some (.lst xs) → R (.ref q) H1) → qListA K [v] H R := fun R k => by
      rcases how with ⟨l, rfl, hl⟩ | ⟨z, rfl, rfl⟩
      · exact Or.inl (rd_listOf hl fun q hq => k q _ hq (sNew hq) upd_same)
      · exact Or.inr ⟨z, rfl, by rw [List.length_map, Array.length_toList] at few; omega, fun q hq => k q _ hq (sNew hq) upd_same⟩
    refine one _ fun q H1 hq s1 gq => ?_
    have hqp : q ≠ p := S.not_none hq
    have S1 := S.same s1
    have two : ∀ R : VK, R (.int xs.length) H1 → qLenA K [v] H1 R := fun R k => by
      rcases how with ⟨l, rfl, hl⟩ | ⟨z, rfl, rfl⟩
      · exact Or.inl (rd_len (s1 _ _ hl) k)
      · refine Or.inr ⟨z, rfl, ?_, ?_⟩
        · rw [List.length_map, Array.length_toList] at few
          show z.cps.size ≤ sizeLine
          exact rd_sl_len few
        · rw [List.length_map, Array.length_toList] at k
          exact k
    walk_at "rd"
    refine rd_lc (rd_iR ?_)
    walk_at "rd"
    refine two _ ?_
    walk_at "rd"
    refine ⟨_, rfl, by omega, by omega, fun D hD => lc_range (lo := 0) (n := xs.length) (fun i H8 => Shf H H8 D q p xs b i) ?_ ?_ ?_⟩
    · have hDq : D ≠ q := fun z => by rw [z, gq] at hD; cases hD
      exact ⟨[], xs, upd_same, by rw [upd_ne hDq.symm]; exact gq, rfl, List.Perm.refl _, S1.same (sNew hD), (sTo p s1).trans (sTo p (sNew hD))⟩
    · rintro i H8 hi ⟨us, ls, hD8, hq8, hl8, hp8, S8, s8⟩
      have hlen := hp8.length_eq
      rw [List.length_append] at hlen
      have hDp : D ≠ p := S1.not_none hD
      have hDq : D ≠ q := fun z => by rw [z, gq] at hD; cases hD
      walk_at "rd"
      refine ⟨rfl, ?_⟩
      walk_at "rd"
      refine ⟨Or.inl ⟨rfl, _, SqL.of hq8⟩, ?_⟩
      walk_at "rd"
      refine ⟨p, _, _, rfl, S8, by omega, by omega, by omega, fun j H9 j0 j1 S9 f9 => ?_⟩
      obtain ⟨j, rfl⟩ : ∃ j' : Nat, j = (j' : Int) := ⟨j.toNat, by omega⟩
      have hj : j < ls.length := by omega
      obtain ⟨x, hx⟩ : ∃ x, ls[j]? = some x := ⟨ls[j], List.getElem?_eq_getElem hj⟩
      have hq9 : H9 q = some (.lst ls) := by rw [f9 q hqp]; exact hq8
      have hD9 : H9 D = some (.lst us) := by rw [f9 D hDp]; exact hD8
      refine ⟨q, _, _, j, x, rfl, rfl, hq9, by omega, by omega, LX.seqIx hj, hx, ?_⟩
      refine ⟨us, by rw [upd_ne hDq]; exact hD9, sz1000 (by omega), us ++ [x], ls.eraseIdx j, ?_, ?_, ?_, ?_, ?_, ?_⟩
      · rw [upd_same]
      · rw [upd_ne hDq.symm, upd_same]
      · rw [List.length_append, hl8]
        rfl
      · rw [List.append_assoc]
        exact ((List.Perm.refl _).append (LX.erase_perm hx)).trans hp8
      · have := (S9.off (o := .lst (ls.eraseIdx j)) hqp).off (o := .lst (us ++ [x])) hDp
        rw [Nat.add_assoc] at this
        exact this
      · intro c o e nc
        have hcD : c ≠ D := ne_of_none (s1 _ _ e) hD
        have hcq : c ≠ q := ne_of_none e hq
        rw [upd_ne hcD, upd_ne hcq, f9 c nc]
        exact s8 _ _ e nc
    · rintro H8 ⟨us, ls, hD8, hq8, hl8, hp8, S8, s8⟩
      have hlen := hp8.length_eq
      rw [List.length_append] at hlen
      have e : ls = [] := List.length_eq_zero_iff.mp (by omega)
      rw [e, List.append_nil] at hp8
      exact kq D H8 us (s1.free hD) s8 S8 hD8 hp8
end K06

namespace K06
open PySem L2 LX
local macro_rules | `(tactic| walk_at "rd") => `(tactic| repeat (first
  | with_reducible refine rd_var rfl ?_ | with_reducible refine rd_c ?_ | with_reducible refine rd_op ?_ | with_reducible refine rd_un ?_ | with_reducible refine rd_I0 ?_ | with_reducible refine rd_U ?_
  | with_reducible refine rd_test ?_ | with_reducible refine rd_tB ?_ | with_reducible refine rd_bl ?_ | with_reducible refine rd_chain ?_
  | with_reducible refine rd_and ?_ | with_reducible refine rd_or ?_ | with_reducible refine rd_not ?_ | with_reducible refine rd_andV ?_ | with_reducible refine rd_orV ?_ | with_reducible refine rd_notV ?_
  | with_reducible refine rd_next ?_ | with_reducible refine rd_seq ?_ | with_reducible refine rd_drop ?_ | with_reducible refine rd_ret ?_ | with_reducible refine rd_ifS ?_ | with_reducible refine rd_asg ?_ | with_reducible refine rd_name ?_
  | with_reducible refine rd_par ?_ | with_reducible refine rd_two ?_ | with_reducible refine rd_2i ?_ | with_reducible refine rd_nil ?_ | with_reducible refine rd_cons ?_ | with_reducible refine rd_tup ?_ | with_reducible refine rd_lst ?_ | with_reducible refine rd_cb ?_ | with_reducible refine rd_call ?_
  | with_reducible refine rd_ixL (by assumption) rfl ?_ | with_reducible refine rd_ixT (by assumption) rfl ?_ | with_reducible refine rd_ixL upd_same rfl ?_ | with_reducible refine rd_sub ?_ | with_reducible refine rd_sl ?_ | with_reducible refine rd_nopart ?_ | with_reducible refine rd_part ?_ | with_reducible refine rd_int ?_
  | with_reducible refine rd_len (by assumption) ?_ | with_reducible refine rd_bm ?_ | with_reducible refine rd_bm0 ?_ | with_reducible refine rd_gcons ?_ | with_reducible refine rd_gnil ?_
  | ((with_reducible refine rd_I ?ci ?_); (case ci => first | assumption | (show (0 : Int) < _; decide) | exact Or.inl ⟨by decide, by decide⟩ | exact Or.inr ⟨by decide, by decide⟩ | exact ⟨by decide, by decide, (by decide : Int.natAbs 10 < 2 ^ 1000)⟩))
  | with_reducible refine rd_setL (by assumption) rfl ?_ | with_reducible refine rd_setL upd_same rfl ?_ | with_reducible refine rd_len upd_same ?_
  | with_reducible refine rd_2ty ?_ | with_reducible refine rd_NT ?_ | with_reducible refine rd_2s ?_ | with_reducible refine rd_lenS ?_ | with_reducible refine rd_lenT (by assumption) ?_ | ((with_reducible refine rd_typ ?ct ?_); (case ct => rfl))
  | ((with_reducible refine rd_eq ?cs ?_); (case cs => rfl)) | ((with_reducible refine rd_ne ?cs ?_); (case cs => rfl))
  | with_reducible refine rd_qtru ?_ | with_reducible refine rd_lstRg ?_ | with_reducible refine rd_rg1 ?_ | with_reducible refine rd_tyes ?_ | with_reducible refine rd_tyL (by assumption) ?_ | with_reducible refine rd_tyT (by assumption) ?_
  | with_reducible refine iteT ?_ | with_reducible refine iteF ?_ | with_reducible refine rd_nt ?_ | with_reducible refine rd_nf ?_
  | (dsimp only)))

variable {P : Program} {w : World} {K : PySem.W.Frag} {mg : Str → Option Value} {base : Heap} {a : Ad}
abbrev okc (cs : List Nat) : Prop := ∀ c ∈ cs, 97 ≤ c ∧ c ≤ 122
theorem perm_letters {ys : List V} (h : ys.Perm ((Str.ofString "abcdefghijklmnopqrstuvwxyz").cps.toList.map fun c => V.str ⟨#[c]⟩)) : ∃ cs : List Nat, ys = cs.map sg ∧ okc cs ∧ cs.length = 26 := by
  have all : ∀ v ∈ ys, ∃ c, v = sg c ∧ 97 ≤ c ∧ c ≤ 122 := fun v hv => by
    obtain ⟨c, hc, rfl⟩ := List.mem_map.mp (h.mem_iff.mp hv)
    refine ⟨c, rfl, ?_⟩
    have q : ∀ c ∈ (Str.ofString "abcdefghijklmnopqrstuvwxyz").cps.toList, 97 ≤ c ∧ c ≤ 122 := by decide +kernel
    exact q c hc
  have len : ys.length = 26 := by
    rw [h.length_eq, List.length_map]
    decide +kernel
  have go : ∀ ys : List V, (∀ v ∈ ys, ∃ c, v = sg c ∧ 97 ≤ c ∧ c ≤ 122) → ∃ cs : List Nat, ys = cs.map sg ∧ okc cs := by
    intro ys
    induction ys with
    | nil => exact fun _ => ⟨[], rfl, fun c hc => by cases hc⟩
    | cons y ys ih =>
      intro all
      obtain ⟨c, rfl, hc⟩ := all y List.mem_cons_self
      obtain ⟨cs, rfl, ho⟩ := ih fun v hv => all v (List.mem_cons_of_mem _ hv)
      refine ⟨c :: cs, rfl, fun d hd => ?_⟩
      rcases List.mem_cons.mp hd with z | z
      · rw [z]
        exact hc
      · exact ho d z
  obtain ⟨cs, e, ho⟩ := go ys all
  refine ⟨cs, e, ho, ?_⟩
  rw [e, List.length_map] at len
  exact len
theorem cut_some (cs : List Nat) (n : Nat) (h : n ≤ cs.length) : cutV (cs.map sg) none (some (n : Int)) = (cs.take n).map sg := by
  rw [cut_take _ _ (by rw [List.length_map]; exact h), List.map_take]
theorem alpha3 : (repS (Str.ofString "abcdefghijklmnopqrstuvwxyz") 3).cps.toList.length = 78 ∧ ∀ c ∈ (repS (Str.ofString "abcdefghijklmnopqrstuvwxyz") 3).cps.toList, 97 ≤ c ∧ c ≤ 122 := by decide +kernel
def sp__law_colors (K : PySem.W.Frag) : Sp := fun vs H Q _ => ∃ (p : Addr) (n b : Nat), vs = [.ref p, vN n] ∧ SrcN H p b ∧ 1 ≤ n ∧ n ≤ 60 ∧ b ≤ 2 ^ 90 ∧
  ∀ L H' (cs : List Nat), H L = none → Same' p H H' → SrcN H' p (b + 200) → H' L = some (.lst (cs.map sg)) → cs.length = n → okc cs → Q (.ref L) H'
theorem ok__law_colors (T : Txt K mg a) : FnOk P w K mg base CX0 3 a.f__law_colors a.d__law_colors ["source", "size"] (sp__law_colors K) := by
  refine T.F__law_colors.ok sc__law_colors (fun vs H Q E h => ?_) (fun cdv A outer s H vs Q E hr h => ?_)
  · obtain ⟨p, n, b, rfl, _⟩ := h
    rfl
  · obtain ⟨p, n, b, rfl, S, n1, n2, hb, kq⟩ := h
    have nd := sc__law_colors.nd
    have hu64 := hr.units
    have big : (2 : Nat) ^ 100 = 1024 * 2 ^ 90 := by decide
    have big2 : (1000 : Nat) ≤ 2 ^ 90 := by decide
    refine ⟨_, (pss_cons (ps_set (i := 2) nd rfl (Or.inl rfl) (pe_call (ok__law_draw T) (hr.mono (by decide)) rfl T.g__law_draw T.k__law_draw T.n__law_draw .nil pass0 (pa_cons (pv 0) (pa_cons pe_int pa_nil))))
      (pss_cons (ps_set (i := 3) nd rfl (Or.inl rfl) (pe_ix (kix_list (K := K)) (pe_lst (pa_cons pe_int (pa_cons pe_int (pa_cons pe_int (pa_cons pe_int pa_nil))))) (pe_call (ok__law_draw T) (hr.mono (by decide)) rfl T.g__law_draw T.k__law_draw T.n__law_draw .nil pass0 (pa_cons (pv 0) (pa_cons pe_int pa_nil))) (fun _ _ => rfl)))
      (pss_cons (ps_set (i := 4) nd rfl (Or.inl rfl) (pe_slice (ksl_list (K := K)) (pe_call (ok__law_shuffled T) (hr.mono (by decide)) rfl T.g__law_shuffled T.k__law_shuffled T.n__law_shuffled .nil pass0 (pa_cons (pv 0) (pa_cons pe_str pa_nil))) po_none (po_some (pv 3))))
      (pss_cons (ps_set (i := 5) nd rfl (Or.inl rfl) (pe_lst pa_nil))
      (pss_cons (ps_for PassesOwn.never rfl (pi_range1 rfl T.b_range (pa_cons (pv 1) pa_nil)) (pg_name (i := 6) nd rfl (Or.inl rfl)) (pss_cons (ps_set (i := 7) nd rfl (Or.inl rfl) (pe_ix (kix_list (K := K)) (pv 4) (pe_call (ok__law_draw T) (hr.mono (by decide)) rfl T.g__law_draw T.k__law_draw T.n__law_draw .nil pass0 (pa_cons (pv 0) (pa_cons (pe_callB (klen (K := K)) (by rfl) T.b_len (by decide +kernel) (pa_cons (pv 4) pa_nil)) pa_nil))) (fun _ _ => rfl)))
      (Evl.pss_cut (ps_if (PW.pt (pw_and (pt_cmpR op_eq (pv 2) pe_int (nomark _)) (pw_and (pt_cmpR (kneD (K := K) hu64) (pv 5) (pe_lst pa_nil) (nomark _)) (pw_and1 (pt_cmpR op_gt (pe_call (ok__law_draw T) (hr.mono (by decide)) rfl T.g__law_draw T.k__law_draw T.n__law_draw .nil pass0 (pa_cons (pv 0) (pa_cons pe_int pa_nil))) pe_int (nomark _)))))) (pss_one (ps_set (i := 7) nd rfl (Or.inl rfl) (pe_ix (kix_list (K := K)) (pv 5) (pe_un un_neg pe_int) (fun _ _ => rfl)))) pss_nil)
      (pss_one (ps_expr (kbm (K := K) PySem.F.plainAttrs_list PySem.F.slot_list_append PySem.F.type_list_append mt_append (pv 5) (pa_cons (pv 7) pa_nil)))))))
      (pss_cons (ps_set (i := 8) nd rfl (Or.inl rfl) (pe_slice (ksl_list (K := K)) (pe_callTy (klistS rfl) (by rfl) T.b_list (by decide +kernel) (pa_cons (pe_op op_repS pe_str pe_int) pa_nil)) po_none (po_some (pv 1))))
      (pss_one (ps_ret (pe_ix (kix_list (K := K)) (pe_lst (pa_cons (pv 5) (pa_cons (pv 5) (pa_cons (pe_op op_rep (pe_slice (ksl_list (K := K)) (pv 5) po_none (po_some pe_int)) (pv 1)) (pa_cons (pv 8) pa_nil))))) (pv 2) (fun _ _ => rfl)))))))))), ?_⟩
    walk_at "rd"
    refine ⟨p, 4, b, rfl, S, by omega, by decide, by decide, fun kd H1 k0 k1 S1 f1 => ?_⟩
    walk_at "rd"
    refine ⟨by show 4 ≤ sizeLine; decide, fun q1 hq1 => ?_⟩
    have t1 := sNew (o := .lst [.int 1, .int 2, .int 3, .int 26]) hq1
    have g1 := upd_same (H := H1) (a := q1) (o := .lst [.int 1, .int 2, .int 3, .int 26])
    have S1' := S1.same t1
    have nq1 := S1.not_none hq1
    have k1' := (Same'.of f1).trans (sTo p t1)
    generalize upd H1 q1 (.lst [.int 1, .int 2, .int 3, .int 26]) = H2 at g1 S1' k1'
    walk_at "rd"
    refine ⟨p, 4, b + 1, rfl, S1', by omega, by decide, by decide, fun r2 H3 r20 r21 S3 f3 => ?_⟩
    obtain ⟨lim, hlim, lim2⟩ := pick4 1 2 3 26 r20 r21
    have k3 := k1'.trans (Same'.of f3)
    refine rd_ixL (by rw [f3 q1 nq1]; exact g1) hlim ?_
    walk_at "rd"
    refine ⟨p, .str (Str.ofString "abcdefghijklmnopqrstuvwxyz"), _, b + 1 + 1, rfl, S3, Or.inr ⟨_, rfl, rfl⟩, ?_, ?_, fun L4 H4 ys hL4 k4 S4 g4 py => ?_⟩
    · rw [List.length_map]
      decide +kernel
    · rw [List.length_map]
      have : (Str.ofString "abcdefghijklmnopqrstuvwxyz").cps.toList.length = 26 := by decide +kernel
      omega
    have S4 : SrcN H4 p (b + 28) := by
      rw [List.length_map] at S4
      have e : (Str.ofString "abcdefghijklmnopqrstuvwxyz").cps.toList.length = 26 := by decide +kernel
      rw [e] at S4
      exact S4
    obtain ⟨ls, rfl, hls, lsl⟩ := perm_letters py
    have k04 := k3.trans k4
    obtain ⟨lm, rfl⟩ : ∃ lm : Nat, lim = (lm : Int) := ⟨lim.toNat, by omega⟩
    walk_at "rd"
    refine rd_slL g4 fun q5 hq5 => ?_
    rw [cut_some _ _ (by omega)]
    have ll : (ls.take lm).length = lm := by rw [List.length_take]; omega
    have hl1 : okc (ls.take lm) := fun c hc => hls c (List.mem_of_mem_take hc)
    have t5 := sNew (o := .lst ((ls.take lm).map sg)) hq5
    have g5 := upd_same (H := H4) (a := q5) (o := .lst ((ls.take lm).map sg))
    have S5 := S4.same t5
    have nq5 := S4.not_none hq5
    have k05 := k04.trans (sTo p t5)
    generalize upd H4 q5 (.lst ((ls.take lm).map sg)) = H5 at g5 S5 k05
    generalize ls.take lm = l1 at *
    walk_at "rd"
    refine ⟨Nat.zero_le _, fun O hO => ?_⟩
    have t6 := sNew (o := .lst []) hO
    have g6 := upd_same (H := H5) (a := O) (o := .lst [])
    have S6 := S5.same t6
    have nO := S5.not_none hO
    have g56 := t6 _ _ g5
    have k06 := k05.trans (sTo p t6)
    have hOH : H O = none := k05.free hO nO
    have q5O : q5 ≠ O := fun z => by rw [← z, g5] at hO; cases hO
    generalize upd H5 O (.lst []) = H6 at g6 S6 k06 g56
    walk_at "rd"
    refine ⟨_, rfl, ((n : Nat) : Int), rfl, by omega, by omega, for_range (lo := 0) (n := ((n : Nat) : Int).toNat) (fun i σ H' => ∃ x6 x7, ∃ cs : List Nat, σ = [some (.ref p), some (vN n), some (.int kd), some (.int (lm : Int)), some (.ref q5), some (.ref O), x6, x7, none] ∧ Same' p H H' ∧ SrcN H' p (b + 28 + 2 * i) ∧ H' q5 = some (.lst (l1.map sg)) ∧ H' O = some (.lst (cs.map sg)) ∧ cs.length = i ∧ okc cs)
      ⟨none, none, [], rfl, k06, S6, g56, g6, rfl, fun c hc => by cases hc⟩ ?_ ?_⟩
    · rintro i σ H' hi ⟨x6, x7, cs, rfl, k7, S7, g57, g67, cl, hcs⟩
      rw [Int.toNat_natCast] at hi
      have e0 : (0 : Int) + (i : Int) = (i : Int) := Int.zero_add _
      rw [e0]
      walk_at "rd"
      rw [List.length_map]
      refine ⟨p, _, _, rfl, S7, by omega, by omega, by omega, fun j H8 j0 j1 S8 f8 => ?_⟩
      obtain ⟨j, rfl⟩ : ∃ j' : Nat, j = (j' : Int) := ⟨j.toNat, by omega⟩
      have g58 : H8 q5 = some (.lst (l1.map sg)) := by rw [f8 q5 nq5]; exact g57
      have g68 : H8 O = some (.lst (cs.map sg)) := by rw [f8 O nO]; exact g67
      have k8 := k7.trans (Same'.of f8)
      obtain ⟨c, hc⟩ : ∃ c, l1[j]? = some c := ⟨l1[j]'(by omega), List.getElem?_eq_getElem (by omega)⟩
      have cok := hl1 c (List.mem_of_getElem? hc)
      refine rd_ixL g58 (atI_nat (by rw [List.getElem?_map, hc]; rfl)) ?_
      walk_at "rd"
      refine rd_cut (fun σ' H' => ∃ d : Nat, σ' = [some (.ref p), some (vN n), some (.int kd), some (.int (lm : Int)), some (.ref q5), some (.ref O), some (.int (i : Int)), some (sg d), none] ∧ (97 ≤ d ∧ d ≤ 122) ∧ Same' p H H' ∧ SrcN H' p (b + 28 + 2 * (i + 1)) ∧ H' q5 = some (.lst (l1.map sg)) ∧ H' O = some (.lst (cs.map sg))) ?_ ?_
      · have stay : ∀ H9, Same' p H H9 → SrcN H9 p (b + 28 + 2 * (i + 1)) → H9 q5 = some (.lst (l1.map sg)) → H9 O = some (.lst (cs.map sg)) → ∃ d : Nat, [some (V.ref p), some (vN n), some (.int kd), some (.int (lm : Int)), some (.ref q5), some (.ref O), some (.int (i : Int)), some (sg c), none] = [some (V.ref p), some (vN n), some (.int kd), some (.int (lm : Int)), some (.ref q5), some (.ref O), some (.int (i : Int)), some (sg d), none] ∧ (97 ≤ d ∧ d ≤ 122) ∧ Same' p H H9 ∧ SrcN H9 p (b + 28 + 2 * (i + 1)) ∧ H9 q5 = some (.lst (l1.map sg)) ∧ H9 O = some (.lst (cs.map sg)) := fun H9 a1 a2 a3 a4 => ⟨c, rfl, cok, a1, a2, a3, a4⟩
        walk_at "rd"
        refine rd_dec (fun _ => ?_) fun _ => ?_
        · walk_at "rd"
          refine ⟨Nat.zero_le _, fun q9 hq9 => ?_⟩
          have t9 := sNew (o := .lst []) hq9
          have ocs : ∀ c ∈ cs, c ≤ 122 := fun c hc => (hcs c hc).2
          refine rd_neD2 (d := dS cs) (e := .list []) (.lst (SqL.of (t9 _ _ g68)) (dp_strs cs)) (.lst (SqL.of upd_same) .nil) (shp_strs cs ocs) (by decide) (eqv_nilS cs) ?_
          have g59 := t9 _ _ g58
          have g69 := t9 _ _ g68
          have S9 := S8.same t9
          have k9 := k8.trans (sTo p t9)
          generalize upd H8 q9 (.lst []) = H9 at g59 g69 S9 k9
          walk_at "rd"
          cases hcs2 : cs with
          | nil =>
            rw [hcs2] at g69
            walk_at "rd"
            rw [hcs2] at stay
            exact stay _ k9 (S9.mono (by omega)) g59 g69
          | cons c0 cs0 =>
            rw [show (!(c0 :: cs0 : List Nat).isEmpty) = true from rfl]
            walk_at "rd"
            refine ⟨p, 3, _, rfl, S9, by omega, by decide, by decide, fun t H10 t0 t1 S10 f10 => ?_⟩
            have g510 : H10 q5 = some (.lst (l1.map sg)) := by rw [f10 q5 nq5]; exact g59
            have g610 : H10 O = some (.lst (cs.map sg)) := by rw [f10 O nO]; exact g69
            have k10 := k9.trans (Same'.of f10)
            walk_at "rd"
            refine rd_dec (fun _ => ?_) fun _ => ?_
            · walk_at "rd"
              obtain ⟨x, hx, hlast⟩ := at_last (l := cs.map sg) (by rw [List.length_map, hcs2]; exact Nat.zero_lt_succ _)
              obtain ⟨d, hd, rfl⟩ := List.mem_map.mp hx
              refine rd_ixL g610 hlast ?_
              walk_at "rd"
              rw [hcs2] at g610
              exact ⟨d, rfl, hcs d hd, k10, S10.mono (by omega), g510, g610⟩
            · walk_at "rd"
              rw [hcs2] at stay g610
              exact stay _ k10 (S10.mono (by omega)) g510 g610
        · walk_at "rd"
          exact stay _ k8 (S8.mono (by omega)) g58 g68
      · rintro σ' H9 ⟨d, rfl, hd, k9, S9, g59, g69⟩
        walk_at "rd"
        refine ⟨Or.inl ⟨rfl, _, SqL.of g69⟩, ?_⟩
        walk_at "rd"
        refine ⟨O, _, _, rfl, rfl, g69, sz1000 (by rw [List.length_map]; omega), ?_⟩
        refine ⟨_, _, cs ++ [d], rfl, fun b o e nb => ?_, S9.off nO, by rw [upd_ne q5O]; exact g59, by rw [upd_same, List.map_append]; rfl, by rw [List.length_append, cl]; rfl, fun x hx => ?_⟩
        · rw [upd_ne fun z => by rw [z, hOH] at e; cases e]
          exact k9 _ _ e nb
        · rcases List.mem_append.mp hx with z | z
          · exact hcs x z
          · rw [List.mem_singleton.mp z]
            exact hd
    · rintro σ H' ⟨x6, x7, cs, rfl, k7, S7, g57, g67, cl, hcs⟩
      rw [Int.toNat_natCast] at S7 cl
      walk_at "rd"
      refine ⟨_, 3, rfl, rfl, by decide, by decide +kernel, ?_⟩
      refine ⟨_, rfl, by rw [← Array.length_toList, alpha3.1]; decide, fun q8 hq8 => ?_⟩
      obtain ⟨al, ao⟩ := alpha3
      generalize (repS (Str.ofString "abcdefghijklmnopqrstuvwxyz") 3).cps.toList = ab at hq8 al ao ⊢
      have t8 := sNew (o := .lst (ab.map sg)) hq8
      have g8 := upd_same (H := H') (a := q8) (o := .lst (ab.map sg))
      have g68 := t8 _ _ g67
      have S8 := S7.same t8
      have k8 := k7.trans (sTo p t8)
      generalize upd H' q8 (.lst (ab.map sg)) = H8 at g8 g68 S8 k8
      walk_at "rd"
      refine rd_slL g8 fun q9 hq9 => ?_
      rw [cut_some _ _ (by omega)]
      have t9 := sNew (o := .lst ((ab.take n).map sg)) hq9
      have g9 := upd_same (H := H8) (a := q9) (o := .lst ((ab.take n).map sg))
      have h9 : H q9 = none := k8.free hq9 (S8.not_none hq9)
      have g69 := t9 _ _ g68
      have S9 := S8.same t9
      have k9 := k8.trans (sTo p t9)
      generalize upd H8 q9 (.lst ((ab.take n).map sg)) = H9 at g9 g69 S9 k9
      walk_at "rd"
      refine rd_slL g69 fun q10 hq10 => ?_
      rw [cut1, ← List.map_take]
      have t10 := sNew (o := .lst ((cs.take 1).map sg)) hq10
      have g10 := upd_same (H := H9) (a := q10) (o := .lst ((cs.take 1).map sg))
      have g910 := t10 _ _ g9
      have g610 := t10 _ _ g69
      have S10 := S9.same t10
      have k10 := k9.trans (sTo p t10)
      generalize upd H9 q10 (.lst ((cs.take 1).map sg)) = H10 at g10 g910 g610 S10 k10
      obtain ⟨c0, hc0⟩ : ∃ c0, cs.take 1 = [c0] := by
        cases cs with
        | nil => rw [← cl] at n1; exact absurd n1 (by decide)
        | cons c cs => exact ⟨c, rfl⟩
      have ok0 : 97 ≤ c0 ∧ c0 ≤ 122 := hcs c0 (List.mem_of_mem_take (by rw [hc0]; exact List.mem_singleton.mpr rfl))
      rw [hc0] at g10
      walk_at "rd"
      refine ⟨q10, _, _, rfl, rfl, g10, by omega, by omega, by show 1 * ((n : Nat) : Int).toNat ≤ sizeLine; rw [Int.toNat_natCast]; exact sz60 (by omega), fun q11 hq11 => ?_⟩
      have e11 : (List.replicate ((n : Nat) : Int).toNat ([c0].map sg)).flatten = (List.replicate n c0).map sg := by
        rw [Int.toNat_natCast]
        show (List.replicate n [sg c0]).flatten = _
        rw [flat_rep, List.map_replicate]
      rw [e11]
      have t11 := sNew (o := .lst ((List.replicate n c0).map sg)) hq11
      have g11 := upd_same (H := H10) (a := q11) (o := .lst ((List.replicate n c0).map sg))
      have h11 : H q11 = none := k10.free hq11 (S10.not_none hq11)
      have g911 := t11 _ _ g910
      have g611 := t11 _ _ g610
      have S11 := S10.same t11
      have k11 := k10.trans (sTo p t11)
      generalize upd H10 q11 (.lst ((List.replicate n c0).map sg)) = H11 at g11 g911 g611 S11 k11
      walk_at "rd"
      refine ⟨by show 4 ≤ sizeLine; decide, fun q12 hq12 => ?_⟩
      have t12 := sNew (o := .lst [.ref O, .ref O, .ref q11, .ref q9]) hq12
      have S12 : SrcN (upd H11 q12 (.lst [.ref O, .ref O, .ref q11, .ref q9])) p (b + 200) := (S11.same t12).mono (by omega)
      have k12 := k11.trans (sTo p t12)
      have d4 : kd = 0 ∨ kd = 1 ∨ kd = 2 ∨ kd = 3 := by omega
      walk_at "rd"
      rcases d4 with rfl | rfl | rfl | rfl
      · refine rd_ixL upd_same (v := .ref O) rfl ?_
        exact kq O _ cs hOH k12 S12 (t12 _ _ g611) cl hcs
      · refine rd_ixL upd_same (v := .ref O) rfl ?_
        exact kq O _ cs hOH k12 S12 (t12 _ _ g611) cl hcs
      · refine rd_ixL upd_same (v := .ref q11) rfl ?_
        refine kq q11 _ (List.replicate n c0) h11 k12 S12 (t12 _ _ g11) List.length_replicate fun c hc => ?_
        rw [(List.mem_replicate.mp hc).2]
        exact ok0
      · refine rd_ixL upd_same (v := .ref q9) rfl ?_
        exact kq q9 _ (ab.take n) h9 k12 S12 (t12 _ _ g911) (by rw [List.length_take]; omega) fun c hc => ao c (List.mem_of_mem_take hc)
end K06

namespace K06
open PySem L2 LX
local macro_rules | `(tactic| walk_at "rd") => `(tactic| repeat (first
  | with_reducible refine rd_var rfl ?_ | with_reducible refine rd_c ?_ | with_reducible refine rd_op ?_ | with_reducible refine rd_un ?_ | with_reducible refine rd_I0 ?_ | with_reducible refine rd_U ?_
  | with_reducible refine rd_test ?_ | with_reducible refine rd_tB ?_ | with_reducible refine rd_bl ?_ | with_reducible refine rd_chain ?_
  | with_reducible refine rd_and ?_ | with_reducible refine rd_or ?_ | with_reducible refine rd_not ?_ | with_reducible refine rd_andV ?_ | with_reducible refine rd_orV ?_ | with_reducible refine rd_notV ?_
  | with_reducible refine rd_next ?_ | with_reducible refine rd_seq ?_ | with_reducible refine rd_drop ?_ | with_reducible refine rd_ret ?_ | with_reducible refine rd_ifS ?_ | with_reducible refine rd_asg ?_ | with_reducible refine rd_name ?_
  | with_reducible refine rd_par ?_ | with_reducible refine rd_two ?_ | with_reducible refine rd_2i ?_ | with_reducible refine rd_nil ?_ | with_reducible refine rd_cons ?_ | with_reducible refine rd_tup ?_ | with_reducible refine rd_lst ?_ | with_reducible refine rd_cb ?_ | with_reducible refine rd_call ?_
  | with_reducible refine rd_ixL (by assumption) rfl ?_ | with_reducible refine rd_ixT (by assumption) rfl ?_ | with_reducible refine rd_ixL upd_same rfl ?_ | with_reducible refine rd_sub ?_ | with_reducible refine rd_sl ?_ | with_reducible refine rd_nopart ?_ | with_reducible refine rd_part ?_ | with_reducible refine rd_int ?_
  | with_reducible refine rd_len (by assumption) ?_ | with_reducible refine rd_bm ?_ | with_reducible refine rd_bm0 ?_ | with_reducible refine rd_gcons ?_ | with_reducible refine rd_gnil ?_
  | ((with_reducible refine rd_I ?ci ?_); (case ci => first | assumption | (show (0 : Int) < _; decide) | exact Or.inl ⟨by decide, by decide⟩ | exact Or.inr ⟨by decide, by decide⟩ | exact ⟨by decide, by decide, (by decide : Int.natAbs 10 < 2 ^ 1000)⟩))
  | with_reducible refine rd_setL (by assumption) rfl ?_ | with_reducible refine rd_setL upd_same rfl ?_ | with_reducible refine rd_len upd_same ?_
  | with_reducible refine rd_2ty ?_ | with_reducible refine rd_NT ?_ | with_reducible refine rd_2s ?_ | with_reducible refine rd_lenS ?_ | with_reducible refine rd_lenT (by assumption) ?_ | ((with_reducible refine rd_typ ?ct ?_); (case ct => rfl))
  | ((with_reducible refine rd_eq ?cs ?_); (case cs => rfl)) | ((with_reducible refine rd_ne ?cs ?_); (case cs => rfl))
  | with_reducible refine rd_qtru ?_ | with_reducible refine rd_lstRg ?_ | with_reducible refine rd_rg1 ?_ | with_reducible refine rd_tyes ?_ | with_reducible refine rd_tyL (by assumption) ?_ | with_reducible refine rd_tyT (by assumption) ?_
  | with_reducible refine iteT ?_ | with_reducible refine iteF ?_ | with_reducible refine rd_nt ?_ | with_reducible refine rd_nf ?_
  | (dsimp only)))

variable {P : Program} {w : World} {K : PySem.W.Frag} {mg : Str → Option Value} {base : Heap} {a : Ad}
theorem perm_vN {ys : List V} {ns : List Nat} (h : ys.Perm (ns.map vN)) : ∃ ps : List Nat, ys = ps.map vN ∧ ps.Perm ns := by
  have all : ∀ v ∈ ys, ∃ c, v = vN c := fun v hv => by
    obtain ⟨c, _, rfl⟩ := List.mem_map.mp (h.mem_iff.mp hv)
    exact ⟨c, rfl⟩
  obtain ⟨ps, rfl⟩ : ∃ ps : List Nat, ys = ps.map vN := by
    clear h
    induction ys with
    | nil => exact ⟨[], rfl⟩
    | cons y ys ih =>
      obtain ⟨c, rfl⟩ := all y List.mem_cons_self
      obtain ⟨ps, rfl⟩ := ih fun v hv => all v (List.mem_cons_of_mem _ hv)
      exact ⟨c :: ps, rfl⟩
  refine ⟨ps, rfl, ?_⟩
  have q := h.map fun v : V => match v with | .int i => i.toNat | _ => 0
  rw [List.map_map, List.map_map] at q
  have e : ∀ l : List Nat, l.map ((fun v : V => match v with | .int i => i.toNat | _ => 0) ∘ vN) = l := fun l => by
    conv => rhs; rw [← List.map_id l]
    apply List.map_congr_left
    intro c _
    exact Int.toNat_natCast c
  rw [e, e] at q
  exact q
theorem vr_zip {ps cs : List Nat} {n : Nat} (h : ps.Perm (List.range n)) (hc : cs.length = n) (n1 : 1 ≤ n) (n2 : n ≤ 60) (ok : okc cs) : Vr (ps.zip cs) ∧ (ps.zip cs).length = n := by
  have pl : ps.length = n := by rw [h.length_eq, List.length_range]
  have zl : (ps.zip cs).length = n := by rw [List.length_zip]; omega
  refine ⟨⟨by omega, by omega, fun e he => ok e.2 (List.of_mem_zip (show (e.1, e.2) ∈ ps.zip cs from he)).2, ?_⟩, zl⟩
  rw [zl, List.map_fst_zip (by omega)]
  exact h
theorem tups_zip {H : Hp} : ∀ {Ts : List Addr} {ps cs : List Nat}, Ts.length = ps.length → cs.length = ps.length → (∀ (j : Nat) (x y : V), (ps.map vN)[j]? = some x → (cs.map sg)[j]? = some y → ∃ T, Ts[j]? = some T ∧ H T = some (.tup [x, y])) → TupsAt H Ts (ps.zip cs)
  | [], [], [], _, _, _ => True.intro
  | [], _ :: _, _, h, _, _ => by simp at h
  | _ :: _, [], _, h, _, _ => by simp at h
  | _, [], _ :: _, _, h, _ => by simp at h
  | _, _ :: _, [], _, h, _ => by simp at h
  | T :: Ts, p :: ps, c :: cs, h1, h2, k => by
    obtain ⟨U, e, q⟩ := k 0 (vN p) (sg c) rfl rfl
    simp at e
    subst e
    exact ⟨q, tups_zip (by simpa using h1) (by simpa using h2) fun j x y hx hy => by
      obtain ⟨U, e, q⟩ := k (j + 1) x y (by simpa using hx) (by simpa using hy)
      exact ⟨U, by simpa using e, q⟩⟩
def sp__law_people (K : PySem.W.Frag) : Sp := fun vs H Q _ => ∃ (p : Addr) (mo : Int) (b : Nat), vs = [.ref p, .int mo] ∧ (mo = 3 ∨ mo = 60) ∧ SrcN H p b ∧ b ≤ 2 ^ 80 ∧
  ∀ L H' (r : Row), H L = none → Same' p H H' → SrcN H' p (b + 300) → RowAt H' L r → Vr r → Q (.ref L) H'
theorem ok__law_people (T : Txt K mg a) : FnOk P w K mg base CX0 4 a.f__law_people a.d__law_people ["source", "most"] (sp__law_people K) := by
  refine T.F__law_people.ok sc__law_people (fun vs H Q E h => ?_) (fun cdv A outer s H vs Q E hr h => ?_)
  · obtain ⟨p, mo, b, rfl, _⟩ := h
    rfl
  · obtain ⟨p, mo, b, rfl, hmo, S, hb, kq⟩ := h
    have nd := sc__law_people.nd
    have big : (2 : Nat) ^ 100 = 1024 * 2 ^ 90 := by decide
    have big3 : (2 : Nat) ^ 90 = 1024 * 2 ^ 80 := by decide
    have big2 : (1000 : Nat) ≤ 2 ^ 80 := by decide
    refine ⟨_, (Evl.pss_cut (ps_if (pt_cmpR op_eq (pv 1) pe_int (nomark _)) (pss_one (ps_set (i := 2) nd rfl (Or.inl rfl) (pe_op op_add pe_int (pe_call (ok__law_draw T) (hr.mono (by decide)) rfl T.g__law_draw T.k__law_draw T.n__law_draw .nil pass0 (pa_cons (pv 0) (pa_cons pe_int pa_nil)))))) (pss_one (ps_set (i := 2) nd rfl (Or.inl rfl) (pe_ix (kix_list (K := K)) (pe_lst (pa_cons (pe_op op_add pe_int (pe_call (ok__law_draw T) (hr.mono (by decide)) rfl T.g__law_draw T.k__law_draw T.n__law_draw .nil pass0 (pa_cons (pv 0) (pa_cons pe_int pa_nil)))) (pa_cons (pe_op op_add pe_int (pe_call (ok__law_draw T) (hr.mono (by decide)) rfl T.g__law_draw T.k__law_draw T.n__law_draw .nil pass0 (pa_cons (pv 0) (pa_cons (pv 1) pa_nil)))) (pa_cons (pv 1) pa_nil)))) (pe_call (ok__law_draw T) (hr.mono (by decide)) rfl T.g__law_draw T.k__law_draw T.n__law_draw .nil pass0 (pa_cons (pv 0) (pa_cons pe_int pa_nil))) (fun _ _ => rfl)))))
      (pss_one (ps_ret (pe_listZip (K := K) rfl (by rfl) T.b_list (by rfl) T.b_zip (pa_cons (pe_call (ok__law_shuffled T) (hr.mono (by decide)) rfl T.g__law_shuffled T.k__law_shuffled T.n__law_shuffled .nil pass0 (pa_cons (pv 0) (pa_cons (pe_listRg rfl rfl T.b_list (prg_1 rfl T.b_range (pv 2))) pa_nil))) (pa_cons (pe_call (ok__law_colors T) (hr.mono (by decide)) rfl T.g__law_colors T.k__law_colors T.n__law_colors .nil pass0 (pa_cons (pv 0) (pa_cons (pv 2) pa_nil))) pa_nil)))))), ?_⟩
    refine rd_cut (fun σ' H' => ∃ (z : Int) (n : Nat), σ' = [some (.ref p), some (.int mo), some (.int z)] ∧ z = (n : Int) ∧ 1 ≤ n ∧ n ≤ 60 ∧ Same' p H H' ∧ SrcN H' p (b + 3)) ?_ ?_
    · walk_at "rd"
      refine rd_dec (fun _ => ?_) fun c => ?_
      · walk_at "rd"
        refine ⟨p, 2, b, rfl, S, by omega, by decide, by decide, fun z H1 z0 z1 S1 f1 => ?_⟩
        walk_at "rd"
        exact ⟨_, (2 + z).toNat, rfl, by omega, by omega, by omega, Same'.of f1, S1.mono (by omega)⟩
      · have h60 : mo = 60 := by
          rcases hmo with z | z
          · exact absurd (by rw [z]) c
          · exact z
        walk_at "rd"
        refine ⟨p, 8, b, rfl, S, by omega, by decide, by decide, fun z1 H1 z10 z11 S1 f1 => ?_⟩
        walk_at "rd"
        refine ⟨p, mo, _, rfl, S1, by omega, by omega, by omega, fun z2 H2 z20 z21 S2 f2 => ?_⟩
        walk_at "rd"
        refine ⟨by show 3 ≤ sizeLine; decide, fun q hq => ?_⟩
        have nq := S2.not_none hq
        walk_at "rd"
        refine ⟨p, 3, _, rfl, S2.same (sNew hq), by omega, by decide, by decide, fun z3 H3 z30 z31 S3 f3 => ?_⟩
        have g3 : H3 q = some (.lst [.int (1 + z1), .int (1 + z2), .int mo]) := by rw [f3 q nq]; exact upd_same
        have k3 : Same' p H H3 := (((Same'.of f1).trans (Same'.of f2)).trans (sTo p (sNew (o := .lst [.int (1 + z1), .int (1 + z2), .int mo]) hq))).trans (Same'.of f3)
        have d3 : z3 = 0 ∨ z3 = 1 ∨ z3 = 2 := by omega
        rcases d3 with rfl | rfl | rfl
        · refine rd_ixL g3 (v := .int (1 + z1)) rfl ?_
          walk_at "rd"
          exact ⟨_, (1 + z1).toNat, rfl, by omega, by omega, by omega, k3, S3⟩
        · refine rd_ixL g3 (v := .int (1 + z2)) rfl ?_
          walk_at "rd"
          exact ⟨_, (1 + z2).toNat, rfl, by omega, by omega, by omega, k3, S3⟩
        · refine rd_ixL g3 (v := .int mo) rfl ?_
          walk_at "rd"
          exact ⟨_, mo.toNat, rfl, by omega, by omega, by omega, k3, S3⟩
    · rintro σ' H1 ⟨z, n, rfl, rfl, n1, n2, k1, S1⟩
      walk_at "rd"
      refine rd_lz ?_
      walk_at "rd"
      refine ⟨RgOk.of_le (by omega) (by omega) (by omega) (by omega), fun q hq => ?_⟩
      rw [rgV_nat (by omega), Int.toNat_natCast]
      have t1 := sNew (o := .lst ((List.range n).map vN)) hq
      have g1 := upd_same (H := H1) (a := q) (o := .lst ((List.range n).map vN))
      have S2 := S1.same t1
      have k2 := k1.trans (sTo p t1)
      generalize upd H1 q (.lst ((List.range n).map vN)) = H2 at g1 S2 k2
      walk_at "rd"
      refine ⟨p, .ref q, _, _, rfl, S2, Or.inl ⟨q, rfl, g1⟩, by rw [List.length_map, List.length_range]; omega, by rw [List.length_map, List.length_range]; omega, fun A H3 ys hA k3 S3 gA py => ?_⟩
      rw [List.length_map, List.length_range] at S3
      obtain ⟨ps, rfl, hps⟩ := perm_vN py
      have nA := S2.not_none hA
      walk_at "rd"
      refine ⟨p, n, _, rfl, S3, n1, n2, by omega, fun B H4 cs hB k4 S4 gB cl ok => ?_⟩
      have pl : ps.length = n := by rw [hps.length_eq, List.length_range]
      have gA4 := k4 _ _ gA nA
      have k04 := (k2.trans k3).trans k4
      walk_at "rd"
      refine ⟨A, B, _, _, rfl, SqL.of gA4, SqL.of gB, by rw [List.length_map, List.length_map]; omega, fun L H5 Ts hL s5 gL lT hT => ?_⟩
      obtain ⟨V1, vl⟩ := vr_zip hps cl n1 n2 ok
      rw [List.length_map] at lT
      exact kq L H5 _ (k04.free hL (S4.not_none hL)) (k04.trans (sTo p s5)) ((S4.same s5).mono (by omega)) ⟨Ts, gL, tups_zip lT (by omega) hT⟩ V1
end K06

namespace LX
open PySem L2
/-- all but two objects kept -/
def Same2 (p l : Addr) (H H' : Hp) : Prop := ∀ c o, H c = some o → c ≠ p → c ≠ l → H' c = some o
theorem Same2.trans {p l : Addr} {H H1 H2 : Hp} (a : Same2 p l H H1) (b : Same2 p l H1 H2) : Same2 p l H H2 := fun c o e n1 n2 => b c o (a c o e n1 n2) n1 n2
theorem Same2.of1 {p l : Addr} {H H' : Hp} (s : Same' p H H') : Same2 p l H H' := fun c o e n1 _ => s c o e n1
theorem Same2.of {p l : Addr} {H H' : Hp} (s : Same H H') : Same2 p l H H' := fun c o e _ _ => s c o e
theorem Same2.upd {p l : Addr} {H : Hp} {o : HO} : Same2 p l H (upd H l o) := fun c u e _ n => by
  rw [upd_ne n]
  exact e
theorem swap_map {α β : Type} (f : α → β) (r : List α) (i j : Nat) (x y : α) : ((r.set i y).set j x).map f = ((r.map f).set i (f y)).set j (f x) := by
  rw [List.map_set, List.map_set]
theorem swap_perm {α : Type} {r : List α} {i j : Nat} {x y : α} (hi : r[i]? = some x) (hj : r[j]? = some y) : ((r.set i y).set j x).Perm r := by
  obtain ⟨li, ei⟩ := List.getElem?_eq_some_iff.mp hi
  obtain ⟨lj, ej⟩ := List.getElem?_eq_some_iff.mp hj
  have q := Array.swap_perm (xs := r.toArray) (i := i) (j := j) (by simpa using li) (by simpa using lj)
  have q2 := Array.perm_iff_toList_perm.mp q
  have e : (r.toArray.swap i j (by simpa using li) (by simpa using lj)).toList = (r.set i y).set j x := by
    rw [Array.toList_swap]
    simp [ei, ej]
  rw [e] at q2
  exact q2
theorem Vr.swap {r : Row} (V0 : Vr r) {i j : Nat} {x y : Nat × Nat} (hi : r[i]? = some x) (hj : r[j]? = some y) : Vr ((r.set i y).set j x) := by
  have p := swap_perm hi hj
  have l := p.length_eq
  exact ⟨by rw [l]; exact V0.n1, by rw [l]; exact V0.n2, fun e he => V0.col e (p.mem_iff.mp he), by rw [l]; exact (p.map _).trans V0.perm⟩
theorem Vr.recolor {r : Row} (V0 : Vr r) {i : Nat} {x : Nat × Nat} (hi : r[i]? = some x) {c : Nat} (hc : 97 ≤ c ∧ c ≤ 122) : Vr (r.set i (x.1, c)) := by
  have l : (r.set i (x.1, c)).length = r.length := List.length_set
  have e : (r.set i (x.1, c)).map (·.1) = r.map (·.1) := by
    rw [List.map_set]
    apply List.ext_getElem?
    intro k
    rw [List.getElem?_set]
    by_cases h : i = k
    · subst h
      have lt := (List.getElem?_eq_some_iff.mp hi).1
      rw [if_pos rfl, if_pos (by rw [List.length_map]; exact lt), List.getElem?_map, hi]
      rfl
    · rw [if_neg h]
  refine ⟨by rw [l]; exact V0.n1, by rw [l]; exact V0.n2, fun y hy => ?_, by rw [l, e]; exact V0.perm⟩
  rcases List.mem_or_eq_of_mem_set hy with z | z
  · exact V0.col y z
  · rw [z]
    exact hc
theorem Vr.rev {r : Row} (V0 : Vr r) : Vr r.reverse := by
  have p := List.reverse_perm r
  have l := p.length_eq
  exact ⟨by rw [l]; exact V0.n1, by rw [l]; exact V0.n2, fun e he => V0.col e (p.mem_iff.mp he), by rw [l]; exact (p.map _).trans V0.perm⟩
theorem ins_perm {α : Type} (r : List α) (i : Nat) (x : α) : (r.take i ++ [x] ++ r.drop i).Perm (r ++ [x]) := by
  have e := List.take_append_drop i r
  have q : (r.take i ++ [x] ++ r.drop i).Perm (r.take i ++ r.drop i ++ [x]) := by
    rw [List.append_assoc, List.append_assoc]
    exact (List.Perm.refl _).append List.perm_append_comm
  rw [e] at q
  exact q
theorem Vr.insert {r : Row} (V0 : Vr r) {i c : Nat} (h : r.length < 60) (hc : 97 ≤ c ∧ c ≤ 122) : Vr (r.take i ++ [(r.length, c)] ++ r.drop i) := by
  have p := ins_perm r i (r.length, c)
  have l : (r.take i ++ [(r.length, c)] ++ r.drop i).length = r.length + 1 := by rw [p.length_eq, List.length_append]; rfl
  refine ⟨by omega, by omega, fun e he => ?_, ?_⟩
  · rcases List.mem_append.mp (p.mem_iff.mp he) with z | z
    · exact V0.col e z
    · rw [List.mem_singleton.mp z]
      exact hc
  · rw [l, List.range_succ]
    have q := p.map (fun e : Nat × Nat => e.1)
    have q2 : (r ++ [(r.length, c)]).map (fun e : Nat × Nat => e.1) = r.map (·.1) ++ [r.length] := by
      rw [List.map_append]
      rfl
    rw [q2] at q
    exact q.trans (V0.perm.append (List.Perm.refl _))
theorem Vr.remove {r : Row} (V0 : Vr r) {i : Nat} {x : Nat × Nat} (hi : r[i]? = some x) (hx : x.1 = r.length - 1) (h : 2 ≤ r.length) : Vr (r.eraseIdx i) := by
  have p := LX.erase_perm hi
  have l := p.length_eq
  rw [List.length_cons] at l
  refine ⟨by omega, by have := V0.n2; omega, fun e he => V0.col e (p.mem_iff.mp (List.mem_cons_of_mem _ he)), ?_⟩
  have q := (p.map (fun e : Nat × Nat => e.1)).trans V0.perm
  have e2 : (r.eraseIdx i).length = r.length - 1 := by omega
  have e : r.length = (r.length - 1) + 1 := by omega
  rw [e2]
  rw [List.map_cons, hx] at q
  generalize r.length - 1 = m at e q
  rw [e, List.range_succ] at q
  exact List.Perm.cons_inv (q.trans List.perm_append_comm)
theorem TupsAt.set {H : Hp} {t : Addr} {e : Nat × Nat} (ht : H t = some (.tup (pr e))) : ∀ {ts : List Addr} {r : Row} (j : Nat), TupsAt H ts r → TupsAt H (ts.set j t) (r.set j e)
  | [], [], _, h => h
  | _ :: _, _ :: _, 0, h => ⟨ht, h.2⟩
  | _ :: ts, _ :: r, j + 1, h => ⟨h.1, TupsAt.set ht (ts := ts) (r := r) j h.2⟩
  | [], _ :: _, _, h => h.elim
  | _ :: _, [], _, h => h.elim
theorem TupsAt.rev {H : Hp} : ∀ {ts : List Addr} {r : Row}, TupsAt H ts r → TupsAt H ts.reverse r.reverse
  | [], [], h => h
  | t :: ts, e :: r, h => by
    rw [List.reverse_cons, List.reverse_cons]
    exact (TupsAt.rev (ts := ts) (r := r) h.2).app (TupsAt.one h.1)
  | [], _ :: _, h => h.elim
  | _ :: _, [], h => h.elim
theorem TupsAt.erase {H : Hp} : ∀ {ts : List Addr} {r : Row} (j : Nat), TupsAt H ts r → TupsAt H (ts.eraseIdx j) (r.eraseIdx j)
  | [], [], _, h => h
  | _ :: _, _ :: _, 0, h => h.2
  | _ :: ts, _ :: r, j + 1, h => ⟨h.1, TupsAt.erase (ts := ts) (r := r) j h.2⟩
  | [], _ :: _, _, h => h.elim
  | _ :: _, [], _, h => h.elim
/-- the tuples stay where a list changes -/
theorem TupsAt.off {H : Hp} {l : Addr} {xs : List V} {o : HO} {ts : List Addr} {r : Row} (h : TupsAt H ts r) (hl : H l = some (.lst xs)) : TupsAt (upd H l o) ts r := h.mono fun b ys e => by
  rw [upd_ne fun z => by rw [z, hl] at e; cases e]
  exact e
/-- the same with the source and the list itself changed -/
theorem TupsAt.same2 {H H' : Hp} {p l : Addr} {xs ys : List V} {ts : List Addr} {r : Row} (h : TupsAt H ts r) (s : Same2 p l H H') (hp : H p = some (.lst xs)) (hl : H l = some (.lst ys)) : TupsAt H' ts r := h.mono fun b zs e => s b _ e (fun z => by rw [z, hp] at e; cases e) fun z => by rw [z, hl] at e; cases e
end LX
namespace K06
open PySem L2 LX
local macro_rules | `(tactic| walk_at "rd") => `(tactic| repeat (first
  | with_reducible refine rd_var rfl ?_ | with_reducible refine rd_c ?_ | with_reducible refine rd_op ?_ | with_reducible refine rd_un ?_ | with_reducible refine rd_I0 ?_ | with_reducible refine rd_U ?_
  | with_reducible refine rd_test ?_ | with_reducible refine rd_tB ?_ | with_reducible refine rd_bl ?_ | with_reducible refine rd_chain ?_
  | with_reducible refine rd_and ?_ | with_reducible refine rd_or ?_ | with_reducible refine rd_not ?_ | with_reducible refine rd_andV ?_ | with_reducible refine rd_orV ?_ | with_reducible refine rd_notV ?_
  | with_reducible refine rd_next ?_ | with_reducible refine rd_seq ?_ | with_reducible refine rd_drop ?_ | with_reducible refine rd_ret ?_ | with_reducible refine rd_ifS ?_ | with_reducible refine rd_asg ?_ | with_reducible refine rd_name ?_
  | with_reducible refine rd_par ?_ | with_reducible refine rd_two ?_ | with_reducible refine rd_2i ?_ | with_reducible refine rd_nil ?_ | with_reducible refine rd_cons ?_ | with_reducible refine rd_tup ?_ | with_reducible refine rd_lst ?_ | with_reducible refine rd_cb ?_ | with_reducible refine rd_call ?_
  | with_reducible refine rd_ixL (by assumption) rfl ?_ | with_reducible refine rd_ixT (by assumption) rfl ?_ | with_reducible refine rd_ixL upd_same rfl ?_ | with_reducible refine rd_sub ?_ | with_reducible refine rd_sl ?_ | with_reducible refine rd_nopart ?_ | with_reducible refine rd_part ?_ | with_reducible refine rd_int ?_
  | with_reducible refine rd_len (by assumption) ?_ | with_reducible refine rd_bm ?_ | with_reducible refine rd_bm0 ?_ | with_reducible refine rd_gcons ?_ | with_reducible refine rd_gnil ?_
  | ((with_reducible refine rd_I ?ci ?_); (case ci => first | assumption | (show (0 : Int) < _; decide) | exact Or.inl ⟨by decide, by decide⟩ | exact Or.inr ⟨by decide, by decide⟩ | exact ⟨by decide, by decide, (by decide : Int.natAbs 10 < 2 ^ 1000)⟩))
  | with_reducible refine rd_setL (by assumption) rfl ?_ | with_reducible refine rd_setL upd_same rfl ?_ | with_reducible refine rd_len upd_same ?_
  | with_reducible refine rd_2ty ?_ | with_reducible refine rd_NT ?_ | with_reducible refine rd_2s ?_ | with_reducible refine rd_lenS ?_ | with_reducible refine rd_lenT (by assumption) ?_ | ((with_reducible refine rd_typ ?ct ?_); (case ct => rfl))
  | ((with_reducible refine rd_eq ?cs ?_); (case cs => rfl)) | ((with_reducible refine rd_ne ?cs ?_); (case cs => rfl))
  | with_reducible refine rd_qtru ?_ | with_reducible refine rd_lstRg ?_ | with_reducible refine rd_rg1 ?_ | with_reducible refine rd_tyes ?_ | with_reducible refine rd_tyL (by assumption) ?_ | with_reducible refine rd_tyT (by assumption) ?_
  | with_reducible refine iteT ?_ | with_reducible refine iteF ?_ | with_reducible refine rd_nt ?_ | with_reducible refine rd_nf ?_
  | (dsimp only)))

variable {P : Program} {w : World} {K : PySem.W.Frag} {mg : Str → Option Value} {base : Heap} {a : Ad}
theorem src_ne {H : Hp} {p b : Addr} {r : Row} {n : Nat} (S : SrcN H p n) (h : RowAt H b r) : b ≠ p := fun z => by
  obtain ⟨s0, s1, s2, e, _⟩ := S.ex
  obtain ⟨ts, h1, _⟩ := h
  rw [z, e] at h1
  injection h1 with h1
  injection h1 with h1
  cases ts with
  | nil => cases h1
  | cons t ts => cases h1
theorem rowN {H H' : Hp} {p b : Addr} {r : Row} {n : Nat} (h : RowAt H b r) (S : SrcN H p n) (s : Same' p H H') : RowAt H' b r := by
  have n := src_ne S h
  obtain ⟨ts, h1, h2⟩ := h
  exact ⟨ts, s _ _ h1 n, h2.mono (s.tups S.lst.choose_spec)⟩
/-- amid the change: a row still, at and to in it -/
def Mid (H H' : Hp) (p l : Addr) (b x y : Nat) : Prop := ∃ r : Row, RowAt H' l r ∧ Vr r ∧ SrcN H' p b ∧ Same2 p l H H' ∧ x < r.length ∧ y < r.length
end K06

namespace K06
open PySem L2 LX
local macro_rules | `(tactic| walk_at "rd") => `(tactic| repeat (first
  | with_reducible refine rd_var rfl ?_ | with_reducible refine rd_c ?_ | with_reducible refine rd_op ?_ | with_reducible refine rd_un ?_ | with_reducible refine rd_I0 ?_ | with_reducible refine rd_U ?_
  | with_reducible refine rd_test ?_ | with_reducible refine rd_tB ?_ | with_reducible refine rd_bl ?_ | with_reducible refine rd_chain ?_
  | with_reducible refine rd_and ?_ | with_reducible refine rd_or ?_ | with_reducible refine rd_not ?_ | with_reducible refine rd_andV ?_ | with_reducible refine rd_orV ?_ | with_reducible refine rd_notV ?_
  | with_reducible refine rd_next ?_ | with_reducible refine rd_seq ?_ | with_reducible refine rd_drop ?_ | with_reducible refine rd_ret ?_ | with_reducible refine rd_ifS ?_ | with_reducible refine rd_asg ?_ | with_reducible refine rd_name ?_
  | with_reducible refine rd_par ?_ | with_reducible refine rd_two ?_ | with_reducible refine rd_2i ?_ | with_reducible refine rd_nil ?_ | with_reducible refine rd_cons ?_ | with_reducible refine rd_tup ?_ | with_reducible refine rd_lst ?_ | with_reducible refine rd_cb ?_ | with_reducible refine rd_call ?_
  | with_reducible refine rd_ixL (by assumption) rfl ?_ | with_reducible refine rd_ixT (by assumption) rfl ?_ | with_reducible refine rd_ixL upd_same rfl ?_ | with_reducible refine rd_sub ?_ | with_reducible refine rd_sl ?_ | with_reducible refine rd_nopart ?_ | with_reducible refine rd_part ?_ | with_reducible refine rd_int ?_
  | with_reducible refine rd_len (by assumption) ?_ | with_reducible refine rd_bm ?_ | with_reducible refine rd_bm0 ?_ | with_reducible refine rd_gcons ?_ | with_reducible refine rd_gnil ?_
  | ((with_reducible refine rd_I ?ci ?_); (case ci => first | assumption | (show (0 : Int) < _; decide) | exact Or.inl ⟨by decide, by decide⟩ | exact Or.inr ⟨by decide, by decide⟩ | exact ⟨by decide, by decide, (by decide : Int.natAbs 10 < 2 ^ 1000)⟩))
  | with_reducible refine rd_setL (by assumption) rfl ?_ | with_reducible refine rd_setL upd_same rfl ?_ | with_reducible refine rd_len upd_same ?_
  | with_reducible refine rd_2ty ?_ | with_reducible refine rd_NT ?_ | with_reducible refine rd_2s ?_ | with_reducible refine rd_lenS ?_ | with_reducible refine rd_lenT (by assumption) ?_ | ((with_reducible refine rd_typ ?ct ?_); (case ct => rfl))
  | ((with_reducible refine rd_eq ?cs ?_); (case cs => rfl)) | ((with_reducible refine rd_ne ?cs ?_); (case cs => rfl))
  | with_reducible refine rd_qtru ?_ | with_reducible refine rd_lstRg ?_ | with_reducible refine rd_rg1 ?_ | with_reducible refine rd_tyes ?_ | with_reducible refine rd_tyL (by assumption) ?_ | with_reducible refine rd_tyT (by assumption) ?_
  | with_reducible refine iteT ?_ | with_reducible refine iteF ?_ | with_reducible refine rd_nt ?_ | with_reducible refine rd_nf ?_
  | (dsimp only)))

variable {P : Program} {w : World} {K : PySem.W.Frag} {mg : Str → Option Value} {base : Heap} {a : Ad}
def sp_is_integer (K : PySem.W.Frag) : Sp := fun vs H Q _ => ∃ i : Int, vs = [.int i] ∧ Q (.bl true) H
theorem ok_is_integer (T : Txt K mg a) : FnOk P w K mg base CX0 1 a.f_is_integer a.d_is_integer ["value"] (sp_is_integer K) := by
  refine T.F_is_integer.ok sc_is_integer (fun vs H Q E h => ?_) (fun cdv A outer s H vs Q E hr h => ?_)
  · obtain ⟨i, rfl, _⟩ := h
    rfl
  · obtain ⟨i, rfl, kq⟩ := h
    have nd := sc_is_integer.nd
    refine ⟨_, (pss_one (ps_ret (pe_and (pe_callB (kisi (K := K)) (by rfl) T.b_isinstance (by decide +kernel) (pa_cons (pv 0) (pa_cons (pe_bltn (v := .ty "int") (by rfl) T.b_int (by decide +kernel) rfl) pa_nil))) (pe_one (pe_not (pe_callB (kisi (K := K)) (by rfl) T.b_isinstance (by decide +kernel) (pa_cons (pv 0) (pa_cons (pe_bltn (v := .ty "bool") (by rfl) T.b_bool (by decide +kernel) rfl) pa_nil)))))))), ?_⟩
    walk_at "rd"
    refine rd_isi (.ty "int") (.base (.int i)) (kit_ty (r := true) (by decide +kernel)) ?_
    walk_at "rd"
    refine rd_isi (.ty "bool") (.base (.int i)) (kit_ty (r := false) (by decide +kernel)) ?_
    walk_at "rd"
    exact kq
def sp_is_color (K : PySem.W.Frag) : Sp := fun vs H Q _ => ∃ c : Nat, vs = [sg c] ∧ 97 ≤ c ∧ c ≤ 122 ∧ Q (.bl true) H
theorem ok_is_color (T : Txt K mg a) : FnOk P w K mg base CX0 1 a.f_is_color a.d_is_color ["value"] (sp_is_color K) := by
  refine T.F_is_color.ok sc_is_color (fun vs H Q E h => ?_) (fun cdv A outer s H vs Q E hr h => ?_)
  · obtain ⟨i, rfl, _⟩ := h
    rfl
  · obtain ⟨c, rfl, c0, c1, kq⟩ := h
    have nd := sc_is_color.nd
    refine ⟨_, (pss_one (ps_ret (pe_and (pe_cmpR op_isTyB (pe_typeOf rfl T.b_type (pv 0)) (pe_bltn (v := .ty "str") (by rfl) T.b_str (by decide +kernel) rfl) (nomark _)) (pe_and (pe_cmpR op_eq (pe_callB call_len_str (by rfl) T.b_len (by decide +kernel) (pa_cons (pv 0) pa_nil)) pe_int (nomark _)) (pe_one (pe_chain op_le_str op_le_str pe_str (pv 0) pe_str)))))), ?_⟩
    walk_at "rd"
    refine rd_typ (n := "str") rfl ?_
    walk_at "rd"
    refine rd_yes rfl ?_
    walk_at "rd"
    refine ⟨by show 1 ≤ sizeLine; decide, ?_⟩
    walk_at "rd"
    refine rd_yes rfl ?_
    walk_at "rd"
    refine rd_ndec (fun k => ?_) fun k => absurd k ?_
    · walk_at "rd"
      have e : (!decide (([122] : List Nat) < [c])) = true := by
        rw [decide_eq_false] <;> first | rfl | skip
        intro z
        rcases List.cons_lt_cons_iff.mp z with z | z
        · omega
        · exact absurd z.2 (List.lt_irrefl _)
      have e2 : Q (.bl (!decide (([122] : List Nat) < [c]))) H := by
        rw [e]
        exact kq
      exact e2
    · intro z
      rcases List.cons_lt_cons_iff.mp (show ([c] : List Nat) < [97] from z) with z | z
      · omega
      · exact absurd z.2 (List.lt_irrefl _)
def sp_is_colored_integer (K : PySem.W.Frag) : Sp := fun vs H Q _ => ∃ (t : Addr) (e : Nat × Nat), vs = [.ref t] ∧ H t = some (.tup (pr e)) ∧ 97 ≤ e.2 ∧ e.2 ≤ 122 ∧ Q (.bl true) H
theorem ok_is_colored_integer (T : Txt K mg a) : FnOk P w K mg base CX0 2 a.f_is_colored_integer a.d_is_colored_integer ["value"] (sp_is_colored_integer K) := by
  refine T.F_is_colored_integer.ok sc_is_colored_integer (fun vs H Q E h => ?_) (fun cdv A outer s H vs Q E hr h => ?_)
  · obtain ⟨t, e, rfl, _⟩ := h
    rfl
  · obtain ⟨t, e, rfl, ht, c0, c1, kq⟩ := h
    have nd := sc_is_colored_integer.nd
    refine ⟨_, (pss_one (ps_ret (pe_and (pe_cmpR op_isTyB (pe_typeOf rfl T.b_type (pv 0)) (pe_bltn (v := .ty "tuple") (by rfl) T.b_tuple (by decide +kernel) rfl) (nomark _)) (pe_and (pe_cmpR op_eq (pe_callB (klen (K := K)) (by rfl) T.b_len (by decide +kernel) (pa_cons (pv 0) pa_nil)) pe_int (nomark _)) (pe_and (pe_call (ok_is_integer T) (hr.mono (by decide)) rfl T.g_is_integer T.k_is_integer T.n_is_integer .nil pass0 (pa_cons (pe_ix (kix_tup (K := K)) (pv 0) pe_int (fun _ _ => rfl)) pa_nil)) (pe_one (pe_call (ok_is_color T) (hr.mono (by decide)) rfl T.g_is_color T.k_is_color T.n_is_color .nil pass0 (pa_cons (pe_ix (kix_tup (K := K)) (pv 0) pe_int (fun _ _ => rfl)) pa_nil)))))))), ?_⟩
    walk_at "rd"
    refine rd_yes rfl ?_
    walk_at "rd"
    refine rd_yes rfl ?_
    walk_at "rd"
    refine ⟨_, rfl, ?_⟩
    walk_at "rd"
    refine ⟨_, rfl, c0, c1, kq⟩
def sp_first_other_color (K : PySem.W.Frag) : Sp := fun vs H Q _ => ∃ (l : Addr) (r : Row) (c : Nat), vs = [.ref l, sg c] ∧ RowAt H l r ∧ Q (oV (fo r c)) H
theorem ok_first_other_color (T : Txt K mg a) : FnOk P w K mg base CX0 1 a.f_first_other_color a.d_first_other_color ["lineup", "color"] (sp_first_other_color K) := by
  refine T.F_first_other_color.ok sc_first_other_color (fun vs H Q E h => ?_) (fun cdv A outer s H vs Q E hr h => ?_)
  · obtain ⟨l, r, c, rfl, _⟩ := h
    rfl
  · obtain ⟨l, r, c, rfl, ⟨ts, hl, ht⟩, kq⟩ := h
    have nd := sc_first_other_color.nd
    refine ⟨_, (pss_cons (ps_for PassesOwn.never rfl (kpi_list (K := K) (pv 0)) (kpg_tup (K := K) rfl (pgs_cons (pg_name (i := 2) nd rfl (Or.inl rfl)) (pgs_cons (pg_name (i := 3) nd rfl (Or.inl rfl)) pgs_nil))) (pss_one (ps_if (pt_cmpR op_ne (pv 3) (pv 1) (nomark _)) (pss_one (ps_ret (pv 3))) pss_nil)))
      (pss_one (ps_ret pe_non))), ?_⟩
    walk_at "rd"
    refine ⟨_, rfl, l, rfl, ⟨_, SqL.of hl⟩, for_list (K := K) (a := l) (xs := ts.map V.ref) (fun i σ H' => ∃ x y, σ = [some (.ref l), some (sg c), x, y] ∧ H' = H ∧ fo (r.drop i) c = fo r c)
      ⟨none, none, rfl, rfl, rfl⟩ (fun i σ H' _ ⟨_, _, _, e, _⟩ => e ▸ SqL.of hl) ?_ ?_⟩
    · rintro i v σ H' hi ⟨x, y, rfl, rfl, hf⟩
      rw [List.getElem?_map] at hi
      obtain ⟨t, h1, rfl⟩ := Option.map_eq_some_iff.mp hi
      obtain ⟨e, h2, h3⟩ := ht.get h1
      rw [drop_of h2] at hf
      refine rd_gtup h3 rfl ?_
      walk_at "rd"
      refine rd_ndec (fun k => ?_) fun k => ?_
      · walk_at "rd"
        have q : e.2 ≠ c := fun z => k (by rw [z])
        rw [fo_yes q] at hf
        rw [← hf] at kq
        exact kq
      · walk_at "rd"
        have q : e.2 = c := by
          injection k with k
          injection k with k
          injection k with k
          injection k with k
        rw [fo_no q] at hf
        exact ⟨_, _, rfl, rfl, hf⟩
    · rintro σ H' ⟨x, y, rfl, rfl, hf⟩
      rw [List.length_map, ht.len, List.drop_length] at hf
      walk_at "rd"
      rw [← hf] at kq
      exact kq
end K06

namespace K06
open PySem L2 LX
local macro_rules | `(tactic| walk_at "rd") => `(tactic| repeat (first
  | with_reducible refine rd_var rfl ?_ | with_reducible refine rd_c ?_ | with_reducible refine rd_op ?_ | with_reducible refine rd_un ?_ | with_reducible refine rd_I0 ?_ | with_reducible refine rd_U ?_
  | with_reducible refine rd_test ?_ | with_reducible refine rd_tB ?_ | with_reducible refine rd_bl ?_ | with_reducible refine rd_chain ?_
  | with_reducible refine rd_and ?_ | with_reducible refine rd_or ?_ | with_reducible refine rd_not ?_ | with_reducible refine rd_andV ?_ | with_reducible refine rd_orV ?_ | with_reducible refine rd_notV ?_
  | with_reducible refine rd_next ?_ | with_reducible refine rd_seq ?_ | with_reducible refine rd_drop ?_ | with_reducible refine rd_ret ?_ | with_reducible refine rd_ifS ?_ | with_reducible refine rd_asg ?_ | with_reducible refine rd_name ?_
  | with_reducible refine rd_par ?_ | with_reducible refine rd_two ?_ | with_reducible refine rd_2i ?_ | with_reducible refine rd_nil ?_ | with_reducible refine rd_cons ?_ | with_reducible refine rd_tup ?_ | with_reducible refine rd_lst ?_ | with_reducible refine rd_cb ?_ | with_reducible refine rd_call ?_
  | with_reducible refine rd_ixL (by assumption) rfl ?_ | with_reducible refine rd_ixT (by assumption) rfl ?_ | with_reducible refine rd_ixL upd_same rfl ?_ | with_reducible refine rd_sub ?_ | with_reducible refine rd_sl ?_ | with_reducible refine rd_nopart ?_ | with_reducible refine rd_part ?_ | with_reducible refine rd_int ?_
  | with_reducible refine rd_len (by assumption) ?_ | with_reducible refine rd_bm ?_ | with_reducible refine rd_bm0 ?_ | with_reducible refine rd_gcons ?_ | with_reducible refine rd_gnil ?_
  | ((with_reducible refine rd_I ?ci ?_); (case ci => first | assumption | (show (0 : Int) < _; decide) | exact Or.inl ⟨by decide, by decide⟩ | exact Or.inr ⟨by decide, by decide⟩ | exact ⟨by decide, by decide, (by decide : Int.natAbs 10 < 2 ^ 1000)⟩))
  | with_reducible refine rd_setL (by assumption) rfl ?_ | with_reducible refine rd_setL upd_same rfl ?_ | with_reducible refine rd_len upd_same ?_
  | with_reducible refine rd_2ty ?_ | with_reducible refine rd_NT ?_ | with_reducible refine rd_2s ?_ | with_reducible refine rd_lenS ?_ | with_reducible refine rd_lenT (by assumption) ?_ | ((with_reducible refine rd_typ ?ct ?_); (case ct => rfl))
  | ((with_reducible refine rd_eq ?cs ?_); (case cs => rfl)) | ((with_reducible refine rd_ne ?cs ?_); (case cs => rfl))
  | with_reducible refine rd_qtru ?_ | with_reducible refine rd_lstRg ?_ | with_reducible refine rd_rg1 ?_ | with_reducible refine rd_tyes ?_ | with_reducible refine rd_tyL (by assumption) ?_ | with_reducible refine rd_tyT (by assumption) ?_
  | with_reducible refine iteT ?_ | with_reducible refine iteF ?_ | with_reducible refine rd_nt ?_ | with_reducible refine rd_nf ?_
  | (dsimp only)))

variable {P : Program} {w : World} {K : PySem.W.Frag} {mg : Str → Option Value} {base : Heap} {a : Ad}
def sp_is_lineup (K : PySem.W.Frag) : Sp := fun vs H Q _ => ∃ (l : Addr) (r : Row), vs = [.ref l] ∧ RowAt H l r ∧ Vr r ∧ ∀ H', Same H H' → Q (.bl true) H'
theorem ok_is_lineup (T : Txt K mg a) : FnOk P w K mg base CX0 3 a.f_is_lineup a.d_is_lineup ["value"] (sp_is_lineup K) := by
  refine T.F_is_lineup.ok sc_is_lineup (fun vs H Q E h => ?_) (fun cdv A outer s H vs Q E hr h => ?_)
  · obtain ⟨l, r, rfl, _⟩ := h
    rfl
  · obtain ⟨l, r, rfl, ⟨ts, hl, ht⟩, V0, kq⟩ := h
    have nd := sc_is_lineup.nd
    have hu := hu_of hr
    have hu64 := hr.units
    have hlen : (ts.map V.ref).length = r.length := by rw [List.length_map, ht.len]
    refine ⟨_, (pss_cons (ps_if (PW.pt (pw_or (pt_cmpR op_notTyB (pe_typeOf rfl T.b_type (pv 0)) (pe_bltn (v := .ty "list") (by rfl) T.b_list (by decide +kernel) rfl) (nomark _)) (pw_or1 (pt_not (pt_chain op_le op_le pe_int (pe_callB (klen (K := K)) (by rfl) T.b_len (by decide +kernel) (pa_cons (pv 0) pa_nil)) (pe_glob (v := .int 60) rfl T.c_MOST_PEOPLE ⟨_, rfl⟩)))))) (pss_one (ps_ret pe_bl)) pss_nil)
      (pss_cons (ps_for PassesOwn.never rfl (kpi_list (K := K) (pv 0)) (pg_name (i := 1) nd rfl (Or.inl rfl)) (pss_one (ps_if (pt_not (pt_val (pe_call (ok_is_colored_integer T) (hr.mono (by decide)) rfl T.g_is_colored_integer T.k_is_colored_integer T.n_is_colored_integer .nil pass0 (pa_cons (pv 1) pa_nil)))) (pss_one (ps_ret pe_bl)) pss_nil)))
      (pss_one (ps_ret (pe_cmpR (keqD (K := K) hu64) (pe_callB (ksorted (K := K)) (by rfl) T.b_sorted (by decide +kernel) (pa_cons (pe_lc (own := [("person", 2), ("_", 3)]) (g := gTup K 2 (gCons (gName 2) (gCons (gName 3) gNil))) (tt := tYes) rfl nd (kpi_list (K := K) (pv 0)) (blkOk_by (own := [("person", 2), ("_", 3)]) (N := ["value", "item", "person", "_"]) (sc := defScope s_is_lineup) (by decide +kernel)) (fun _ _ _ _ _ => (kpg_tup (K := K) rfl (pgs_cons (pg_name (i := 2) nd rfl (Or.inl rfl)) (pgs_cons (pg_name (i := 3) nd rfl (Or.inl rfl)) pgs_nil)))) (fun _ _ _ _ _ => pts_nil) (fun _ _ _ _ _ => (pv 2))) pa_nil)) (pe_listRg rfl rfl T.b_list (prg_1 rfl T.b_range (pe_callB (klen (K := K)) (by rfl) T.b_len (by decide +kernel) (pa_cons (pv 0) pa_nil)))) (nomark _)))))), ?_⟩
    walk_at "rd"
    refine rd_ndec (fun k => absurd rfl k) fun _ => ?_
    walk_at "rd"
    refine rd_yes (by have := V0.n1; omega) ?_
    walk_at "rd"
    refine rd_ndec (fun k => absurd (by have := V0.n2; omega) k) fun _ => ?_
    walk_at "rd"
    refine ⟨_, rfl, l, rfl, ⟨_, SqL.of hl⟩, for_list (K := K) (a := l) (xs := ts.map V.ref) (fun i σ H' => ∃ x, σ = [some (.ref l), x, none, none] ∧ H' = H)
      ⟨none, rfl, rfl⟩ (fun i σ H' _ ⟨_, _, e⟩ => e ▸ SqL.of hl) ?_ ?_⟩
    · rintro i v σ H' hi ⟨x, rfl, rfl⟩
      rw [List.getElem?_map] at hi
      obtain ⟨t, h1, rfl⟩ := Option.map_eq_some_iff.mp hi
      obtain ⟨e, h2, h3⟩ := ht.get h1
      have ce := V0.col e (getElem?_mem h2)
      walk_at "rd"
      refine ⟨t, e, rfl, h3, ce.1, ce.2, ?_⟩
      walk_at "rd"
      exact ⟨_, rfl, rfl⟩
    · rintro σ H' ⟨x, rfl, rfl⟩
      walk_at "rd"
      refine ⟨_, rfl, l, rfl, ⟨_, SqL.of hl⟩, fun D hD => lc_list (K := K) (a := l) (xs := ts.map V.ref) (fun i H2 => H2 = upd H' D (.lst ((pI (r.take i)).map V.int))) rfl
        (fun i H2 _ e => by rw [e]; exact SqL.of ((sNew hD) _ _ hl)) ?_ ?_⟩
      · rintro i v H2 hi rfl
        rw [List.getElem?_map] at hi
        obtain ⟨t, h1, rfl⟩ := Option.map_eq_some_iff.mp hi
        obtain ⟨e, h2, h3⟩ := ht.get h1
        refine rd_gtup ((sNew hD) _ _ h3) rfl ?_
        walk_at "rd"
        refine ⟨rfl, ?_⟩
        walk_at "rd"
        refine ⟨_, upd_same, lt60 ?_, ?_⟩
        · have := (List.getElem?_eq_some_iff.mp h2).1
          have := V0.n2
          rw [List.length_map, List.length_map, List.length_take]
          omega
        · rw [upd_upd, take_of h2]
          simp only [pI, List.map_append, List.map_cons, List.map_nil]
      · rintro H2 rfl
        rw [hlen, List.take_length]
        walk_at "rd"
        refine ⟨D, pI r, rfl, SqL.of upd_same, fun ns q hp hs hq => ?_⟩
        have e1 := sorted_is V0 hp hs
        subst e1
        have sD : Same H' (upd H' D (.lst ((pI r).map V.int))) := sNew hD
        have s2 : Same H' (upd (upd H' D (.lst ((pI r).map V.int))) q (.lst ((rI' r.length).map V.int))) := fun b o e => (sNew hq) _ _ (sD _ _ e)
        walk_at "rd"
        refine rd_len (s2 _ _ hl) ?_
        walk_at "rd"
        refine ⟨RgOk.of_le (by omega) ?_ (by omega) (by omega), fun q2 hq2 => ?_⟩
        · have := V0.n2
          omega
        · rw [hlen, rgV_is]
          refine rd_eqD (d := dI (rI' r.length)) (.lst (SqL.of ((sNew hq2) _ _ upd_same)) (dp_ints _)) (.lst (SqL.of upd_same) (dp_ints _)) (shp_ints _) ?_
          exact kq _ fun b o e => (sNew hq2) _ _ (s2 _ _ e)
def sp_check_lineup (K : PySem.W.Frag) : Sp := fun vs H Q _ => ∃ (l : Addr) (r : Row), vs = [.ref l] ∧ RowAt H l r ∧ Vr r ∧ ∀ H', Same H H' → Q .non H'
theorem ok_check_lineup (T : Txt K mg a) : FnOk P w K mg base CX0 4 a.f_check_lineup a.d_check_lineup ["value"] (sp_check_lineup K) := by
  refine T.F_check_lineup.ok sc_check_lineup (fun vs H Q E h => ?_) (fun cdv A outer s H vs Q E hr h => ?_)
  · obtain ⟨l, r, rfl, _⟩ := h
    rfl
  · obtain ⟨l, r, rfl, hR, V0, kq⟩ := h
    have nd := sc_check_lineup.nd
    refine ⟨_, (pss_one (ps_if (pt_not (pt_val (pe_call (ok_is_lineup T) (hr.mono (by decide)) rfl T.g_is_lineup T.k_is_lineup T.n_is_lineup .nil pass0 (pa_cons (pv 0) pa_nil)))) pss_never pss_nil)), ?_⟩
    walk_at "rd"
    refine ⟨l, r, rfl, hR, V0, fun H' s1 => ?_⟩
    walk_at "rd"
    exact kq H' s1
end K06


/-! ### lists of tuples of any make; runs of equal items -/
namespace LX
open PySem L2
section
variable {α : Type} {f : α → List V}
def TsAt (f : α → List V) (H : Hp) : List Addr → List α → Prop
  | [], [] => True
  | t :: ts, e :: r => H t = some (.tup (f e)) ∧ TsAt f H ts r
  | _, _ => False
theorem TsAt.len {H : Hp} : ∀ {ts : List Addr} {r : List α}, TsAt f H ts r → ts.length = r.length
  | [], [], _ => rfl
  | _ :: ts, _ :: r, h => congrArg (· + 1) (TsAt.len (ts := ts) (r := r) h.2)
  | [], _ :: _, h => h.elim
  | _ :: _, [], h => h.elim
theorem TsAt.mono {H H' : Hp} : ∀ {ts : List Addr} {r : List α}, TsAt f H ts r → (∀ b xs, H b = some (.tup xs) → H' b = some (.tup xs)) → TsAt f H' ts r
  | [], [], _, _ => True.intro
  | _ :: ts, _ :: r, h, k => ⟨k _ _ h.1, TsAt.mono (ts := ts) (r := r) h.2 k⟩
  | [], _ :: _, h, _ => h.elim
  | _ :: _, [], h, _ => h.elim
theorem TsAt.get {H : Hp} : ∀ {ts : List Addr} {r : List α} {i : Nat} {t : Addr}, TsAt f H ts r → ts[i]? = some t → ∃ e, r[i]? = some e ∧ H t = some (.tup (f e))
  | [], [], i, t, _, h => by simp at h
  | _ :: ts, e :: r, 0, t, h, q => by
    simp at q
    subst q
    exact ⟨e, rfl, h.1⟩
  | _ :: ts, _ :: r, i + 1, t, h, q => by
    simp at q
    obtain ⟨e, h1, h2⟩ := TsAt.get (ts := ts) (r := r) h.2 q
    exact ⟨e, by simpa using h1, h2⟩
  | [], _ :: _, _, _, h, _ => h.elim
  | _ :: _, [], _, _, h, _ => h.elim
theorem TsAt.snoc {H : Hp} {t : Addr} {e : α} (ht : H t = some (.tup (f e))) : ∀ {ts : List Addr} {r : List α}, TsAt f H ts r → TsAt f H (ts ++ [t]) (r ++ [e])
  | [], [], _ => ⟨ht, True.intro⟩
  | _ :: ts, _ :: r, h => ⟨h.1, TsAt.snoc ht (ts := ts) (r := r) h.2⟩
  | [], _ :: _, h => h.elim
  | _ :: _, [], h => h.elim
theorem TsAt.app {H : Hp} : ∀ {ts us : List Addr} {r q : List α}, TsAt f H ts r → TsAt f H us q → TsAt f H (ts ++ us) (r ++ q)
  | [], _, [], _, _, h => h
  | _ :: ts, us, _ :: r, q, h, k => ⟨h.1, TsAt.app (ts := ts) (r := r) h.2 k⟩
  | [], _, _ :: _, _, h, _ => h.elim
  | _ :: _, _, [], _, h, _ => h.elim
theorem TsAt.set {H : Hp} {t : Addr} {e : α} (ht : H t = some (.tup (f e))) : ∀ {ts : List Addr} {r : List α} (j : Nat), TsAt f H ts r → TsAt f H (ts.set j t) (r.set j e)
  | [], [], _, _ => True.intro
  | _ :: ts, _ :: r, 0, h => ⟨ht, h.2⟩
  | _ :: ts, _ :: r, j + 1, h => ⟨h.1, TsAt.set ht (ts := ts) (r := r) j h.2⟩
  | [], _ :: _, _, h => h.elim
  | _ :: _, [], _, h => h.elim
theorem TsAt.last {H : Hp} {ts : List Addr} {r : List α} (h : TsAt f H ts r) {e : α} (he : r.getLast? = some e) : ∃ t, ts[ts.length - 1]? = some t ∧ H t = some (.tup (f e)) := by
  have hl := h.len
  rw [List.getLast?_eq_getElem?] at he
  have h1 : r.length - 1 < r.length := (List.getElem?_eq_some_iff.mp he).1
  have h2 : ts.length - 1 < ts.length := by omega
  have h3 := List.getElem?_eq_getElem h2
  obtain ⟨e', h4, h5⟩ := h.get h3
  rw [show ts.length - 1 = r.length - 1 by omega, he] at h4
  cases h4
  exact ⟨_, h3, h5⟩
theorem TsAt.off {H : Hp} {l : Addr} {xs : List V} {o : HO} {ts : List Addr} {r : List α} (h : TsAt f H ts r) (hl : H l = some (.lst xs)) : TsAt f (upd H l o) ts r := h.mono fun b ys e => by
  rw [upd_ne fun z => by rw [z, hl] at e; cases e]
  exact e
theorem TsAt.dp {K : PySem.W.Frag} {H : Hp} {d : α → List PyData} (hd : ∀ e, DpAll K H (f e) (d e)) : ∀ {ts : List Addr} {r : List α}, TsAt f H ts r → DpAll K H (ts.map V.ref) (r.map fun e => PyData.tuple (d e))
  | [], [], _ => .nil
  | _ :: ts, e :: r, h => .cons (.tup (SqT.of h.1) (hd e)) (TsAt.dp hd (ts := ts) (r := r) h.2)
  | [], _ :: _, h => h.elim
  | _ :: _, [], h => h.elim
end
section
variable {α : Type} [DecidableEq α]
def rsn (acc : List (α × Nat)) (x : α) : List (α × Nat) :=
  match acc.getLast? with
  | some (y, k) => if y = x then acc.set (acc.length - 1) (x, k + 1) else acc ++ [(x, 1)]
  | none => acc ++ [(x, 1)]
def runs (cs : List α) : List (α × Nat) := cs.foldl rsn []
theorem runs_snoc (cs : List α) (x : α) : runs (cs ++ [x]) = rsn (runs cs) x := by
  unfold runs
  rw [List.foldl_append]
  rfl
theorem rsn_len (acc : List (α × Nat)) (x : α) : (rsn acc x).length ≤ acc.length + 1 := by
  unfold rsn
  split
  · split
    · rw [List.length_set]
      omega
    · rw [List.length_append]
      simp
  · rw [List.length_append]
    simp
theorem runs_len (cs : List α) : (runs cs).length ≤ cs.length := by
  have go : ∀ (cs : List α) (acc : List (α × Nat)), (cs.foldl rsn acc).length ≤ acc.length + cs.length := by
    intro cs
    induction cs with
    | nil => exact fun acc => Nat.le_refl _
    | cons x cs ih =>
      intro acc
      have h1 := ih (rsn acc x)
      have h2 := rsn_len acc x
      show (cs.foldl rsn (rsn acc x)).length ≤ acc.length + (cs.length + 1)
      omega
  have := go cs []
  simpa [runs] using this
theorem rsn_grow {acc : List (α × Nat)} {x : α} {k : Nat} (h : acc.getLast? = some (x, k)) : rsn acc x = acc.set (acc.length - 1) (x, k + 1) := by
  unfold rsn
  rw [h]
  exact if_pos rfl
theorem rsn_new {acc : List (α × Nat)} {x y : α} {k : Nat} (h : acc.getLast? = some (y, k)) (n : y ≠ x) : rsn acc x = acc ++ [(x, 1)] := by
  unfold rsn
  rw [h]
  exact if_neg n
theorem rsn_nil (x : α) : rsn [] x = [(x, 1)] := rfl
theorem last_ne {β : Type} {acc : List β} (h : acc ≠ []) : ∃ e, acc.getLast? = some e := ⟨_, List.getLast?_eq_some_getLast h⟩
end
/-- a run of a color -/
abbrev prC (e : Nat × Nat) : List V := [sg e.1, .int (e.2 : Int)]
abbrev dPC (e : Nat × Nat) : List PyData := [.str ⟨#[e.1]⟩, .int (e.2 : Int)]
/-- each color once, in the order met -/
abbrev firstsOf (cs : List Nat) : List Nat := cs.foldl (fun acc x => if x ∈ acc then acc else acc ++ [x]) []
theorem firsts_snoc (cs : List Nat) (x : Nat) : firstsOf (cs ++ [x]) = if x ∈ firstsOf cs then firstsOf cs else firstsOf cs ++ [x] := by
  unfold firstsOf
  rw [List.foldl_append]
  rfl
/-- a text of codes -/
abbrev txt (cs : List Nat) : Str := ⟨cs.toArray⟩
section
variable {X : Cx}
def rInT (neg : Bool) : R2 := fun x y H Q => ∃ (c : Nat) (z : Str), x = sg c ∧ y = .str z ∧ Q (.bl (if neg = true then !decide (c ∈ z.cps.toList) else decide (c ∈ z.cps.toList))) H
theorem kinT : OpR X (compareOp .In) (rInT false) := by
  intro pins s σ H x y v u Q I rx ry h
  obtain ⟨c, z, rfl, rfl, q⟩ := h
  refine op_in_str pins s σ H _ _ v u Q I rx ry ⟨⟨#[c]⟩, z, rfl, rfl, ?_⟩
  rw [PySem.StrLaws.found_one]
  exact q
theorem knotInT : OpR X (compareOp .NotIn) (rInT true) := by
  intro pins s σ H x y v u Q I rx ry h
  obtain ⟨c, z, rfl, rfl, q⟩ := h
  refine op_notIn_str pins s σ H _ _ v u Q I rx ry ⟨⟨#[c]⟩, z, rfl, rfl, ?_⟩
  rw [PySem.StrLaws.found_one]
  exact q
end
theorem txt_app (cs : List Nat) (c : Nat) : txt cs ++ (⟨#[c]⟩ : Str) = txt (cs ++ [c]) := by
  show (⟨cs.toArray ++ #[c]⟩ : Str) = ⟨(cs ++ [c]).toArray⟩
  congr 1
  simp
theorem txt_len (cs : List Nat) : (txt cs).length = cs.length := List.size_toArray
theorem mem_firsts {cs : List Nat} {x : Nat} : x ∈ firstsOf cs ↔ x ∈ cs := by
  have go : ∀ (cs acc : List Nat), x ∈ cs.foldl (fun acc x => if x ∈ acc then acc else acc ++ [x]) acc ↔ x ∈ acc ∨ x ∈ cs := by
    intro cs
    induction cs with
    | nil => intro acc; simp
    | cons y ys ih =>
      intro acc
      rw [List.foldl_cons, ih, List.mem_cons]
      by_cases c : y ∈ acc
      · rw [if_pos c]
        constructor
        · rintro (h | h)
          · exact Or.inl h
          · exact Or.inr (Or.inr h)
        · rintro (h | rfl | h)
          · exact Or.inl h
          · exact Or.inl c
          · exact Or.inr h
      · rw [if_neg c, List.mem_append, List.mem_singleton, or_assoc]
  have := go cs []
  simpa using this
theorem firsts_len (cs : List Nat) : (firstsOf cs).length ≤ cs.length := by
  have go : ∀ (cs acc : List Nat), (cs.foldl (fun acc x => if x ∈ acc then acc else acc ++ [x]) acc).length ≤ acc.length + cs.length := by
    intro cs
    induction cs with
    | nil => exact fun acc => Nat.le_refl _
    | cons y ys ih =>
      intro acc
      rw [List.foldl_cons, List.length_cons]
      refine Nat.le_trans (ih _) ?_
      by_cases c : y ∈ acc
      · rw [if_pos c]
        omega
      · rw [if_neg c, List.length_append, List.length_singleton]
        omega
  have := go cs []
  simpa using this
theorem txt_cat (a b : List Nat) : txt a ++ txt b = txt (a ++ b) := by
  show (⟨a.toArray ++ b.toArray⟩ : Str) = ⟨(a ++ b).toArray⟩
  congr 1
  simp
theorem fold_ones : ∀ (cs : List Nat) (acc : Array Nat), (cs.map fun c => (⟨#[c]⟩ : Str)).foldl (fun acc p => acc ++ (Str.ofString "").cps ++ p.cps) acc = acc ++ cs.toArray
  | [], acc => by simp
  | c :: cs, acc => by
    rw [List.map_cons, List.foldl_cons, fold_ones cs]
    show acc ++ #[] ++ #[c] ++ cs.toArray = _
    simp
theorem join_ones (cs : List Nat) : Txt.join (Str.ofString "") (cs.map fun c => (⟨#[c]⟩ : Str)) = txt cs := by
  cases cs with
  | nil => rfl
  | cons c cs =>
    show (⟨(cs.map fun c => (⟨#[c]⟩ : Str)).foldl (fun acc p => acc ++ (Str.ofString "").cps ++ p.cps) #[c]⟩ : Str) = _
    rw [fold_ones]
    show (⟨#[c] ++ cs.toArray⟩ : Str) = ⟨(c :: cs).toArray⟩
    congr 1
    simp
theorem len_ones (cs : List Nat) : ((cs.map fun c => (⟨#[c]⟩ : Str)).map (·.length)).sum = cs.length := by
  induction cs with
  | nil => rfl
  | cons c cs ih =>
    rw [List.map_cons, List.map_cons, List.sum_cons, ih, List.length_cons]
    show 1 + cs.length = _
    omega
/-- the last run's item is the last item -/
theorem runs_last (cs : List Nat) (x : Nat) : ∃ k, (runs (cs ++ [x])).getLast? = some (x, k) := by
  rw [runs_snoc]
  unfold rsn
  cases q : (runs cs).getLast? with
  | none =>
    dsimp only
    exact ⟨1, by rw [List.getLast?_append]; rfl⟩
  | some e =>
    obtain ⟨y, k⟩ := e
    dsimp only
    by_cases c : y = x
    · rw [if_pos c]
      have ne : 0 < (runs cs).length := by
        cases h : runs cs with
        | nil => rw [h] at q; cases q
        | cons a l => exact Nat.zero_lt_succ _
      refine ⟨k + 1, ?_⟩
      rw [List.getLast?_eq_getElem?, List.length_set, List.getElem?_set_self (by omega)]
    · rw [if_neg c]
      exact ⟨1, by rw [List.getLast?_append]; rfl⟩
theorem firsts_fm (cs : List Nat) : (List.range cs.length).filterMap (fun k => if decide (cs.getD k 0 ∈ cs.take k) = true then none else some (cs.getD k 0)) = firstsOf cs := by
  have go : ∀ k, k ≤ cs.length → (List.range k).filterMap (fun k => if decide (cs.getD k 0 ∈ cs.take k) = true then none else some (cs.getD k 0)) = firstsOf (cs.take k) := by
    intro k
    induction k with
    | zero => intro _; rfl
    | succ k ih =>
      intro hk
      have hx : cs[k]? = some (cs.getD k 0) := by rw [List.getD_eq_getElem?_getD, List.getElem?_eq_getElem (by omega)]; rfl
      rw [List.range_succ, List.filterMap_append, ih (by omega), take_of hx, firsts_snoc]
      by_cases c : cs.getD k 0 ∈ cs.take k
      · rw [if_pos (mem_firsts.mpr c), List.filterMap_cons_none (by rw [if_pos (decide_eq_true c)])]
        exact List.append_nil _
      · rw [if_neg fun z => c (mem_firsts.mp z), List.filterMap_cons_some (b := cs.getD k 0) (by rw [if_neg (by simpa using c)])]
        rfl
  have := go cs.length (Nat.le_refl _)
  rw [List.take_length] at this
  exact this
theorem fo_head (r : Row) (c : Nat) : ((r.map (·.2)).filter fun d => d != c).head? = fo r c := by
  unfold fo
  rw [List.head?_filter, List.find?_map]
  rfl
end LX
namespace K06
open PySem L2 LX
local macro_rules | `(tactic| walk_at "rd") => `(tactic| repeat (first
  | with_reducible refine rd_var rfl ?_ | with_reducible refine rd_c ?_ | with_reducible refine rd_op ?_ | with_reducible refine rd_un ?_ | with_reducible refine rd_I0 ?_ | with_reducible refine rd_U ?_
  | with_reducible refine rd_test ?_ | with_reducible refine rd_tB ?_ | with_reducible refine rd_bl ?_ | with_reducible refine rd_chain ?_
  | with_reducible refine rd_and ?_ | with_reducible refine rd_or ?_ | with_reducible refine rd_not ?_ | with_reducible refine rd_andV ?_ | with_reducible refine rd_orV ?_ | with_reducible refine rd_notV ?_
  | with_reducible refine rd_next ?_ | with_reducible refine rd_seq ?_ | with_reducible refine rd_drop ?_ | with_reducible refine rd_ret ?_ | with_reducible refine rd_ifS ?_ | with_reducible refine rd_asg ?_ | with_reducible refine rd_name ?_
  | with_reducible refine rd_par ?_ | with_reducible refine rd_two ?_ | with_reducible refine rd_2i ?_ | with_reducible refine rd_nil ?_ | with_reducible refine rd_cons ?_ | with_reducible refine rd_tup ?_ | with_reducible refine rd_lst ?_ | with_reducible refine rd_cb ?_ | with_reducible refine rd_call ?_
  | with_reducible refine rd_ixL (by assumption) rfl ?_ | with_reducible refine rd_ixT (by assumption) rfl ?_ | with_reducible refine rd_ixL upd_same rfl ?_ | with_reducible refine rd_sub ?_ | with_reducible refine rd_sl ?_ | with_reducible refine rd_nopart ?_ | with_reducible refine rd_part ?_ | with_reducible refine rd_int ?_
  | with_reducible refine rd_len (by assumption) ?_ | with_reducible refine rd_bm ?_ | with_reducible refine rd_bm0 ?_ | with_reducible refine rd_gcons ?_ | with_reducible refine rd_gnil ?_
  | ((with_reducible refine rd_I ?ci ?_); (case ci => first | assumption | (show (0 : Int) < _; decide) | exact Or.inl ⟨by decide, by decide⟩ | exact Or.inr ⟨by decide, by decide⟩ | exact ⟨by decide, by decide, (by decide : Int.natAbs 10 < 2 ^ 1000)⟩))
  | with_reducible refine rd_setL (by assumption) rfl ?_ | with_reducible refine rd_setL upd_same rfl ?_ | with_reducible refine rd_len upd_same ?_
  | with_reducible refine rd_2ty ?_ | with_reducible refine rd_NT ?_ | with_reducible refine rd_2s ?_ | with_reducible refine rd_lenS ?_ | with_reducible refine rd_lenT (by assumption) ?_ | ((with_reducible refine rd_typ ?ct ?_); (case ct => rfl))
  | ((with_reducible refine rd_eq ?cs ?_); (case cs => rfl)) | ((with_reducible refine rd_ne ?cs ?_); (case cs => rfl))
  | with_reducible refine rd_qtru ?_ | with_reducible refine rd_lstRg ?_ | with_reducible refine rd_rg1 ?_ | with_reducible refine rd_tyes ?_ | with_reducible refine rd_tyL (by assumption) ?_ | with_reducible refine rd_tyT (by assumption) ?_
  | with_reducible refine iteT ?_ | with_reducible refine iteF ?_ | with_reducible refine rd_nt ?_ | with_reducible refine rd_nf ?_
  | (dsimp only)))

variable {P : Program} {w : World} {K : PySem.W.Frag} {mg : Str → Option Value} {base : Heap} {a : Ad}
def sp_check_color (K : PySem.W.Frag) : Sp := fun vs H Q _ => ∃ c : Nat, vs = [sg c] ∧ 97 ≤ c ∧ c ≤ 122 ∧ Q .non H
theorem ok_check_color (T : Txt K mg a) : FnOk P w K mg base CX0 2 a.f_check_color a.d_check_color ["value"] (sp_check_color K) := by
  refine T.F_check_color.ok sc_check_color (fun vs H Q E h => ?_) (fun cdv A outer s H vs Q E hr h => ?_)
  · obtain ⟨c, rfl, _⟩ := h
    rfl
  · obtain ⟨c, rfl, c0, c1, kq⟩ := h
    have nd := sc_check_color.nd
    refine ⟨_, (pss_one (ps_if (pt_not (pt_val (pe_call (ok_is_color T) (hr.mono (by decide)) rfl T.g_is_color T.k_is_color T.n_is_color .nil pass0 (pa_cons (pv 0) pa_nil)))) pss_never pss_nil)), ?_⟩
    walk_at "rd"
    refine ⟨c, rfl, c0, c1, ?_⟩
    walk_at "rd"
    exact kq
end K06

namespace K06
open PySem L2 LX
local macro_rules | `(tactic| walk_at "rd") => `(tactic| repeat (first
  | with_reducible refine rd_var rfl ?_ | with_reducible refine rd_c ?_ | with_reducible refine rd_op ?_ | with_reducible refine rd_un ?_ | with_reducible refine rd_I0 ?_ | with_reducible refine rd_U ?_
  | with_reducible refine rd_test ?_ | with_reducible refine rd_tB ?_ | with_reducible refine rd_bl ?_ | with_reducible refine rd_chain ?_
  | with_reducible refine rd_and ?_ | with_reducible refine rd_or ?_ | with_reducible refine rd_not ?_ | with_reducible refine rd_andV ?_ | with_reducible refine rd_orV ?_ | with_reducible refine rd_notV ?_
  | with_reducible refine rd_next ?_ | with_reducible refine rd_seq ?_ | with_reducible refine rd_drop ?_ | with_reducible refine rd_ret ?_ | with_reducible refine rd_ifS ?_ | with_reducible refine rd_asg ?_ | with_reducible refine rd_name ?_
  | with_reducible refine rd_par ?_ | with_reducible refine rd_two ?_ | with_reducible refine rd_2i ?_ | with_reducible refine rd_nil ?_ | with_reducible refine rd_cons ?_ | with_reducible refine rd_tup ?_ | with_reducible refine rd_lst ?_ | with_reducible refine rd_cb ?_ | with_reducible refine rd_call ?_
  | with_reducible refine rd_ixL (by assumption) rfl ?_ | with_reducible refine rd_ixT (by assumption) rfl ?_ | with_reducible refine rd_ixL upd_same rfl ?_ | with_reducible refine rd_sub ?_ | with_reducible refine rd_sl ?_ | with_reducible refine rd_nopart ?_ | with_reducible refine rd_part ?_ | with_reducible refine rd_int ?_
  | with_reducible refine rd_len (by assumption) ?_ | with_reducible refine rd_bm ?_ | with_reducible refine rd_bm0 ?_ | with_reducible refine rd_gcons ?_ | with_reducible refine rd_gnil ?_
  | ((with_reducible refine rd_I ?ci ?_); (case ci => first | assumption | (show (0 : Int) < _; decide) | exact Or.inl ⟨by decide, by decide⟩ | exact Or.inr ⟨by decide, by decide⟩ | exact ⟨by decide, by decide, (by decide : Int.natAbs 10 < 2 ^ 1000)⟩))
  | with_reducible refine rd_setL (by assumption) rfl ?_ | with_reducible refine rd_setL upd_same rfl ?_ | with_reducible refine rd_len upd_same ?_
  | with_reducible refine rd_2ty ?_ | with_reducible refine rd_NT ?_ | with_reducible refine rd_2s ?_ | with_reducible refine rd_lenS ?_ | with_reducible refine rd_lenT (by assumption) ?_ | ((with_reducible refine rd_typ ?ct ?_); (case ct => rfl))
  | ((with_reducible refine rd_eq ?cs ?_); (case cs => rfl)) | ((with_reducible refine rd_ne ?cs ?_); (case cs => rfl))
  | with_reducible refine rd_qtru ?_ | with_reducible refine rd_lstRg ?_ | with_reducible refine rd_rg1 ?_ | with_reducible refine rd_tyes ?_ | with_reducible refine rd_tyL (by assumption) ?_ | with_reducible refine rd_tyT (by assumption) ?_
  | with_reducible refine iteT ?_ | with_reducible refine iteF ?_ | with_reducible refine rd_nt ?_ | with_reducible refine rd_nf ?_
  | (dsimp only)))

variable {P : Program} {w : World} {K : PySem.W.Frag} {mg : Str → Option Value} {base : Heap} {a : Ad}
def sp_runs_of (K : PySem.W.Frag) : Sp := fun vs H Q _ => ∃ (c : Addr) (cs : List Nat), vs = [.ref c] ∧ H c = some (.lst (cs.map sg)) ∧ cs.length ≤ 10000 ∧
  ∀ L H' ts, H L = none → Same H H' → H' L = some (.lst (ts.map V.ref)) → TsAt prC H' ts (runs cs) → Q (.ref L) H'
theorem ok_runs_of (T : Txt K mg a) : FnOk P w K mg base CX0 1 a.f_runs_of a.d_runs_of ["row"] (sp_runs_of K) := by
  refine T.F_runs_of.ok sc_runs_of (fun vs H Q E h => ?_) (fun cdv A outer s H vs Q E hr h => ?_)
  · obtain ⟨c, cs, rfl, _⟩ := h
    rfl
  · obtain ⟨c, cs, rfl, hc, hz, kq⟩ := h
    have nd := sc_runs_of.nd
    refine ⟨_, (pss_cons (ps_set (i := 1) nd rfl (Or.inl rfl) (pe_lst pa_nil))
      (pss_cons (ps_for PassesOwn.never rfl (kpi_list (K := K) (pv 0)) (pg_name (i := 2) nd rfl (Or.inl rfl)) (pss_one (ps_if (PW.pt (pw_and (kpt_truth (K := K) (pv 1) (by intro _; rfl)) (pw_and1 (pt_cmpR op_eq (pe_ix (kix_tup (K := K)) (pe_ix (kix_list (K := K)) (pv 1) (pe_un un_neg pe_int) (fun _ _ => rfl)) pe_int (fun _ _ => rfl)) (pv 2) (nomark _))))) (pss_one (ps_asg (pe_tup (pa_cons (pv 2) (pa_cons (pe_op op_add (pe_ix (kix_tup (K := K)) (pe_ix (kix_list (K := K)) (pv 1) (pe_un un_neg pe_int) (fun _ _ => rfl)) pe_int (fun _ _ => rfl)) pe_int) pa_nil))) (pg_sub (pv 1) (pe_un un_neg pe_int) set_list))) (pss_one (ps_expr (kbm (K := K) PySem.F.plainAttrs_list PySem.F.slot_list_append PySem.F.type_list_append mt_append (pv 1) (pa_cons (pe_tup (pa_cons (pv 2) (pa_cons pe_int pa_nil))) pa_nil)))))))
      (pss_one (ps_ret (pv 1))))), ?_⟩
    walk_at "rd"
    refine ⟨Nat.zero_le _, fun O hO => ?_⟩
    walk_at "rd"
    refine ⟨_, rfl, c, rfl, ⟨_, SqL.of ((sNew hO) _ _ hc)⟩, for_list (K := K) (a := c) (xs := cs.map sg) (fun i σ H' => ∃ x ts, σ = [some (.ref c), some (.ref O), x] ∧ Same H H' ∧ H' O = some (.lst (ts.map V.ref)) ∧ TsAt prC H' ts (runs (cs.take i)))
      ⟨none, [], rfl, sNew hO, upd_same, True.intro⟩ (fun i σ H' _ ⟨_, _, _, e, _⟩ => SqL.of (e _ _ hc)) ?_ ?_⟩
    · rintro i v σ H' hi ⟨x, ts, rfl, s1, gO, gP⟩
      rw [List.getElem?_map] at hi
      obtain ⟨n, h1, rfl⟩ := Option.map_eq_some_iff.mp hi
      have lt := gP.len
      have lr : (runs (cs.take i)).length ≤ i := by
        have := runs_len (cs.take i)
        rw [List.length_take] at this
        omega
      have hi2 : i < cs.length := (List.getElem?_eq_some_iff.mp h1).1
      walk_at "rd"
      have tl : (ts.map V.ref).length = (runs (cs.take i)).length := by rw [List.length_map, lt]
      have fresh : ∀ t : Addr, H' t = none → runs (cs.take (i + 1)) = runs (cs.take i) ++ [(n, 1)] →
          ∃ x' ts', [some (V.ref c), some (.ref O), some (sg n)] = [some (V.ref c), some (.ref O), x'] ∧ Same H (upd (upd H' t (.tup [sg n, .int 1])) O (.lst (ts.map V.ref ++ [.ref t]))) ∧ (upd (upd H' t (.tup [sg n, .int 1])) O (.lst (ts.map V.ref ++ [.ref t]))) O = some (.lst (ts'.map V.ref)) ∧ TsAt prC (upd (upd H' t (.tup [sg n, .int 1])) O (.lst (ts.map V.ref ++ [.ref t]))) ts' (runs (cs.take (i + 1))) := by
        intro t h0 e
        have a1 := sNew (o := .tup [sg n, .int 1]) h0
        have tO : t ≠ O := fun z => by rw [z, gO] at h0; cases h0
        have keep : ∀ b ys, (upd H' t (.tup [sg n, .int 1])) b = some (.tup ys) → (upd (upd H' t (.tup [sg n, .int 1])) O (.lst (ts.map V.ref ++ [.ref t]))) b = some (.tup ys) := fun b ys q => by
          rw [upd_ne fun z => by rw [z, a1 _ _ gO] at q; cases q]
          exact q
        refine ⟨_, ts ++ [t], rfl, sUpd (s1.trans a1) hO, by rw [upd_same, List.map_append]; rfl, ?_⟩
        rw [e]
        exact ((gP.mono (sTups a1)).mono keep).snoc (by rw [upd_ne tO]; exact upd_same)
      refine rd_truL gO ?_
      cases hts : runs (cs.take i) with
      | nil =>
        have e0 : ts = [] := List.length_eq_zero_iff.mp (by rw [lt, hts]; rfl)
        have ets : (ts.map V.ref).isEmpty = true := by rw [e0]; rfl
        rw [ets]
        walk_at "rd"
        refine ⟨Or.inl ⟨rfl, _, SqL.of gO⟩, ?_⟩
        walk_at "rd"
        refine ⟨by show 2 ≤ sizeLine; decide, fun t h0 => ?_⟩
        refine ⟨O, _, _, rfl, rfl, (sNew h0) _ _ gO, sz1000 (by rw [List.length_map, e0]; decide), ?_⟩
        exact fresh t h0 (by rw [take_of h1, runs_snoc, hts]; rfl)
      | cons r0 rs =>
        have ene : runs (cs.take i) ≠ [] := by rw [hts]; intro z; cases z
        obtain ⟨⟨y, k⟩, hlast⟩ := last_ne ene
        obtain ⟨t0, ht0, gt0⟩ := gP.last hlast
        have ets : (ts.map V.ref).isEmpty = false := by
          cases ts with
          | nil => rw [hts] at lt; cases lt
          | cons _ _ => rfl
        rw [ets]
        have hat : atI (ts.map V.ref) (-1) = some (.ref t0) := at_neg1 (by rw [List.length_map, List.getElem?_map, ht0]; rfl)
        walk_at "rd"
        refine rd_ixL gO hat ?_
        walk_at "rd"
        refine rd_dec (fun z => ?_) fun z => ?_
        · have zy : y = n := sg_inj z
          subst zy
          walk_at "rd"
          refine rd_ixL gO hat ?_
          walk_at "rd"
          refine ⟨by show 2 ≤ sizeLine; decide, fun t h0 => ?_⟩
          walk_at "rd"
          have a1 := sNew (o := .tup [sg y, .int ((k : Int) + 1)]) h0
          have tO : t ≠ O := fun z => by rw [z, gO] at h0; cases h0
          refine rd_setL (a1 _ _ gO) (ix_neg1 (by rw [tl, hts]; exact Nat.succ_pos _)) ?_
          have keep : ∀ b ys, (upd H' t (.tup [sg y, .int ((k : Int) + 1)])) b = some (.tup ys) → (upd (upd H' t (.tup [sg y, .int ((k : Int) + 1)])) O (.lst ((ts.map V.ref).set ((ts.map V.ref).length - 1) (.ref t)))) b = some (.tup ys) := fun b ys q => by
            rw [upd_ne fun z => by rw [z, a1 _ _ gO] at q; cases q]
            exact q
          refine ⟨_, ts.set (ts.length - 1) t, rfl, sUpd (s1.trans a1) hO, by rw [upd_same, List.length_map, List.map_set], ?_⟩
          rw [take_of h1, runs_snoc, rsn_grow hlast, ← lt]
          exact ((gP.mono (sTups a1)).mono keep).set (e := (y, k + 1)) (by rw [upd_ne tO, upd_same]; rfl) _
        · have zy : y ≠ n := fun q => z (by rw [q])
          walk_at "rd"
          refine ⟨Or.inl ⟨rfl, _, SqL.of gO⟩, ?_⟩
          walk_at "rd"
          refine ⟨by show 2 ≤ sizeLine; decide, fun t h0 => ?_⟩
          refine ⟨O, _, _, rfl, rfl, (sNew h0) _ _ gO, sz1000 (by omega), ?_⟩
          exact fresh t h0 (by rw [take_of h1, runs_snoc, rsn_new hlast zy])
    · rintro σ H' ⟨x, ts, rfl, s1, gO, gP⟩
      rw [List.length_map, List.take_length] at gP
      walk_at "rd"
      exact kq O H' ts hO s1 gO gP
def sp_front_color (K : PySem.W.Frag) : Sp := fun vs H Q _ => ∃ (l : Addr) (r : Row), vs = [.ref l] ∧ RowAt H l r ∧ Vr r ∧ ∀ H', Same H H' → Q (sg (r.headD (0, 0)).2) H'
theorem ok_front_color (T : Txt K mg a) : FnOk P w K mg base CX0 5 a.f_front_color a.d_front_color ["lineup"] (sp_front_color K) := by
  refine T.F_front_color.ok sc_front_color (fun vs H Q E h => ?_) (fun cdv A outer s H vs Q E hr h => ?_)
  · obtain ⟨l, r, rfl, _⟩ := h
    rfl
  · obtain ⟨l, r, rfl, hR, V0, kq⟩ := h
    have nd := sc_front_color.nd
    obtain ⟨ts, hl, ht⟩ := id hR
    have n1 := V0.n1
    refine ⟨_, (pss_cons (ps_expr (pe_call (ok_check_lineup T) (hr.mono (by decide)) rfl T.g_check_lineup T.k_check_lineup T.n_check_lineup .nil pass0 (pa_cons (pv 0) pa_nil)))
      (pss_one (ps_ret (pe_ix (kix_tup (K := K)) (pe_ix (kix_list (K := K)) (pv 0) pe_int (fun _ _ => rfl)) pe_int (fun _ _ => rfl))))), ?_⟩
    walk_at "rd"
    refine ⟨l, r, rfl, hR, V0, fun H1 s1 => ?_⟩
    obtain ⟨e, r', rfl⟩ : ∃ e r', r = e :: r' := by
      cases r with
      | nil => exact absurd n1 (by decide)
      | cons e r' => exact ⟨e, r', rfl⟩
    obtain ⟨t, ts', rfl⟩ : ∃ t ts', ts = t :: ts' := by
      cases ts with
      | nil => exact ht.elim
      | cons t ts' => exact ⟨t, ts', rfl⟩
    have at0 : atI ((t :: ts').map V.ref) ((0 : Nat) : Int) = some (V.ref t) := atI_nat rfl
    walk_at "rd"
    refine rd_ixL (s1 _ _ hl) at0 ?_
    walk_at "rd"
    refine rd_ixT (s1 _ _ ht.1) rfl ?_
    exact kq H1 s1
def sp_second_color (K : PySem.W.Frag) : Sp := fun vs H Q _ => ∃ (l : Addr) (r : Row), vs = [.ref l] ∧ RowAt H l r ∧ Vr r ∧ ∀ H', Same H H' → Q (oV (fo r (r.headD (0, 0)).2)) H'
theorem ok_second_color (T : Txt K mg a) : FnOk P w K mg base CX0 5 a.f_second_color a.d_second_color ["lineup"] (sp_second_color K) := by
  refine T.F_second_color.ok sc_second_color (fun vs H Q E h => ?_) (fun cdv A outer s H vs Q E hr h => ?_)
  · obtain ⟨l, r, rfl, _⟩ := h
    rfl
  · obtain ⟨l, r, rfl, hR, V0, kq⟩ := h
    have nd := sc_second_color.nd
    obtain ⟨ts, hl, ht⟩ := id hR
    have n1 := V0.n1
    refine ⟨_, (pss_cons (ps_expr (pe_call (ok_check_lineup T) (hr.mono (by decide)) rfl T.g_check_lineup T.k_check_lineup T.n_check_lineup .nil pass0 (pa_cons (pv 0) pa_nil)))
      (pss_one (ps_ret (pe_call (ok_first_other_color T) (hr.mono (by decide)) rfl T.g_first_other_color T.k_first_other_color T.n_first_other_color .nil pass0 (pa_cons (pv 0) (pa_cons (pe_ix (kix_tup (K := K)) (pe_ix (kix_list (K := K)) (pv 0) pe_int (fun _ _ => rfl)) pe_int (fun _ _ => rfl)) pa_nil)))))), ?_⟩
    walk_at "rd"
    refine ⟨l, r, rfl, hR, V0, fun H1 s1 => ?_⟩
    obtain ⟨e, r', rfl⟩ : ∃ e r', r = e :: r' := by
      cases r with
      | nil => exact absurd n1 (by decide)
      | cons e r' => exact ⟨e, r', rfl⟩
    obtain ⟨t, ts', rfl⟩ : ∃ t ts', ts = t :: ts' := by
      cases ts with
      | nil => exact ht.elim
      | cons t ts' => exact ⟨t, ts', rfl⟩
    have at0 : atI ((t :: ts').map V.ref) ((0 : Nat) : Int) = some (V.ref t) := atI_nat rfl
    walk_at "rd"
    refine rd_ixL (s1 _ _ hl) at0 ?_
    walk_at "rd"
    refine rd_ixT (s1 _ _ ht.1) rfl ?_
    walk_at "rd"
    exact ⟨l, _, e.2, rfl, hR.same s1, kq H1 s1⟩
def sp_color_runs (K : PySem.W.Frag) : Sp := fun vs H Q _ => ∃ (l : Addr) (r : Row), vs = [.ref l] ∧ RowAt H l r ∧ Vr r ∧ ∀ L H' ts, H L = none → Same H H' → H' L = some (.lst (ts.map V.ref)) → TsAt prC H' ts (runs (r.map (·.2))) → Q (.ref L) H'
theorem ok_color_runs (T : Txt K mg a) : FnOk P w K mg base CX0 5 a.f_color_runs a.d_color_runs ["lineup"] (sp_color_runs K) := by
  refine T.F_color_runs.ok sc_color_runs (fun vs H Q E h => ?_) (fun cdv A outer s H vs Q E hr h => ?_)
  · obtain ⟨l, r, rfl, _⟩ := h
    rfl
  · obtain ⟨l, r, rfl, hR, V0, kq⟩ := h
    have nd := sc_color_runs.nd
    have n2 := V0.n2
    refine ⟨_, (pss_cons (ps_expr (pe_call (ok_check_lineup T) (hr.mono (by decide)) rfl T.g_check_lineup T.k_check_lineup T.n_check_lineup .nil pass0 (pa_cons (pv 0) pa_nil)))
      (pss_one (ps_ret (pe_call (ok_runs_of T) (hr.mono (by decide)) rfl T.g_runs_of T.k_runs_of T.n_runs_of .nil pass0 (pa_cons (pe_lc (own := [("_", 1), ("color", 2)]) (g := gTup K 2 (gCons (gName 1) (gCons (gName 2) gNil))) (tt := tYes) rfl nd (kpi_list (K := K) (pv 0)) (blkOk_by (own := [("_", 1), ("color", 2)]) (N := ["lineup", "_", "color"]) (sc := defScope s_color_runs) (by decide +kernel)) (fun _ _ _ _ _ => (kpg_tup (K := K) rfl (pgs_cons (pg_name (i := 1) nd rfl (Or.inl rfl)) (pgs_cons (pg_name (i := 2) nd rfl (Or.inl rfl)) pgs_nil)))) (fun _ _ _ _ _ => pts_nil) (fun _ _ _ _ _ => (pv 2))) pa_nil))))), ?_⟩
    walk_at "rd"
    refine ⟨l, r, rfl, hR, V0, fun H1 s1 => ?_⟩
    obtain ⟨ts, hl, ht⟩ := hR.same s1
    walk_at "rd"
    refine rd_lc (rd_iList ?_)
    walk_at "rd"
    refine ⟨l, rfl, ⟨_, SqL.of hl⟩, fun D hD => lc_row (K := K) (fun e => some (sg e.2)) hD hl ht (by omega) (fun t e he hte H' s3 hte3 T F hT hF => ?_) fun H2 s2 gD => ?_⟩
    · refine rd_gtup hte3 rfl ?_
      walk_at "rd"
      refine ⟨rfl, ?_⟩
      walk_at "rd"
      exact hT _ _ rfl (Same.refl _)
    rw [fm_all (v := fun e : Nat × Nat => sg e.2)] at gD
    have e2 : r.map (fun e : Nat × Nat => sg e.2) = (r.map (·.2)).map sg := by
      rw [List.map_map]
      rfl
    rw [e2] at gD
    walk_at "rd"
    exact ⟨D, r.map (·.2), rfl, gD, by rw [List.length_map]; omega, fun L H3 us hL s3 gL gU => kq L H3 us ((s1.trans s2).free hL) ((s1.trans s2).trans s3) gL gU⟩
end K06

namespace K06
open PySem L2 LX
local macro_rules | `(tactic| walk_at "rd") => `(tactic| repeat (first
  | with_reducible refine rd_var rfl ?_ | with_reducible refine rd_c ?_ | with_reducible refine rd_op ?_ | with_reducible refine rd_un ?_ | with_reducible refine rd_I0 ?_ | with_reducible refine rd_U ?_
  | with_reducible refine rd_test ?_ | with_reducible refine rd_tB ?_ | with_reducible refine rd_bl ?_ | with_reducible refine rd_chain ?_
  | with_reducible refine rd_and ?_ | with_reducible refine rd_or ?_ | with_reducible refine rd_not ?_ | with_reducible refine rd_andV ?_ | with_reducible refine rd_orV ?_ | with_reducible refine rd_notV ?_
  | with_reducible refine rd_next ?_ | with_reducible refine rd_seq ?_ | with_reducible refine rd_drop ?_ | with_reducible refine rd_ret ?_ | with_reducible refine rd_ifS ?_ | with_reducible refine rd_asg ?_ | with_reducible refine rd_name ?_
  | with_reducible refine rd_par ?_ | with_reducible refine rd_two ?_ | with_reducible refine rd_2i ?_ | with_reducible refine rd_nil ?_ | with_reducible refine rd_cons ?_ | with_reducible refine rd_tup ?_ | with_reducible refine rd_lst ?_ | with_reducible refine rd_cb ?_ | with_reducible refine rd_call ?_
  | with_reducible refine rd_ixL (by assumption) rfl ?_ | with_reducible refine rd_ixT (by assumption) rfl ?_ | with_reducible refine rd_ixL upd_same rfl ?_ | with_reducible refine rd_sub ?_ | with_reducible refine rd_sl ?_ | with_reducible refine rd_nopart ?_ | with_reducible refine rd_part ?_ | with_reducible refine rd_int ?_
  | with_reducible refine rd_len (by assumption) ?_ | with_reducible refine rd_bm ?_ | with_reducible refine rd_bm0 ?_ | with_reducible refine rd_gcons ?_ | with_reducible refine rd_gnil ?_
  | ((with_reducible refine rd_I ?ci ?_); (case ci => first | assumption | (show (0 : Int) < _; decide) | exact Or.inl ⟨by decide, by decide⟩ | exact Or.inr ⟨by decide, by decide⟩ | exact ⟨by decide, by decide, (by decide : Int.natAbs 10 < 2 ^ 1000)⟩))
  | with_reducible refine rd_setL (by assumption) rfl ?_ | with_reducible refine rd_setL upd_same rfl ?_ | with_reducible refine rd_len upd_same ?_
  | with_reducible refine rd_2ty ?_ | with_reducible refine rd_NT ?_ | with_reducible refine rd_2s ?_ | with_reducible refine rd_lenS ?_ | with_reducible refine rd_lenT (by assumption) ?_ | ((with_reducible refine rd_typ ?ct ?_); (case ct => rfl))
  | ((with_reducible refine rd_eq ?cs ?_); (case cs => rfl)) | ((with_reducible refine rd_ne ?cs ?_); (case cs => rfl))
  | with_reducible refine rd_qtru ?_ | with_reducible refine rd_lstRg ?_ | with_reducible refine rd_rg1 ?_ | with_reducible refine rd_tyes ?_ | with_reducible refine rd_tyL (by assumption) ?_ | with_reducible refine rd_tyT (by assumption) ?_
  | with_reducible refine iteT ?_ | with_reducible refine iteF ?_ | with_reducible refine rd_nt ?_ | with_reducible refine rd_nf ?_
  | (dsimp only)))

variable {P : Program} {w : World} {K : PySem.W.Frag} {mg : Str → Option Value} {base : Heap} {a : Ad}
def sp_colors_in_order (K : PySem.W.Frag) : Sp := fun vs H Q _ => ∃ (l : Addr) (r : Row), vs = [.ref l] ∧ RowAt H l r ∧ Vr r ∧ ∀ H', Same H H' → Q (.str (txt (firstsOf (r.map (·.2))))) H'
theorem ok_colors_in_order (T : Txt K mg a) : FnOk P w K mg base CX0 5 a.f_colors_in_order a.d_colors_in_order ["lineup"] (sp_colors_in_order K) := by
  refine T.F_colors_in_order.ok sc_colors_in_order (fun vs H Q E h => ?_) (fun cdv A outer s H vs Q E hr h => ?_)
  · obtain ⟨l, r, rfl, _⟩ := h
    rfl
  · obtain ⟨l, r, rfl, hR, V0, kq⟩ := h
    have nd := sc_colors_in_order.nd
    have n2 := V0.n2
    refine ⟨_, (pss_cons (ps_expr (pe_call (ok_check_lineup T) (hr.mono (by decide)) rfl T.g_check_lineup T.k_check_lineup T.n_check_lineup .nil pass0 (pa_cons (pv 0) pa_nil)))
      (pss_cons (ps_set (i := 1) nd rfl (Or.inl rfl) pe_str)
      (pss_cons (ps_for PassesOwn.never rfl (kpi_list (K := K) (pv 0)) (kpg_tup (K := K) rfl (pgs_cons (pg_name (i := 2) nd rfl (Or.inl rfl)) (pgs_cons (pg_name (i := 3) nd rfl (Or.inl rfl)) pgs_nil))) (pss_one (ps_if (pt_cmpR knotInT (pv 3) (pv 1) rfl) (pss_one (ps_aug (i := 1) nd rfl (Or.inl rfl) (pv 3) iop_add_str)) pss_nil)))
      (pss_one (ps_ret (pv 1)))))), ?_⟩
    walk_at "rd"
    refine ⟨l, r, rfl, hR, V0, fun H1 s1 => ?_⟩
    obtain ⟨ts, hl, ht⟩ := hR.same s1
    walk_at "rd"
    refine ⟨_, rfl, l, rfl, ⟨_, SqL.of hl⟩, for_list (K := K) (a := l) (xs := ts.map V.ref) (fun i σ H' => ∃ x y, σ = [some (.ref l), some (.str (txt (firstsOf ((r.take i).map (·.2))))), x, y] ∧ H' = H1) ⟨none, none, rfl, rfl⟩ (fun i σ H' _ ⟨_, _, _, e⟩ => e ▸ SqL.of hl) ?_ ?_⟩
    · rintro i v σ H' hi ⟨x, y, rfl, rfl⟩
      rw [List.getElem?_map] at hi
      obtain ⟨t, h1, rfl⟩ := Option.map_eq_some_iff.mp hi
      obtain ⟨e, h2, h3⟩ := ht.get h1
      have sn : firstsOf ((r.take (i + 1)).map (·.2)) = if e.2 ∈ firstsOf ((r.take i).map (·.2)) then firstsOf ((r.take i).map (·.2)) else firstsOf ((r.take i).map (·.2)) ++ [e.2] := by
        rw [take_of h2, List.map_append]
        exact firsts_snoc _ _
      have ln := firsts_len ((r.take i).map (·.2))
      rw [List.length_map, List.length_take] at ln
      refine rd_gtup h3 rfl ?_
      walk_at "rd"
      refine ⟨e.2, _, rfl, rfl, ?_⟩
      walk_at "rd"
      refine rd_ndec (fun k => ?_) fun k => ?_
      · refine ⟨_, rfl, ?_⟩
        walk_at "rd"
        refine ⟨?_, ?_⟩
        · rw [txt_len]
          show _ + 1 ≤ sizeLine
          exact sz60' (by omega)
        · rw [txt_app]
          have k' : e.2 ∉ firstsOf ((r.take i).map (·.2)) := fun z => k (by simpa using z)
          rw [if_neg k'] at sn
          exact ⟨_, _, by rw [sn]; rfl, rfl⟩
      · have k' : e.2 ∈ firstsOf ((r.take i).map (·.2)) := by simpa using k
        rw [if_pos k'] at sn
        walk_at "rd"
        exact ⟨_, _, by rw [sn]; rfl, rfl⟩
    · rintro σ H' ⟨x, y, rfl, rfl⟩
      walk_at "rd"
      rw [List.length_map, ht.len, List.take_length]
      exact kq _ s1
end K06

/-! ### letters counted and found in a list; for over a text -/
namespace LX
open PySem PySem.Spec PyProof.Rows L2
def eqS (k : Str) (v : Value) : Bool := match v with
  | .str n _ => n == k
  | _ => false
theorem eqS_at {A : Around} {s : Shared} {k : Str} {t : Tok} : ∀ {us : List Value} {ys : List Str}, StrsAre us ys → ∀ y ∈ us, SeqAt.EqAt A s y (.str k t) (eqS k y)
  | _, _, .nil => fun y hy => by cases hy
  | _, _, .cons n t' h => fun y hy => by
    rcases List.mem_cons.mp hy with e | e
    · rw [e]
      exact SeqAt.EqAt.str_str n t' k t
    · exact eqS_at h y e
theorem eqS_count {k : Str} : ∀ {us : List Value} {ys : List Str}, StrsAre us ys → us.countP (eqS k) = ys.countP (· == k)
  | _, _, .nil => rfl
  | _, _, .cons n t h => by
    have ih := eqS_count (k := k) h
    rw [List.countP_cons, List.countP_cons, ih] <;> rfl
theorem one_beq (a b : Nat) : ((⟨#[a]⟩ : Str) == ⟨#[b]⟩) = (a == b) := by
  rw [Bool.eq_iff_iff, beq_iff_eq, beq_iff_eq]
  exact ⟨fun h => by injection h with h; simpa using h, fun h => by rw [h]⟩
theorem ones_count (c : Nat) : ∀ cs : List Nat, (cs.map fun c => (⟨#[c]⟩ : Str)).countP (· == ⟨#[c]⟩) = cs.count c
  | [] => rfl
  | x :: cs => by
    rw [List.map_cons, List.countP_cons, ones_count c cs, List.count_cons, one_beq]
theorem ones_V (cs : List Nat) : cs.map sg = (cs.map fun c => (⟨#[c]⟩ : Str)).map V.str := by
  rw [List.map_map]
  rfl
theorem eqV_sg (a b : Nat) : eqV (sg a) (sg b) = (a == b) := one_beq a b
theorem flat_sg (cs : List Nat) : (cs.map sg).all flatV = true := by
  rw [List.all_eq_true]
  intro x hx
  obtain ⟨c, _, rfl⟩ := List.mem_map.mp hx
  rfl
theorem any_sg (c : Nat) (cs : List Nat) : inV (sg c) (cs.map sg) = decide (c ∈ cs) := by
  unfold inV
  rw [Bool.eq_iff_iff, List.any_eq_true, decide_eq_true_iff]
  constructor
  · rintro ⟨x, hx, e⟩
    obtain ⟨d, hd, rfl⟩ := List.mem_map.mp hx
    rw [eqV_sg] at e
    rw [← eq_of_beq e]
    exact hd
  · intro h
    exact ⟨sg c, List.mem_map.mpr ⟨c, h, rfl⟩, by rw [eqV_sg]; exact beq_self_eq_true c⟩
section
variable {X : Cx}
def rCntS (K : PySem.W.Frag) : V → List V → Hp → VK → Prop := fun x xs H Q => ∃ (p : Addr) (cs : List Nat) (c : Nat), x = .ref p ∧ xs = [sg c] ∧ SqL K H p (cs.map sg) ∧ Q (.int (cs.count c : Nat)) H
theorem mt_lcountS {K : PySem.W.Frag} (hK : X.K = K := by rfl) : MtR X "list.count" (rCntS K) := by
  subst hK
  intro pins s σ H x xs v us Q I rx rxs h
  obtain ⟨p, cs, c, rfl, rfl, hs, q⟩ := h
  cases rx
  obtain ⟨u, rfl, ru⟩ := rxs.one
  obtain ⟨t, rfl⟩ := ru
  obtain ⟨its, rv, ⟨⟨cls, dd, data, sl⟩, n, ho, hc, hdn, hd⟩, hlen⟩ := I.list hs
  simp only at hc hd
  subst hc hd
  rw [ones_V] at rv
  have hi := strs_of_vals rv
  refine call_meets PySem.F.slot_list_count ⟨_, ho, rfl⟩ PySem.F.entry_list_count (PySem.F.args_list_count_2 _ _)
    (SeqAt.list_countAt p its.toArray n dd sl (.str ⟨#[c]⟩ t) (eqS ⟨#[c]⟩)) ⟨ho, fun y hy => eqS_at hi y (by simpa using hy), ?_⟩
  have ec : its.toArray.toList.countP (eqS ⟨#[c]⟩) = cs.count c := (eqS_count hi).trans (ones_count c cs)
  refine ⟨.int (cs.count c : Nat), H, I.tok _, ⟨s.toks, ?_⟩, q⟩
  show Value.int ((its.toArray.toList.countP (eqS ⟨#[c]⟩) : Nat) : Int) s.toks = Value.int ((cs.count c : Nat) : Int) s.toks
  rw [ec]
def rIdxS (K : PySem.W.Frag) : V → List V → Hp → VK → Prop := fun x xs H Q => ∃ (p : Addr) (cs : List Nat) (c j : Nat), x = .ref p ∧ xs = [sg c] ∧ SqL K H p (cs.map sg) ∧ cs.findIdx? (· == c) = some j ∧ Q (.int (j : Nat)) H
theorem mt_indexS {K : PySem.W.Frag} (hK : X.K = K := by rfl) : MtR X "list.index" (rIdxS K) := by
  subst hK
  intro pins s σ H x xs v us Q I rx rxs h
  obtain ⟨p, cs, c, j, rfl, rfl, hs, hj, q⟩ := h
  obtain ⟨h1, h2, h3⟩ := List.findIdx?_eq_some_iff_getElem.mp hj
  refine mt_index pins s σ H _ _ v us Q I rx rxs ⟨p, cs.map sg, sg c, j, sg cs[j], rfl, rfl, hs, rfl, flat_sg cs, by rw [List.getElem?_map, List.getElem?_eq_getElem h1]; rfl, by rw [eqV_sg]; exact h2, fun m z' hm hz => ?_, q⟩
  rw [List.getElem?_map, List.getElem?_eq_getElem (by omega)] at hz
  cases hz
  rw [eqV_sg]
  simpa using h3 m hm
end
section
variable {K : PySem.W.Frag} {H : Hp} {Q : VK}
theorem rd_inC {p : Addr} {cs : List Nat} {c : Nat} (h : H p = some (.lst (cs.map sg))) (q : Q (.bl (decide (c ∈ cs))) H) : rIn K false (sg c) (.ref p) H Q :=
  ⟨p, _, rfl, Or.inl (SqL.of h), rfl, flat_sg cs, by
    rw [any_sg, if_neg Bool.false_ne_true]
    exact q⟩
/-- for c in a text -/
theorem for_txt {z : Str} {g : TG} {tb : TS} {D : Ends} {σ : L2.St} {H : Hp} (Pv : Nat → L2.St → Hp → Prop) (h0 : Pv 0 σ H)
    (hs : ∀ i c σ H, z.cps[i]? = some c → Pv i σ H → g (sg c) σ H fun σ2 H2 => tb { D with nx := Pv (i + 1), ct := Pv (i + 1), bk := D.nx } σ2 H2) (hd : ∀ σ H, Pv z.cps.size σ H → D.nx σ H) :
    ∃ W : Nat → Nat → L2.St → Hp → Prop, (∃ m, W 0 m σ H) ∧ ∀ i m σ H, W i m σ H →
      ((Its z).stop i H ∧ D.nx σ H) ∨ ((Its z).go i H ∧ ∃ N : L2.St → Hp → Prop, (∀ σ' H', N σ' H' → ∃ m', m' < m ∧ W (i + 1) m' σ' H') ∧ ∀ x H', (Its z).yld i H x H' → g x σ H' fun σ2 H2 => tb { D with nx := N, ct := N, bk := D.nx } σ2 H2) :=
  for_it walk_str Pv h0 (fun _ _ _ _ _ => True.intro) (fun i x σ H H' _ p y => by
    obtain ⟨rfl, c, hc, rfl⟩ := y
    exact hs i c σ H' hc p) hd
end
end LX

namespace LX
open PySem L2
def oI : Option Nat → V
  | none => .non
  | some j => .int (j : Nat)
theorem fi_some {cs : List Nat} {c i : Nat} (h : cs[i]? = some c) (n : ∀ m, m < i → cs[m]? ≠ some c) : cs.findIdx? (· == c) = some i := by
  obtain ⟨h1, h2⟩ := List.getElem?_eq_some_iff.mp h
  refine List.findIdx?_eq_some_iff_getElem.mpr ⟨h1, by rw [h2]; exact beq_self_eq_true c, fun m hm => ?_⟩
  have := n m hm
  rw [List.getElem?_eq_getElem (by omega)] at this
  simpa using this
theorem fi_none {cs : List Nat} {c : Nat} (n : ∀ m, m < cs.length → cs[m]? ≠ some c) : cs.findIdx? (· == c) = none := by
  rw [List.findIdx?_eq_none_iff]
  intro x hx
  obtain ⟨m, hm, rfl⟩ := List.mem_iff_getElem.mp hx
  have := n m hm
  rw [List.getElem?_eq_getElem hm] at this
  simpa using this
theorem fi_mem {cs : List Nat} {c : Nat} (h : c ∈ cs) : ∃ j, cs.findIdx? (· == c) = some j ∧ j < cs.length := by
  cases e : cs.findIdx? (· == c) with
  | none =>
    rw [List.findIdx?_eq_none_iff] at e
    have := e c h
    simp at this
  | some j => exact ⟨j, rfl, (List.findIdx?_eq_some_iff_getElem.mp e).1⟩
theorem fi_not {cs : List Nat} {c : Nat} (h : c ∉ cs) : cs.findIdx? (· == c) = none := by
  rw [List.findIdx?_eq_none_iff]
  intro x hx
  simp
  intro e
  exact h (e ▸ hx)
/-- the letters below x -/
def below (cs : List Nat) (x : Nat) : Nat := cs.countP (fun c => decide (c < x))
theorem below_succ (cs : List Nat) (x : Nat) : below cs (x + 1) = below cs x + cs.count x := by
  unfold below
  induction cs with
  | nil => rfl
  | cons c cs ih =>
    rw [List.countP_cons, List.countP_cons, List.count_cons, ih]
    by_cases h : c = x
    · subst h
      simp
      omega
    · have e : (c == x) = false := by simpa using h
      rw [e]
      by_cases h2 : c < x
      · rw [if_pos (by simp; omega), if_pos (by simpa using h2)]
        simp
        omega
      · rw [if_neg (by simp; omega), if_neg (by simpa using h2)]
        simp
theorem below_all {cs : List Nat} {x : Nat} (h : ∀ c ∈ cs, c < x) : below cs x = cs.length := by
  unfold below
  rw [List.countP_eq_length]
  intro c hc
  simpa using h c hc
theorem below_none {cs : List Nat} {x : Nat} (h : ∀ c ∈ cs, x ≤ c) : below cs x = 0 := by
  unfold below
  rw [List.countP_eq_zero]
  intro c hc
  have := h c hc
  simp
  omega
theorem rd_forEn {K : PySem.W.Frag} {σ : L2.St} {H : Hp} {ta : TA} {g : TG} {tb : TS} {D : Ends} (M : Addr → List V → Hp → Prop) (h1 : ∀ R : List V → Hp → Prop, (∀ b xs H1, M b xs H1 → R [.ref b] H1) → ta σ H R)
    (h2 : ∀ b xs H1, M b xs H1 → SqL K H1 b xs ∧ ∃ W : Nat → Nat → L2.St → Hp → Prop, (∃ m, W 0 m σ H1) ∧ ∀ i m σ H, W i m σ H →
      ((Ite K b).stop i H ∧ D.nx σ H) ∨ ((Ite K b).go i H ∧ ∃ N : L2.St → Hp → Prop, (∀ σ' H', N σ' H' → ∃ m', m' < m ∧ W (i + 1) m' σ' H') ∧ ∀ x H', (Ite K b).yld i H x H' → g x σ H' fun σ2 H2 => tb { D with nx := N, ct := N, bk := D.nx } σ2 H2)) :
    tFor (iEnum K ta) g tb D σ H := h1 _ fun b xs H1 m => ⟨b, xs, rfl, (h2 b xs H1 m).1, (h2 b xs H1 m).2⟩
theorem rd_teM2 {te : TE} {σ : L2.St} {H : Hp} {Q : VK} (M : VK) (h1 : ∀ R : VK, (∀ x H1, M x H1 → R x H1) → te σ H R) (h2 : ∀ x H1, M x H1 → Q x H1) : te σ H Q := h1 _ h2
end LX
namespace K06
open PySem L2 LX
local macro_rules | `(tactic| walk_at "rd") => `(tactic| repeat (first
  | with_reducible refine rd_var rfl ?_ | with_reducible refine rd_c ?_ | with_reducible refine rd_op ?_ | with_reducible refine rd_un ?_ | with_reducible refine rd_I0 ?_ | with_reducible refine rd_U ?_
  | with_reducible refine rd_test ?_ | with_reducible refine rd_tB ?_ | with_reducible refine rd_bl ?_ | with_reducible refine rd_chain ?_
  | with_reducible refine rd_and ?_ | with_reducible refine rd_or ?_ | with_reducible refine rd_not ?_ | with_reducible refine rd_andV ?_ | with_reducible refine rd_orV ?_ | with_reducible refine rd_notV ?_
  | with_reducible refine rd_next ?_ | with_reducible refine rd_seq ?_ | with_reducible refine rd_drop ?_ | with_reducible refine rd_ret ?_ | with_reducible refine rd_ifS ?_ | with_reducible refine rd_asg ?_ | with_reducible refine rd_name ?_
  | with_reducible refine rd_par ?_ | with_reducible refine rd_two ?_ | with_reducible refine rd_2i ?_ | with_reducible refine rd_nil ?_ | with_reducible refine rd_cons ?_ | with_reducible refine rd_tup ?_ | with_reducible refine rd_lst ?_ | with_reducible refine rd_cb ?_ | with_reducible refine rd_call ?_
  | with_reducible refine rd_ixL (by assumption) rfl ?_ | with_reducible refine rd_ixT (by assumption) rfl ?_ | with_reducible refine rd_ixL upd_same rfl ?_ | with_reducible refine rd_sub ?_ | with_reducible refine rd_sl ?_ | with_reducible refine rd_nopart ?_ | with_reducible refine rd_part ?_ | with_reducible refine rd_int ?_
  | with_reducible refine rd_len (by assumption) ?_ | with_reducible refine rd_bm ?_ | with_reducible refine rd_bm0 ?_ | with_reducible refine rd_gcons ?_ | with_reducible refine rd_gnil ?_
  | ((with_reducible refine rd_I ?ci ?_); (case ci => first | assumption | (show (0 : Int) < _; decide) | exact Or.inl ⟨by decide, by decide⟩ | exact Or.inr ⟨by decide, by decide⟩ | exact ⟨by decide, by decide, (by decide : Int.natAbs 10 < 2 ^ 1000)⟩))
  | with_reducible refine rd_setL (by assumption) rfl ?_ | with_reducible refine rd_setL upd_same rfl ?_ | with_reducible refine rd_len upd_same ?_
  | with_reducible refine rd_2ty ?_ | with_reducible refine rd_NT ?_ | with_reducible refine rd_2s ?_ | with_reducible refine rd_lenS ?_ | with_reducible refine rd_lenT (by assumption) ?_ | ((with_reducible refine rd_typ ?ct ?_); (case ct => rfl))
  | ((with_reducible refine rd_eq ?cs ?_); (case cs => rfl)) | ((with_reducible refine rd_ne ?cs ?_); (case cs => rfl))
  | with_reducible refine rd_qtru ?_ | with_reducible refine rd_lstRg ?_ | with_reducible refine rd_rg1 ?_ | with_reducible refine rd_tyes ?_ | with_reducible refine rd_tyL (by assumption) ?_ | with_reducible refine rd_tyT (by assumption) ?_
  | with_reducible refine iteT ?_ | with_reducible refine iteF ?_ | with_reducible refine rd_nt ?_ | with_reducible refine rd_nf ?_
  | (dsimp only)))

variable {P : Program} {w : World} {K : PySem.W.Frag} {mg : Str → Option Value} {base : Heap} {a : Ad}
def sp_count_of (K : PySem.W.Frag) : Sp := fun vs H Q _ => ∃ (l : Addr) (r : Row) (c : Nat), vs = [.ref l, sg c] ∧ RowAt H l r ∧ Vr r ∧ 97 ≤ c ∧ c ≤ 122 ∧ ∀ H', Same H H' → Q (.int ((r.map (·.2)).count c : Nat)) H'
theorem ok_count_of (T : Txt K mg a) : FnOk P w K mg base CX0 5 a.f_count_of a.d_count_of ["lineup", "color"] (sp_count_of K) := by
  refine T.F_count_of.ok sc_count_of (fun vs H Q E h => ?_) (fun cdv A outer s H vs Q E hr h => ?_)
  · obtain ⟨l, r, c, rfl, _⟩ := h
    rfl
  · obtain ⟨l, r, c, rfl, hR, V0, c0, c1, kq⟩ := h
    have nd := sc_count_of.nd
    have n2 := V0.n2
    refine ⟨_, (pss_cons (ps_expr (pe_call (ok_check_lineup T) (hr.mono (by decide)) rfl T.g_check_lineup T.k_check_lineup T.n_check_lineup .nil pass0 (pa_cons (pv 0) pa_nil)))
      (pss_cons (ps_expr (pe_call (ok_check_color T) (hr.mono (by decide)) rfl T.g_check_color T.k_check_color T.n_check_color .nil pass0 (pa_cons (pv 1) pa_nil)))
      (pss_one (ps_ret (pe_callB (klen (K := K)) (by rfl) T.b_len (by decide +kernel) (pa_cons (pe_lc (own := [("person", 2), ("worn", 3)]) (g := gTup K 2 (gCons (gName 2) (gCons (gName 3) gNil))) rfl nd (kpi_list (K := K) (pv 0)) (blkOk_by (own := [("person", 2), ("worn", 3)]) (N := ["lineup", "color", "person", "worn"]) (sc := defScope s_count_of) (by decide +kernel)) (fun _ _ _ _ _ => (kpg_tup (K := K) rfl (pgs_cons (pg_name (i := 2) nd rfl (Or.inl rfl)) (pgs_cons (pg_name (i := 3) nd rfl (Or.inl rfl)) pgs_nil)))) (fun _ _ _ _ _ => pts_one (pt_cmpR op_eq (pv 3) (pv 1) (nomark _))) (fun _ _ _ _ _ => (pv 2))) pa_nil)))))), ?_⟩
    walk_at "rd"
    refine ⟨l, r, rfl, hR, V0, fun H1 s1 => ?_⟩
    walk_at "rd"
    refine ⟨c, rfl, c0, c1, ?_⟩
    obtain ⟨ts, hl, ht⟩ := hR.same s1
    walk_at "rd"
    refine rd_lc (rd_iList ?_)
    walk_at "rd"
    refine ⟨l, rfl, ⟨_, SqL.of hl⟩, fun D hD => lc_row (K := K) (fun e => if (e.2 == c) = true then some (vN e.1) else none) hD hl ht (by omega) (fun t e he hte H' s3 hte3 T F hT hF => ?_) fun H2 s2 gD => ?_⟩
    · refine rd_gtup hte3 rfl ?_
      walk_at "rd"
      refine ⟨rfl, ?_⟩
      walk_at "rd"
      by_cases k : e.2 = c
      · rw [decide_eq_true (by rw [k])]
        walk_at "rd"
        exact hT _ _ (if_pos (by simpa using k)) (Same.refl _)
      · rw [decide_eq_false fun z => k (sg_inj z)]
        walk_at "rd"
        exact hF _ (if_neg (by simpa using k)) (Same.refl _)
    rw [fm_if (p := fun e : Nat × Nat => e.2 == c) (v := fun e : Nat × Nat => vN e.1)] at gD
    have el : ((r.filter fun e => e.2 == c).map fun e => vN e.1).length = (r.map (·.2)).count c := by
      rw [List.length_map, List.count_eq_countP, List.countP_map, List.countP_eq_length_filter]
      rfl
    walk_at "rd"
    rw [el]
    exact kq _ (s1.trans s2)
def sp_people_ahead_of (K : PySem.W.Frag) : Sp := fun vs H Q _ => ∃ (l : Addr) (r : Row) (c : Nat), vs = [.ref l, sg c] ∧ RowAt H l r ∧ Vr r ∧ 97 ≤ c ∧ c ≤ 122 ∧ ∀ H', Same H H' → Q (oI ((r.map (·.2)).findIdx? (· == c))) H'
theorem ok_people_ahead_of (T : Txt K mg a) : FnOk P w K mg base CX0 5 a.f_people_ahead_of a.d_people_ahead_of ["lineup", "color"] (sp_people_ahead_of K) := by
  refine T.F_people_ahead_of.ok sc_people_ahead_of (fun vs H Q E h => ?_) (fun cdv A outer s H vs Q E hr h => ?_)
  · obtain ⟨l, r, c, rfl, _⟩ := h
    rfl
  · obtain ⟨l, r, c, rfl, hR, V0, c0, c1, kq⟩ := h
    have nd := sc_people_ahead_of.nd
    have n2 := V0.n2
    refine ⟨_, (pss_cons (ps_expr (pe_call (ok_check_lineup T) (hr.mono (by decide)) rfl T.g_check_lineup T.k_check_lineup T.n_check_lineup .nil pass0 (pa_cons (pv 0) pa_nil)))
      (pss_cons (ps_expr (pe_call (ok_check_color T) (hr.mono (by decide)) rfl T.g_check_color T.k_check_color T.n_check_color .nil pass0 (pa_cons (pv 1) pa_nil)))
      (pss_cons (ps_for PassesOwn.never rfl (pi_enum rfl T.b_enumerate (pa_cons (pv 0) pa_nil)) (kpg_tup (K := K) rfl (pgs_cons (pg_name (i := 2) nd rfl (Or.inl rfl)) (pgs_cons (kpg_tup (K := K) rfl (pgs_cons (pg_name (i := 3) nd rfl (Or.inl rfl)) (pgs_cons (pg_name (i := 4) nd rfl (Or.inl rfl)) pgs_nil))) pgs_nil))) (pss_one (ps_if (pt_cmpR op_eq (pv 4) (pv 1) (nomark _)) (pss_one (ps_ret (pv 2))) pss_nil)))
      (pss_one (ps_ret pe_non))))), ?_⟩
    walk_at "rd"
    refine ⟨l, r, rfl, hR, V0, fun H1 s1 => ?_⟩
    walk_at "rd"
    refine ⟨c, rfl, c0, c1, ?_⟩
    obtain ⟨ts, hl, ht⟩ := hR.same s1
    have rl := ht.len
    walk_at "rd"
    refine rd_forEn (fun b xs H2 => b = l ∧ xs = ts.map V.ref ∧ H1 = H2) (fun R q => ?_) ?_
    · walk_at "rd"
      exact q _ _ _ ⟨rfl, rfl, rfl⟩
    rintro _ _ _ ⟨rfl, rfl, rfl⟩
    refine ⟨SqL.of hl, for_enum (K := K) (xs := ts.map V.ref) (fun i σ H' => ∃ x2 x3 x4, σ = [some (.ref _), some (sg c), x2, x3, x4] ∧ Same H1 H' ∧ ∀ m, m < i → (r.map (·.2))[m]? ≠ some c) ⟨none, none, none, rfl, Same.refl _, fun m hm => absurd hm (Nat.not_lt_zero m)⟩ (fun i σ H' _ ⟨_, _, _, _, e, _⟩ => SqL.of (e _ _ hl)) ?_ ?_⟩
    · rintro i x T σ H' hi ⟨x2, x3, x4, rfl, s2, no⟩ hT
      rw [List.getElem?_map] at hi
      obtain ⟨t, hti, rfl⟩ := Option.map_eq_some_iff.mp hi
      obtain ⟨e, he, gt⟩ := ht.get hti
      have sT := sNew (o := .tup [.int (i : Nat), .ref t]) hT
      refine rd_gtup upd_same rfl ?_
      have gt2 := sT _ _ (s2 _ _ gt)
      have s3 := s2.trans sT
      generalize upd H' T (.tup [.int (i : Nat), .ref t]) = H2 at gt2 s3
      walk_at "rd"
      refine rd_gtup gt2 rfl ?_
      walk_at "rd"
      have hri : (r.map (·.2))[i]? = some e.2 := by rw [List.getElem?_map, he]; rfl
      refine rd_dec (fun z => ?_) fun z => ?_
      · have ec : e.2 = c := sg_inj z
        walk_at "rd"
        have := kq H2 (s1.trans s3)
        rw [fi_some (by rw [hri, ec]) no] at this
        exact this
      · walk_at "rd"
        refine ⟨_, _, _, rfl, s3, fun m hm => ?_⟩
        by_cases hmi : m = i
        · subst hmi
          rw [hri]
          intro q
          cases q
          exact z rfl
        · exact no m (by omega)
    · rintro σ H' ⟨x2, x3, x4, rfl, s2, no⟩
      walk_at "rd"
      have := kq H' (s1.trans s2)
      rw [fi_none (by rw [List.length_map]; intro m hm; exact no m (by rw [List.length_map, rl]; exact hm))] at this
      exact this
end K06

/-! ### sorted(text) -/
namespace LX
open PySem PySem.Spec PyProof.Rows L2
section
variable {P : Program} {w : World} {A : Around} {E : Value → Shared → Prop} {s : Shared}
theorem sortStr {x : Str} {t : Tok} {Q : Value → Shared → Prop} (few : x.cps.size ≤ 4000) (hh : A.handled = none)
    (hQ : ∀ (s2 : Shared) (h1 : Heap) (p : Addr) (out : Array Value) (c : Nat) (ys : List Str), (∀ b o, s.heap.get? b = some o → s2.heap.get? b = some o) → s2.gens = s.gens → s2.os = s.os → (∀ b o, s.heap.get? b = some o → h1.get? b = some o) → h1.objs.size ≤ p → s2.heap.get? p = some (seqObj "list" out c) → StrsAre out.toList ys →
      sortedS ys = true → ys.Perm (x.cps.toList.map fun c => (⟨#[c]⟩ : Str)) → Q (.ref p) s2) :
    wpAny (model P w) A (call (.builtin "sorted") [.str x t]) Q E s := by
  have lim : x.cps.size ≤ sizeLine := by rw [sizeLine_eq]; omega
  refine Calls.call_function_entry kind_sorted plain_sorted entry_sorted (args_sorted1 _) ?_
  unfold Builtin.«sorted»
  refine wpAny_bind (m := checkCount "sorted" 1 1 _) (wpAny_pure (wpAny_bind (PySem.wpAny_collect_str (A := A.in1) hh x t (hn := lim) fun s1 acc k1 g1 d1 o1 it => ?_)))
  have vv : Vals (x.cps.toList.map fun c => V.str ⟨#[c]⟩) acc.toList := by
    refine vals_strs_of _ _ (by rw [Array.length_toList, Array.length_toList]; exact it.1) fun j u hu => ?_
    obtain ⟨c, t', e1, e2⟩ := it.2 j u (by simpa using hu)
    exact ⟨c, t', by simpa using e1, e2⟩
  have txt : StrsAre acc.toList (x.cps.toList.map fun c => (⟨#[c]⟩ : Str)) := strs_of_vals (by rw [List.map_map]; exact vv)
  have few2 : acc.toList.length ≤ sizeLine := by rw [Array.length_toList, it.1]; exact lim
  have at0 : (s1.heap.push (seqObj "list" acc.toList.toArray 0)).get? s1.heap.objs.size = some (seqObj "list" acc.toList.toArray 0) := Heap.get?_push_size _ rfl
  refine wpAny_bind (wpAny_newList (wpAny_bind (wpAny_holding (wpAny_call_entry slot_list_sort ⟨_, at0, rfl⟩ entry_list_sort
    (list_sort_treeKAny PyProof.Rows.strKind_oneLt at0 txt.keysOf (fun v1 v2 rest e => keyKind_strs (by rw [← e]; exact txt)) few2 fun st p1 p2 => ⟨_, rfl, ?_⟩) (args_list_sort _)))) few2)
  obtain ⟨ys, y1, y2, y3⟩ := sorted_out_str txt p1 p2
  obtain ⟨c, hc⟩ := sortedHeap_at (vs := acc.toList) (out := (arrOf st).map (·.2)) at0
  refine wpAny_pure ⟨_, rfl, hQ _ s1.heap s1.heap.objs.size _ c ys (fun b u e => ?_) g1 o1 k1 (Nat.le_refl _) hc y1 y3 y2⟩
  have q := k1 b u e
  have lt := Heap.lt_size q
  exact (sortedHeap_old (Nat.ne_of_lt lt) (by rw [size_push']; exact Nat.lt_succ_of_lt lt)).trans (Heap.get?_push_of_some _ q)
end
section
variable {X : Cx}
def rSortX : List V → Hp → VK → Prop := fun xs H Q => ∃ z : Str, xs = [.str z] ∧ z.cps.size ≤ 4000 ∧
  ∀ p ys, H p = none → sortedS ys = true → ys.Perm (z.cps.toList.map fun c => (⟨#[c]⟩ : Str)) → Q (.ref p) (upd H p (.lst (ys.map V.str)))
theorem ksortX (hc : X.calm = true) : CallR X (.builtin "sorted") rSortX := by
  intro pins s σ H xs us Q I r h
  obtain ⟨z, rfl, few, q⟩ := h
  obtain ⟨u, rfl, t, rfl⟩ := vals1 r
  refine sortStr few (I.ok.hd hc) fun s2 h1 p out c ys k2 g2 o2 k1 hp at2 y1 y3 pm => ?_
  have hn : H p = none := HOk.fresh (fun b u e => (I.hok b u e).stay (fun c v _ q => k1 c v q) (fun c q => q) fun c xs q => q : HOk X.prog X.w H h1) hp
  have hs : s.heap.get? p = none := by
    cases e : s.heap.get? p with
    | none => rfl
    | some o => exact absurd (Heap.lt_size (k1 _ _ e)) (Nat.not_lt.mpr hp)
  have sz : (ys.map V.str).length ≤ sizeLine := by
    rw [List.length_map, pm.length_eq, List.length_map, Array.length_toList, sizeLine_eq]
    omega
  exact ⟨.ref p, _, I.call' (ch := []) o2 (Un.laidN k2 hs hn) (I.hok.laidN (o := .lst (ys.map V.str)) k2 hn ⟨sz, out.toList, c, vals_of_strs y1, at2⟩) (by rw [g2]; exact I.bare) (fun _ z => nomatch z), rfl, q p ys hn y3 pm⟩
end
end LX

/-! ### list(zip(a text, a list)): over any two iterators that are drawn from -/
namespace LX
open PySem PySem.Spec PyProof.Rows L2
section
variable {prog : Program} {w : World} {A : Around} {E : Value → Shared → Prop} {s : Shared} {z TI TO T i1 i2 : Addr} {f : Bool} {oT : Obj} {fp1 fp2 : List Addr} {n1 n2 i : Nat} {P1 P2 : Nat → Value → Prop} {St1 St2 : Nat → Heap → Prop}
/-- a turn of a zip whose last tuple is held elsewhere -/
theorem heldItem {Q : Value → Shared → Prop} (S : ZipSep2 z TI TO i1 i2 fp1 fp2) (D1 : Draws prog w A i1 fp1 n1 P1 St1) (D2 : Draws prog w A i2 fp2 n2 P2 St2)
    (hz : IsZipHeld s.heap z TI TO T f) (hT : s.heap.get? T = some oT) (hTI : IsPair s.heap TI (.ref i1) (.ref i2)) (st1 : St1 i s.heap) (st2 : St2 i s.heap) (lt1 : i < n1) (lt2 : i < n2)
    (hQ : ∀ x1 x2 h' tk, P1 i x1 → P2 i x2 → IsZipHeld h' z TI TO T true → St1 (i + 1) h' → St2 (i + 1) h' → IsPair h' s.heap.objs.size x1 x2 → h'.objs.size = s.heap.objs.size + 1 →
      (∀ c o, c ≠ z → c ≠ i1 → c ≠ i2 → s.heap.get? c = some o → h'.get? c = some o) → Q (.ref s.heap.objs.size) { s with heap := h', toks := tk }) :
    wpAny (model prog w) A (Builtin.«zip.__next__» ⟨[.ref z], []⟩) (fun fin s' => ∃ v, fin = .done (.ret v) ∧ Q v s') E s := by
  obtain ⟨hp, g, d, tk0, os⟩ := s
  show wpAny _ _ (field (.ref z) 2 >>= _) _ _ _
  refine wpAny_bind (wpAny_field hz rfl (x := .bool false) rfl ?_)
  show wpAny _ _ (field (.ref z) 3 >>= _) _ _ _
  refine wpAny_bind (wpAny_field hz rfl (x := .ref TI) rfl (wpAny_bind (wpAny_seqItems hTI rfl ?_)))
  show wpAny _ _ (Builtin.SmallTypes.ownedTupleIsFree (.ref z) >>= _) _ _ _
  refine wpAny_bind (wpAny_tupleHeld_zip hz hT fun g0 hz0 c0 => ?_)
  replace c0 : Heap.SameBut z hp g0 := c0
  simp only [Bool.false_eq_true, if_false]
  refine wpAny_bind ?_
  rw [← Array.forIn_toList]
  simp only [List.forIn_cons, List.forIn_nil]
  refine wpAny_bind (wpAny_bind (wpAny_holding ?_))
  show wpAny _ _ (Builtin.SmallTypes.nextOf (.ref i1) >>= _) _ _ ⟨g0, g, d, tk0, os⟩
  refine wpAny_bind (D1.item i _ _ _ lt1 (D1.over st1 c0 S.zf1) fun x1 g1 tk1 hx1 u1 c1 => wpAny_pure (wpAny_pure ?_))
  replace c1 : Heap.SameBut i1 g0 g1 := c1
  refine wpAny_bind (wpAny_bind (wpAny_holding ?_))
  show wpAny _ _ (Builtin.SmallTypes.nextOf (.ref i2) >>= _) _ _ ⟨g1, g, d, tk1, os⟩
  refine wpAny_bind (D2.item i _ _ _ lt2 (D2.over (D2.over st2 c0 S.zf2) c1 S.sep1_2) fun x2 g2 tk2 hx2 u2 c2 => wpAny_pure (wpAny_pure (wpAny_pure ?_)))
  replace c2 : Heap.SameBut i2 g1 g2 := c2
  show wpAny _ _ (newTuple [x1, x2] >>= _) _ _ ⟨g2, g, d, tk2, os⟩
  refine wpAny_bind (wpAny_newTuple ?_)
  have sz : g2.objs.size = hp.objs.size := by rw [c2.1, c1.1, c0.1]
  have hz2 : IsZipHeld g2 z TI TO T true := c2.extBut _ _ S.zi2 (c1.extBut _ _ S.zi1 hz0)
  have keep : ∀ c o, c ≠ z → c ≠ i1 → c ≠ i2 → hp.get? c = some o → g2.get? c = some o := fun c o a1 a2 a3 e => c2.extBut _ _ a3 (c1.extBut _ _ a2 (c0.extBut _ _ a1 e))
  refine wpAny_pure ⟨_, rfl, ?_⟩
  show Q (.ref g2.objs.size) ⟨g2.push { cls := .type "tuple", data := .seq #[x1, x2] }, g, d, tk2, os⟩
  have hp2 : IsPair (g2.push { cls := .type "tuple", data := .seq #[x1, x2] }) g2.objs.size x1 x2 := Heap.get?_push_size _ rfl
  have sz4 : (g2.push { cls := .type "tuple", data := .seq #[x1, x2] }).objs.size = g2.objs.size + 1 := Heap.size_push ..
  rw [sz] at hp2 sz4 ⊢
  exact hQ x1 x2 _ tk2 hx1 hx2 (Heap.get?_push_of_some _ hz2) (D1.frame _ _ _ (D1.over u1 c2 S.sep2_1) fun b _ o e => Heap.get?_push_of_some _ e) (D2.frame _ _ _ u2 fun b _ o e => Heap.get?_push_of_some _ e) hp2 sz4
    fun c o a1 a2 a3 e => Heap.get?_push_of_some _ (keep c o a1 a2 a3 e)
/-- its end, the first iterator's -/
theorem heldEnd {Q : Fin → Shared → Prop} (S : ZipSep2 z TI TO i1 i2 fp1 fp2) (D1 : Draws prog w A i1 fp1 n1 P1 St1)
    (hz : IsZipHeld s.heap z TI TO T f) (hT : s.heap.get? T = some oT) (hTI : IsPair s.heap TI (.ref i1) (.ref i2)) (st1 : St1 n1 s.heap)
    (hE : ∀ h' e, (∀ c o, c ≠ z → c ≠ i1 → s.heap.get? c = some o → h'.get? c = some o) → (∃ o, h'.get? e = some o ∧ o.cls = .type "StopIteration") → E (.ref e) { s with heap := h' }) :
    wpAny (model prog w) A (Builtin.«zip.__next__» ⟨[.ref z], []⟩) Q E s := by
  obtain ⟨hp, g, d, tk0, os⟩ := s
  show wpAny _ _ (field (.ref z) 2 >>= _) _ _ _
  refine wpAny_bind (wpAny_field hz rfl (x := .bool false) rfl ?_)
  show wpAny _ _ (field (.ref z) 3 >>= _) _ _ _
  refine wpAny_bind (wpAny_field hz rfl (x := .ref TI) rfl (wpAny_bind (wpAny_seqItems hTI rfl ?_)))
  show wpAny _ _ (Builtin.SmallTypes.ownedTupleIsFree (.ref z) >>= _) _ _ _
  refine wpAny_bind (wpAny_tupleHeld_zip hz hT fun g0 hz0 c0 => ?_)
  replace c0 : Heap.SameBut z hp g0 := c0
  simp only [Bool.false_eq_true, if_false]
  refine wpAny_bind ?_
  rw [← Array.forIn_toList]
  simp only [List.forIn_cons, List.forIn_nil]
  refine wpAny_bind (wpAny_bind (wpAny_holding ?_))
  show wpAny _ _ (Builtin.SmallTypes.nextOf (.ref i1) >>= _) _ _ ⟨g0, g, d, tk0, os⟩
  refine wpAny_bind (D1.done ⟨g0, g, d, tk0, os⟩ _ _ (D1.over st1 c0 S.zf1) fun q e hq he => ?_)
  exact hE q e (fun c o a1 a2 x => hq _ _ a2 (c0.extBut _ _ a1 x)) he
theorem nextHeldItem {Q : Option Value → Shared → Prop} (S : ZipSep2 z TI TO i1 i2 fp1 fp2) (D1 : Draws prog w A.in1 i1 fp1 n1 P1 St1) (D2 : Draws prog w A.in1 i2 fp2 n2 P2 St2)
    (hz : IsZipHeld s.heap z TI TO T f) (hT : s.heap.get? T = some oT) (hTI : IsPair s.heap TI (.ref i1) (.ref i2)) (st1 : St1 i s.heap) (st2 : St2 i s.heap) (lt1 : i < n1) (lt2 : i < n2)
    (hQ : ∀ x1 x2 h' tk, P1 i x1 → P2 i x2 → IsZipHeld h' z TI TO T true → St1 (i + 1) h' → St2 (i + 1) h' → IsPair h' s.heap.objs.size x1 x2 → h'.objs.size = s.heap.objs.size + 1 →
      (∀ c o, c ≠ z → c ≠ i1 → c ≠ i2 → s.heap.get? c = some o → h'.get? c = some o) → Q (some (.ref s.heap.objs.size)) { s with heap := h', toks := tk }) :
    wpAny (model prog w) A (pyNext (.ref z)) Q E s := by
  have ty : s.TypeIs (.ref z) "zip" := ⟨_, hz, rfl⟩
  unfold pyNext
  exact wpAny_bind (wpAny_attempt (wpAny_callSpecial?_slot (name := Str.ofString "__next__") ty PySem.F.slot_zip_next
    (wpAny_call_entry PySem.F.slot_zip_next ty PySem.F.entry_zip_next (heldItem S D1 D2 hz hT hTI st1 st2 lt1 lt2 fun x1 x2 h' tk a1 a2 a3 a4 a5 a6 a7 a8 => wpAny_pure (hQ x1 x2 h' tk a1 a2 a3 a4 a5 a6 a7 a8)) (PySem.F.args_zip_next_1 _))))
theorem nextHeldEnd {Q : Option Value → Shared → Prop} (S : ZipSep2 z TI TO i1 i2 fp1 fp2) (D1 : Draws prog w A.in1 i1 fp1 n1 P1 St1)
    (hz : IsZipHeld s.heap z TI TO T f) (hT : s.heap.get? T = some oT) (hTI : IsPair s.heap TI (.ref i1) (.ref i2)) (st1 : St1 n1 s.heap)
    (hQ : ∀ h', (∀ c o, c ≠ z → c ≠ i1 → s.heap.get? c = some o → h'.get? c = some o) → Q none { s with heap := h' }) : wpAny (model prog w) A (pyNext (.ref z)) Q E s := by
  have ty : s.TypeIs (.ref z) "zip" := ⟨_, hz, rfl⟩
  unfold pyNext
  refine wpAny_bind (wpAny_attempt (wpAny_callSpecial?_slot (name := Str.ofString "__next__") ty PySem.F.slot_zip_next
    (wpAny_call_entry PySem.F.slot_zip_next ty PySem.F.entry_zip_next (heldEnd S D1 hz hT hTI st1 fun h' e hk he => ?_) (PySem.F.args_zip_next_1 _))))
  obtain ⟨o, ho, hc⟩ := he
  exact wpAny_bind (wpAny_isInstance (T := "StopIteration") (b := true) ⟨o, ho, hc⟩ isSubtype_stop (wpAny_pure (hQ _ hk)))
end
/-- the zip z amid its walk: i pairs are out, all above B -/
structure ZGt (h : Heap) (z TI TO i1 i2 B : Addr) (P1 P2 : Nat → Value → Prop) (St1 St2 : Nat → Heap → Prop) (i : Nat) (Ts : List Addr) : Prop where
  pr : IsPair h TI (.ref i1) (.ref i2)
  s1 : St1 i h
  s2 : St2 i h
  zp : (IsZip h z TI TO .none ∧ ∃ a b, IsPair h TO a b) ∨ ∃ T f oT, IsZipHeld h z TI TO T f ∧ h.get? T = some oT ∧ B ≤ T
  len : Ts.length = i
  nd : Ts.Nodup
  out : ∀ (j : Nat) (T : Addr), Ts[j]? = some T → B ≤ T ∧ ∃ x y, P1 j x ∧ P2 j y ∧ IsPair h T x y
section
variable {P : Program} {w : World} {A : Around} {R : Result → Shared → Prop} {z TI TO i1 i2 S B : Addr} {fp1 fp2 : List Addr} {n : Nat} {P1 P2 : Nat → Value → Prop} {St1 St2 : Nat → Heap → Prop} {res : Value}
theorem zipLoopG (D : ZipSep2 z TI TO i1 i2 fp1 fp2) (D1 : Draws P w A.in1.in1 i1 fp1 n P1 St1) (D2 : Draws P w A.in1.in1 i2 fp2 n P2 St2) (few : n ≤ sizeLine)
    (lt : ∀ b, b = z ∨ b = TI ∨ b = TO ∨ b ∈ fp1 ∨ b ∈ fp2 → b < B) (ltS : S < B) (offS : S ≠ z ∧ S ≠ TI ∧ S ≠ TO ∧ S ∉ fp1 ∧ S ∉ fp2) :
    ∀ (m i : Nat) (s : Shared) (Ts : List Addr), i + m = n → B ≤ s.heap.objs.size → ZGt s.heap z TI TO i1 i2 B P1 P2 St1 St2 i Ts → (∃ c, s.heap.get? S = some (seqObj "list" (Ts.map Value.ref).toArray c)) →
      (∀ (h' : Heap) (tk : Nat) (Us : List Addr) (c' : Nat), Us.length = n → Us.Nodup → (∀ (j : Nat) (T : Addr), Us[j]? = some T → B ≤ T ∧ ∃ x y, P1 j x ∧ P2 j y ∧ IsPair h' T x y) → h'.get? S = some (seqObj "list" (Us.map Value.ref).toArray c') →
        (∀ b o, b ≠ S → b ≠ z → b ≠ TO → b ≠ i1 → b ≠ i2 → s.heap.get? b = some o → h'.get? b = some o) → R (.ok (.ret res)) { s with heap := h', toks := tk }) →
      codeAny (model P w) A (.builtin "list.extend.loop" ⟨[.ref S, .ref z, res], []⟩) R s := by
  have lz := lt z (by simp)
  have lTI := lt TI (by simp)
  have lTO := lt TO (by simp)
  have li1 := lt i1 (by simp [D.mem1])
  have li2 := lt i2 (by simp [D.mem2])
  obtain ⟨oz, oTI, oTO, of1, of2⟩ := offS
  have oi1 : S ≠ i1 := fun e => of1 (e ▸ D.mem1)
  have oi2 : S ≠ i2 := fun e => of2 (e ▸ D.mem2)
  intro m
  induction m with
  | zero =>
    intro i s Ts hi hB Z ⟨c, hS⟩ hR
    have e : i = n := by omega
    subst e
    refine codeAny_builtin PySem.F.entry_extend_loop ?_
    rw [Around.under_plainId PySem.F.plain_extend_loop _]
    show wpAny _ A.in1 (pyNext (.ref z) >>= _) _ _ s
    have fin : ∀ (h' : Heap) (tk : Nat), (∀ b o, b ≠ z → b ≠ TO → b ≠ i1 → b ≠ i2 → s.heap.get? b = some o → h'.get? b = some o) → R (.ok (.ret res)) { s with heap := h', toks := tk } := fun h' tk k => by
      refine hR h' tk Ts c Z.len Z.nd (fun j T hj => ?_) (k _ _ oz oTO oi1 oi2 hS) fun b o _ b1 b2 b3 b4 e => k b o b1 b2 b3 b4 e
      obtain ⟨q1, x, y, q2, q3, q4⟩ := Z.out j T hj
      exact ⟨q1, x, y, q2, q3, pairKeep q4 fun o e => k T o (Nat.ne_of_gt (Nat.lt_of_lt_of_le lz q1)) (Nat.ne_of_gt (Nat.lt_of_lt_of_le lTO q1)) (Nat.ne_of_gt (Nat.lt_of_lt_of_le li1 q1)) (Nat.ne_of_gt (Nat.lt_of_lt_of_le li2 q1)) e⟩
    rcases Z.zp with ⟨z1, a, b, z2⟩ | ⟨T, f, oT, z1, z2, z3⟩
    · exact wpAny_bind (PySem.wpAny_pyNext_zipD2_end D D1 D2 z1 Z.pr z2 Z.s1 Z.s2 (Nat.le_refl _) (Nat.le_refl _) (Or.inl rfl) fun h' tk k => wpAny_pure (fin h' tk fun b o b1 b2 b3 b4 e => k b o b1 b2 b3 b4 e))
    · exact wpAny_bind (nextHeldEnd D D1 z1 z2 Z.pr Z.s1 fun h' k => wpAny_pure (fin h' s.toks fun b o b1 _ b3 _ e => k b o b1 b3 e))
  | succ m ih =>
    intro i s Ts hi hB Z ⟨c, hS⟩ hR
    refine codeAny_builtin PySem.F.entry_extend_loop ?_
    rw [Around.under_plainId PySem.F.plain_extend_loop _]
    show wpAny _ A.in1 (pyNext (.ref z) >>= _) _ _ s
    have szT : (Ts.map Value.ref).toArray.size = i := by rw [List.size_toArray, List.length_map, Z.len]
    have turn : ∀ (h' : Heap) (tk : Nat) (x y : Value), P1 i x → P2 i y → ((∃ T f oT, IsZipHeld h' z TI TO T f ∧ h'.get? T = some oT ∧ B ≤ T)) → St1 (i + 1) h' → St2 (i + 1) h' → IsPair h' s.heap.objs.size x y → h'.objs.size = s.heap.objs.size + 1 →
        (∀ b o, b ≠ z → b ≠ TO → b ≠ i1 → b ≠ i2 → s.heap.get? b = some o → h'.get? b = some o) →
        wpAny (model P w) A.in1 (updateSeq S (·.push (.ref s.heap.objs.size)) >>= fun _ => again (.builtin "list.extend.loop" ⟨[.ref S, .ref z, res], []⟩))
          (fun fin s' => match fin with | .done f => R (.ok f) s' | .again c' => c'.quiet = true ∧ codeAny (model P w) A c' R s') (fun e s' => R (.error e) s') { s with heap := h', toks := tk } := by
      intro h' tk x y px py hz hw1 hw2 hp hsz k
      have hS1 := k _ _ oz oTO oi1 oi2 hS
      have lim : i + 1 ≤ sizeLine := by omega
      refine wpAny_bind (wpAny_updateSeq hS1 rfl ?_ (by rw [szT]; exact Nat.le_trans (Nat.le_of_lt (by omega : i < n)) few) (by show ((Ts.map Value.ref).toArray.push _).size ≤ sizeLine + 1; rw [Array.size_push, szT]; omega))
      refine wpAny_pure ⟨plainId_quiet PySem.F.plain_extend_loop _, ?_⟩
      have other : ∀ b o, b ≠ S → h'.get? b = some o → (h'.update S (Obj.mapSeq (·.push (Value.ref s.heap.objs.size)))).get? b = some o := fun b o nb e => (Heap.get?_update_other _ _ (Ne.symm nb)).trans e
      have nS : ∀ {b : Addr}, B ≤ b → b ≠ S := fun q => Nat.ne_of_gt (Nat.lt_of_lt_of_le ltS q)
      refine ih (i + 1) _ (Ts ++ [s.heap.objs.size]) (by omega) (by show B ≤ (h'.update S _).objs.size; rw [Heap.size_update, hsz]; exact Nat.le_trans hB (Nat.le_succ _)) ?_ ?_ fun h2 tk Us c2 u1 u0 u2 u3 u4 => ?_
      · obtain ⟨T, f, oT, z1, z2, z3⟩ := hz
        exact { pr := pairKeep Z.pr fun o e => other _ o (Ne.symm oTI) (k _ o D.TIz D.TITO D.TIi1 D.TIi2 e)
                s1 := D1.frame _ _ _ hw1 fun b hb o e => other b o (fun q => of1 (q ▸ hb)) e
                s2 := D2.frame _ _ _ hw2 fun b hb o e => other b o (fun q => of2 (q ▸ hb)) e
                zp := Or.inr ⟨T, f, oT, other _ _ (Ne.symm oz) z1, other _ _ (nS z3) z2, z3⟩
                len := by rw [List.length_append, Z.len]; rfl
                nd := List.nodup_append.mpr ⟨Z.nd, List.nodup_cons.mpr ⟨List.not_mem_nil, List.nodup_nil⟩, fun T hT U hU e => by
                  obtain ⟨j, hj⟩ := List.mem_iff_getElem?.mp hT
                  obtain ⟨_, x, y, _, _, q4⟩ := Z.out j T hj
                  rw [List.mem_singleton] at hU
                  have l := Heap.lt_size q4
                  rw [e, hU] at l
                  exact Nat.lt_irrefl _ l⟩
                out := fun j T hj => by
                  by_cases c : j < Ts.length
                  · rw [List.getElem?_append_left c] at hj
                    obtain ⟨q1, x, y, q2, q3, q4⟩ := Z.out j T hj
                    exact ⟨q1, x, y, q2, q3, pairKeep q4 fun o e => other T o (nS q1) (k T o (Nat.ne_of_gt (Nat.lt_of_lt_of_le lz q1)) (Nat.ne_of_gt (Nat.lt_of_lt_of_le lTO q1)) (Nat.ne_of_gt (Nat.lt_of_lt_of_le li1 q1)) (Nat.ne_of_gt (Nat.lt_of_lt_of_le li2 q1)) e)⟩
                  · have len := Z.len
                    rw [List.getElem?_append_right (by omega)] at hj
                    have hj2 := (List.getElem?_eq_some_iff.mp hj).1
                    rw [List.length_singleton] at hj2
                    have ej : j = i := by omega
                    subst ej
                    rw [show j - Ts.length = 0 by omega] at hj
                    injection hj with hj
                    subst hj
                    exact ⟨hB, x, y, px, py, pairKeep hp fun o e => other _ o (nS hB) e⟩ }
      · have q := Heap.get?_update_self (Obj.mapSeq (·.push (Value.ref s.heap.objs.size))) hS1 rfl
        refine ⟨_, q.trans (congrArg (fun l : Array Value => some (seqObj "list" l _)) ?_)⟩
        show (Ts.map Value.ref).toArray.push (Value.ref s.heap.objs.size) = ((Ts ++ [s.heap.objs.size]).map Value.ref).toArray
        rw [List.push_toArray, List.map_append]
        rfl
      · exact hR h2 tk Us c2 u1 u0 u2 u3 fun b o b0 b1 b2 b3 b4 e => u4 b o b0 b1 b2 b3 b4 (other b o b0 (k b o b1 b2 b3 b4 e))
    rcases Z.zp with ⟨z1, a, b, z2⟩ | ⟨T, f, oT, z1, z2, z3⟩
    · refine wpAny_bind (PySem.wpAny_pyNext_zipD2_item D D1 D2 z1 Z.pr z2 Z.s1 Z.s2 (by omega) (by omega) fun x y h' tk px py b1 b2 b3 b4 b5 b6 k => ?_)
      exact turn h' tk x y px py ⟨_, false, _, b1, b5, hB⟩ b3 b4 b5 b6 fun b o n1 n2 n3 n4 e => k b o n1 n2 n3 n4 e
    · refine wpAny_bind (nextHeldItem D D1 D2 z1 z2 Z.pr Z.s1 Z.s2 (by omega) (by omega) fun x y h' tk px py b1 b3 b4 b5 b6 k => ?_)
      have n1 : T ≠ z := Nat.ne_of_gt (Nat.lt_of_lt_of_le lz z3)
      have n3 : T ≠ i1 := Nat.ne_of_gt (Nat.lt_of_lt_of_le li1 z3)
      have n4 : T ≠ i2 := Nat.ne_of_gt (Nat.lt_of_lt_of_le li2 z3)
      exact turn h' tk x y px py ⟨T, true, oT, b1, k _ _ n1 n3 n4 z2, z3⟩ b3 b4 b5 b6 fun b o n1 _ n3 n4 e => k b o n1 n3 n4 e
theorem listZipG {E : Value → Shared → Prop} {s : Shared} {Q : Value → Shared → Prop} (D : ZipSep2 z TI TO i1 i2 fp1 fp2) (D1 : Draws P w A.in1.in1.in1 i1 fp1 n P1 St1) (D2 : Draws P w A.in1.in1.in1 i2 fp2 n P2 St2) (few : n ≤ sizeLine) (hz : IsZip s.heap z TI TO .none) (hTI : IsPair s.heap TI (.ref i1) (.ref i2)) (hTO : IsPair s.heap TO .none .none)
    (h1 : St1 0 s.heap) (h2 : St2 0 s.heap) (in1 : ∀ b ∈ fp1, b < s.heap.objs.size) (in2 : ∀ b ∈ fp2, b < s.heap.objs.size)
    (hQ : ∀ (h' : Heap) (tk : Nat) (Us : List Addr) (c' : Nat), Us.length = n → Us.Nodup → (∀ (j : Nat) (T : Addr), Us[j]? = some T → s.heap.objs.size < T ∧ ∃ x y, P1 j x ∧ P2 j y ∧ IsPair h' T x y) → h'.get? s.heap.objs.size = some (seqObj "list" (Us.map Value.ref).toArray c') →
      (∀ b o, b ≠ z → b ≠ TO → b ≠ i1 → b ≠ i2 → s.heap.get? b = some o → h'.get? b = some o) → Q (.ref s.heap.objs.size) { s with heap := h', toks := tk }) :
    wpAny (model P w) A (call (.type "list") [.ref z]) Q E s := by
  refine callType_codes (Q₁ := fun obj s1 => obj = .ref s.heap.objs.size ∧ s1 = { s with heap := s.heap.push { cls := .type "list", data := .seq #[] } }) PySem.F.called_list (PySem.F.typeCall_list_1 _) PySem.F.entry_list_init (code_list_new _ ⟨rfl, rfl⟩) fun obj s1 hs1 => ?_
  obtain ⟨rfl, rfl⟩ := hs1
  have at0 : (s.heap.push { cls := .type "list", data := .seq #[] }).get? s.heap.objs.size = some { cls := .type "list", data := .seq #[] } := Heap.get?_push_size _ rfl
  have old : ∀ b o, s.heap.get? b = some o → (s.heap.push { cls := .type "list", data := .seq #[] }).get? b = some o := fun b o e => Heap.get?_push_of_some _ e
  refine ⟨⟨_, at0, rfl⟩, PySem.F.args_list_init_2 _ _, ?_⟩
  show wpAny _ _ (do let old ← Builtin.List.listItems (.ref s.heap.objs.size); Builtin.List.listUpdate (.ref s.heap.objs.size) (fun _ => #[]); letGo old.toList.reverse; Builtin.List.listExtendWith (.ref s.heap.objs.size) (.ref z) .none) _ _ _
  refine wpAny_bind ?_
  unfold Builtin.List.listItems
  refine wpAny_bind (wpAny_seqItems at0 rfl (wpAny_pure ?_))
  show wpAny _ _ (updateSeq s.heap.objs.size (fun _ => #[]) >>= fun _ => letGo (#[] : Array Value).toList.reverse >>= fun _ => Builtin.List.listExtendWith (.ref s.heap.objs.size) (.ref z) .none) _ _ _
  refine wpAny_bind (wpAny_updateSeq at0 rfl (wpAny_bind (wpAny_letGo ?_)))
  have at1 := Heap.get?_update_self (Obj.mapSeq (fun _ => (#[] : Array Value))) at0 rfl
  have ne : ∀ {b : Addr} {o : Obj}, s.heap.get? b = some o → s.heap.objs.size ≠ b := fun e => Nat.ne_of_gt (Heap.lt_size e)
  have old1 : ∀ b o, s.heap.get? b = some o → ((s.heap.push { cls := .type "list", data := .seq #[] }).update s.heap.objs.size (Obj.mapSeq (fun _ => (#[] : Array Value)))).get? b = some o := fun b o e => (Heap.get?_update_other _ _ (ne e)).trans (old b o e)
  generalize hh1 : ((s.heap.push { cls := .type "list", data := .seq #[] }).update s.heap.objs.size (Obj.mapSeq (fun _ => (#[] : Array Value)))) = hp1 at at1 old1
  have sz1 : hp1.objs.size = s.heap.objs.size + 1 := by rw [← hh1, Heap.size_update, Heap.size_push]
  unfold Builtin.List.listExtendWith
  have tz : Shared.TypeIs { s with heap := hp1 } (.ref z) "zip" := ⟨_, old1 _ _ hz, rfl⟩
  refine wpAny_bind (wpAny_typeOf tz ?_)
  have k1 : Builtin.List.listSameRef (.ref s.heap.objs.size) (.ref z) = false := by simp [Builtin.List.listSameRef, ne hz]
  have k2 : (Value.type "zip" == Value.type "list") = false := by decide
  have k3 : (Value.type "zip" == Value.type "tuple") = false := by decide
  simp only [k1, k2, k3, Bool.or_false, Bool.false_eq_true, if_false]
  refine wpAny_bind (wpAny_pyIter_zip (old1 _ _ hz) (wpAny_bind (wpAny_holding ?_)))
  unfold Builtin.List.listLengthHint
  refine wpAny_bind (wpAny_specialOf tz zip_no_len ?_)
  show wpAny _ _ (specialOf (Value.ref z) (Str.ofString "__length_hint__") >>= _) _ _ _
  refine wpAny_bind (wpAny_specialOf tz zip_no_hint (wpAny_pure ?_))
  show wpAny _ _ (rule "list.extend.makes-room" >>= fun _ => Builtin.List.listTouch (.ref s.heap.objs.size) >>= fun _ => again (.builtin "list.extend.loop" ⟨[.ref s.heap.objs.size, .ref z, .none], []⟩)) _ _ _
  refine wpAny_bind (wpAny_rule (wpAny_bind ?_))
  show wpAny _ _ (updateSeq s.heap.objs.size (·.push .none) >>= fun _ => updateSeq s.heap.objs.size (·.pop)) _ _ _
  refine wpAny_bind (wpAny_updateSeq at1 rfl ?_)
  have at2 := Heap.get?_update_self (Obj.mapSeq (·.push Value.none)) at1 rfl
  refine wpAny_updateSeq (hz := by seq_fits) at2 rfl ?_
  have at3 := Heap.get?_update_self (Obj.mapSeq (·.pop)) at2 rfl
  have old3 : ∀ b o, s.heap.get? b = some o → ((hp1.update s.heap.objs.size (Obj.mapSeq (·.push Value.none))).update s.heap.objs.size (Obj.mapSeq (·.pop))).get? b = some o := fun b o e => (Heap.get?_update_other _ _ (ne e)).trans ((Heap.get?_update_other _ _ (ne e)).trans (old1 b o e))
  have sz3 : ((hp1.update s.heap.objs.size (Obj.mapSeq (·.push Value.none))).update s.heap.objs.size (Obj.mapSeq (·.pop))).objs.size = s.heap.objs.size + 1 := by rw [Heap.size_update, Heap.size_update, sz1]
  generalize (hp1.update s.heap.objs.size (Obj.mapSeq (·.push Value.none))).update s.heap.objs.size (Obj.mapSeq (·.pop)) = hp3 at at3 old3 sz3
  refine wpAny_pure ⟨plainId_quiet PySem.F.plain_extend_loop _, ?_⟩
  have nS1 : s.heap.objs.size ∉ fp1 := fun q => Nat.lt_irrefl _ (in1 _ q)
  have nS2 : s.heap.objs.size ∉ fp2 := fun q => Nat.lt_irrefl _ (in2 _ q)
  refine zipLoopG D D1 D2 few (B := s.heap.objs.size + 1) (fun b hb => ?_) (Nat.lt_succ_self _) ⟨ne hz, ne hTI, ne hTO, nS1, nS2⟩ n 0 _ [] (Nat.zero_add _) (Nat.le_of_eq sz3.symm) ?_ ⟨_, at3⟩ fun h' tk Us c' u1 u0 u2 u3 u4 => ?_
  · have up : ∀ {b : Addr} {o : Obj}, s.heap.get? b = some o → b < s.heap.objs.size + 1 := fun e => Nat.lt_succ_of_lt (Heap.lt_size e)
    rcases hb with rfl | rfl | rfl | q | q
    · exact up hz
    · exact up hTI
    · exact up hTO
    · exact Nat.lt_succ_of_lt (in1 _ q)
    · exact Nat.lt_succ_of_lt (in2 _ q)
  · exact { pr := old3 _ _ hTI, s1 := D1.frame _ _ _ h1 fun b _ o e => old3 _ o e, s2 := D2.frame _ _ _ h2 fun b _ o e => old3 _ o e, zp := Or.inl ⟨old3 _ _ hz, _, _, old3 _ _ hTO⟩, len := rfl, nd := List.nodup_nil, out := fun j T hj => by simp at hj }
  · exact ⟨rfl, hQ h' tk Us c' u1 u0 u2 u3 fun b o b1 b2 b3 b4 e => u4 b o (Ne.symm (ne e)) b1 b2 b3 b4 (old3 b o e)⟩
end
theorem ne_nat {a b : Nat} (h : a ≠ b) : (show Addr from a) ≠ (show Addr from b) := h
theorem off_one {a n : Nat} (h : a ≠ n) : (show Addr from a) ∉ [(show Addr from n)] := fun q => h (List.mem_singleton.mp q)
theorem off_two {a m b : Nat} (h : a ≠ m) (k : a ≠ b) : (show Addr from a) ∉ [(show Addr from m), (show Addr from b)] := fun q => by
  rcases List.mem_cons.mp q with q | q
  · exact h q
  · exact k (List.mem_singleton.mp q)
theorem sep_new (n b : Nat) (h : b < n) : ZipSep2 (n + 4) (n + 2) (n + 3) n (n + 1) [n] [n + 1, b] where
  TIz := ne_nat (a := n + 2) (b := n + 4) (by omega)
  TOz := ne_nat (a := n + 3) (b := n + 4) (by omega)
  TITO := ne_nat (a := n + 2) (b := n + 3) (by omega)
  TIi1 := ne_nat (a := n + 2) (b := n) (by omega)
  mem1 := List.mem_singleton.mpr rfl
  zf1 := off_one (a := n + 4) (n := n) (by omega)
  Tf1 := off_one (a := n + 3) (n := n) (by omega)
  TIi2 := ne_nat (a := n + 2) (b := n + 1) (by omega)
  mem2 := List.mem_cons_self
  zf2 := off_two (a := n + 4) (m := n + 1) (b := b) (by omega) (by omega)
  Tf2 := off_two (a := n + 3) (m := n + 1) (b := b) (by omega) (by omega)
  sep1_2 := off_two (a := n) (m := n + 1) (b := b) (by omega) (by omega)
  sep2_1 := off_one (a := n + 1) (n := n) (by omega)
section
variable {X : Cx} {K : PySem.W.Frag}
def tListZipT (K : PySem.W.Frag) (ta : TA) : TE := fun σ H Q => ta σ H fun vs H1 => ∃ (x : Str) (b : Addr) (ys : List V), vs = [.str x, .ref b] ∧ x.cps.size ≤ 4000 ∧ SqL K H1 b ys ∧ ys.length = x.cps.size ∧
  ∀ (L : Addr) (H2 : Hp) (Ts : List Addr), H1 L = none → Same H1 H2 → H2 L = some (.lst (Ts.map V.ref)) → Ts.length = x.cps.size → (∀ (j c : Nat) (y : V), x.cps[j]? = some c → ys[j]? = some y → ∃ T, Ts[j]? = some T ∧ H2 T = some (.tup [sg c, y])) → Q (.ref L) H2
theorem rd_lzT {ta : TA} {σ : L2.St} {H : Hp} {Q : VK} (q : ta σ H fun vs H1 => ∃ (x : Str) (b : Addr) (ys : List V), vs = [.str x, .ref b] ∧ x.cps.size ≤ 4000 ∧ SqL K H1 b ys ∧ ys.length = x.cps.size ∧
  ∀ (L : Addr) (H2 : Hp) (Ts : List Addr), H1 L = none → Same H1 H2 → H2 L = some (.lst (Ts.map V.ref)) → Ts.length = x.cps.size → (∀ (j c : Nat) (y : V), x.cps[j]? = some c → ys[j]? = some y → ∃ T, Ts[j]? = some T ∧ H2 T = some (.tup [sg c, y])) → Q (.ref L) H2) : tListZipT K ta σ H Q := q
theorem pe_listZipT {e e2 : Expr} {ta : TA} {p p2 pos q : Pos} (hc : X.calm = true) (hg : Gl X "list") (hm : X.mg "list" = none) (hg2 : Gl X "zip") (hm2 : X.mg "zip" = none) (ha : PA X [e, e2] ta)
    (hs : starEach [e, e2] X.env = (false, eval e X.env) :: starEach [e2] X.env := by rfl) (hpl : (backTo q (starEach [e2] X.env)).any (·.1) = false := by rfl) (h : X.K = K := by rfl) :
    PE X (.Call (.Name "list" p) [.Call (.Name "zip" p2) [e, e2] [] q] [] pos) (tListZipT K ta) := by
  subst h
  refine ⟨fun pins s σ H Q I want => ?_⟩
  refine Call_ (ld_blt (u := .type "list") I hg hm (by decide +kernel) (PyProof.Rows.callWith_type1 (PyProof.Rows.args_cons ?_ rfl) rfl rfl))
  refine Call_ (ld_blt I hg2 hm2 PyProof.Rows.boot_zip (PyProof.Rows.callWith_type1 (thn (ha.run q pins s σ H _ I want) fun us s1 ⟨vs, H1, I1, r1, q1⟩ => ?_) hs hpl))
  obtain ⟨x, b, ys, ex, few, hy, len, qq⟩ := q1
  subst ex
  obtain ⟨u1, u2, rfl, ra, rb⟩ : ∃ u1 u2, us = [u1, u2] ∧ RelV (.str x) u1 ∧ RelV (.ref b) u2 := by
    cases r1 with
    | cons r rr =>
      cases rr with
      | cons r' rr =>
        cases rr
        exact ⟨_, _, rfl, r, r'⟩
  obtain ⟨t, rfl⟩ := ra
  cases rb
  obtain ⟨its2, rv2, p2', z2⟩ := I1.list hy
  have l2 := rv2.length
  have lb : b < s1.heap.objs.size := p2'.lt
  have lim : x.cps.size ≤ sizeLine := by rw [sizeLine_eq]; omega
  refine zip_begins2 (begins_text x t) (begins_list b its2.toArray) trivial p2'.isList fun h' hz hTI hTO w1 w2 hsz hk => ?_
  refine PyProof.Rows.args_nil ?_
  have hd := I1.ok.hd hc
  have D := sep_new s1.heap.objs.size b lb
  have e2 : its2.toArray.size = x.cps.size := by rw [List.size_toArray]; omega
  have D2 := Draws.list (prog := X.prog) (w := X.w) (A := X.A.in1.in1.in1) (by simp [hd]) (s1.heap.objs.size + 1) b (by exact Nat.ne_of_lt (Nat.lt_succ_of_lt lb)) its2.toArray
  rw [e2] at D2
  refine listZipG (s := { s1 with heap := h' }) D (Draws.text (by simp [hd]) s1.heap.objs.size x t) D2 lim hz hTI hTO ⟨_, w1, rfl, rfl⟩ ⟨⟨_, w2, rfl, rfl⟩, p2'.isList.at fun o e => hk _ o e⟩ (fun c q => by
    have q := List.mem_singleton.mp q
    rw [q]
    show s1.heap.objs.size < h'.objs.size
    rw [hsz]
    exact Nat.lt_add_of_pos_right (by decide)) (fun c q => by
    show c < h'.objs.size
    rw [hsz]
    rcases List.mem_cons.mp q with q | q
    · rw [q]
      exact Nat.add_lt_add_left (by decide) _
    · rw [List.mem_singleton.mp q]
      exact Nat.lt_add_right 5 lb) fun h2 tk Us c' n1 n0 n2 n3 n4 => ?_
  have above : ∀ {c : Addr} {o : Obj}, s1.heap.get? c = some o → h2.get? c = some o := fun {c o} e => by
    have lt := Heap.lt_size e
    exact n4 c o (Nat.ne_of_lt (Nat.lt_add_right 4 lt)) (Nat.ne_of_lt (Nat.lt_add_right 3 lt)) (Nat.ne_of_lt lt) (Nat.ne_of_lt (Nat.lt_add_right 1 lt)) (hk c o e)
  have hsz' : h'.objs.size = s1.heap.objs.size + 5 := hsz
  -- what is tracked from here on
  have bigT : ∀ (j : Nat) (T : Addr), Us[j]? = some T → h'.objs.size < T := fun j T hj => (n2 j T hj).1
  have newT : ∀ T ∈ Us, H1 T = none ∧ T ≠ h'.objs.size := fun T hT => by
    obtain ⟨j, hj⟩ := List.mem_iff_getElem?.mp hT
    have := bigT j T hj
    exact ⟨I1.hok.fresh (Nat.le_of_lt (Nat.lt_of_le_of_lt (by rw [hsz']; exact Nat.le_add_right _ _) this)), Nat.ne_of_gt this⟩
  have newL : H1 h'.objs.size = none := I1.hok.fresh (by rw [hsz']; exact Nat.le_add_right _ _)
  have at_ : ∀ (j : Nat) (T : Addr), Us[j]? = some T → ∃ x' y u v, (x.cps.toList.map sg)[j]? = some x' ∧ ys[j]? = some y ∧ RelV x' u ∧ RelV y v ∧ IsPair h2 T u v := fun j T hj => by
    obtain ⟨_, u, v, e1, e2, pr⟩ := n2 j T hj
    obtain ⟨c, t', ec, rfl⟩ := e1
    obtain ⟨y, ey, ry⟩ := vals_get rv2 (j := j) (u := v) (by simpa using e2)
    exact ⟨sg c, y, _, v, by rw [List.getElem?_map, Array.getElem?_toList, ec]; rfl, ey, ⟨t', rfl⟩, ry, pr⟩
  let H2 : Hp := fun c => if c = h'.objs.size then some (.lst (Us.map V.ref)) else if c ∈ Us then some (.tup (pick2 Us (x.cps.toList.map sg) ys c)) else H1 c
  have gL : H2 h'.objs.size = some (.lst (Us.map V.ref)) := if_pos rfl
  have gT : ∀ (j : Nat) (T : Addr) (x' y : V), Us[j]? = some T → (x.cps.toList.map sg)[j]? = some x' → ys[j]? = some y → H2 T = some (.tup [x', y]) := fun j T x' y hj hx hy => by
    have hT := List.mem_of_getElem? hj
    show (if T = h'.objs.size then _ else if T ∈ Us then _ else _) = _
    rw [if_neg (newT T hT).2, if_pos hT, pick2_at n0 hj hx hy]
  have same2 : Same H1 H2 := fun c o e => by
    have m1 : c ≠ h'.objs.size := fun z => by
      rw [z, newL] at e
      cases e
    have m2 : c ∉ Us := fun z => by
      rw [(newT c z).1] at e
      cases e
    show (if c = h'.objs.size then _ else if c ∈ Us then _ else _) = _
    rw [if_neg m1, if_neg m2]
    exact e
  have szU : (Us.map V.ref).length ≤ sizeLine := by rw [List.length_map, n1]; exact lim
  have un : Un (frs X.stack) [] H1 H2 s1.heap h2 := Un.more (fun c o e => above e) same2 fun c e lt => by
    show (if c = h'.objs.size then _ else if c ∈ Us then _ else _) = _
    rw [if_neg fun z => by rw [z, hsz'] at lt; exact Nat.not_lt_of_le (Nat.le_add_right _ 5) lt, if_neg fun z => ?_]
    · exact e
    · obtain ⟨j, hj⟩ := List.mem_iff_getElem?.mp z
      have q := bigT j c hj
      rw [hsz'] at q
      exact Nat.lt_irrefl _ (Nat.lt_of_lt_of_le (Nat.lt_of_lt_of_le lt (Nat.le_add_right _ 5)) (Nat.le_of_lt q))
  have hok : HOk X.prog X.w H2 h2 := HOk.more I1.hok (fun c o e => above e) same2 fun c o e0 e => by
    have e' : (if c = h'.objs.size then some (.lst (Us.map V.ref)) else if c ∈ Us then some (.tup (pick2 Us (x.cps.toList.map sg) ys c)) else H1 c) = some o := e
    by_cases c1 : c = h'.objs.size
    · rw [if_pos c1] at e'
      cases e'
      subst c1
      exact ⟨szU, Us.map Value.ref, c', vals_refs Us, n3⟩
    · rw [if_neg c1] at e'
      by_cases c2 : c ∈ Us
      · obtain ⟨j, hj⟩ := List.mem_iff_getElem?.mp c2
        obtain ⟨x', y, u, v, ex, ey, rx, ry, pr⟩ := at_ j c hj
        have g := gT j c x' y hj ex ey
        rw [e] at g
        cases g
        refine ⟨by show 2 ≤ sizeLine; decide, [u, v], .cons rx (.cons ry .nil), _, pr, rfl, 0, rfl⟩
      · rw [if_neg c2, e0] at e'
        cases e'
  exact ⟨.ref h'.objs.size, H2, I1.call' (ch := []) rfl un hok I1.bare (fun _ z => nomatch z), rfl, qq h'.objs.size H2 Us newL same2 gL n1 fun j c y hx hy => by
    have lt : j < Us.length := by
      have := (Array.getElem?_eq_some_iff.mp hx).1
      omega
    exact ⟨Us[j], List.getElem?_eq_getElem lt, gT j _ (sg c) y (List.getElem?_eq_getElem lt) (by rw [List.getElem?_map, Array.getElem?_toList, hx]; rfl) hy⟩⟩
end
end LX

/-! ### data and its shape; comprehensions that make tuples; a dict of letters -/
namespace LX
open PySem L2
theorem u1_of {n m : Nat} (h : n + 64 < m) : n + 1 < m := by omega
def qDictP (K : PySem.W.Frag) : List V → Hp → VK → Prop := fun xs H Q => ∃ (a : Addr) (ps : List Addr) (kvs : List (Key × V)), xs = [.ref a] ∧ SqL K H a (ps.map V.ref) ∧ Paired (fun p kv => SqT K H p [kV kv.1, kv.2]) ps kvs ∧
    ∀ p, H p = none → Q (.ref p) (upd H p (.dK (mergeK [] kvs)))
theorem kdictP {X : Cx} {K : PySem.W.Frag} (hc : X.calm = true) (h : X.K = K := by rfl) : CallR X (.type "dict") (qDictP K) := by
  subst h
  exact call_dictP hc
structure Sd (n : Nat) (d : PyData) : Prop where
  lay : d.canLay0 = true
  dep : d.depth ≤ n
theorem sd_all {n : Nat} : ∀ {xs : List PyData}, (∀ x ∈ xs, Sd n x) → PyData.canLayAll0 xs = true ∧ PyData.depthAll xs ≤ n
  | [], _ => by
    simp only [PyData.canLayAll0, PyData.depthAll]
    exact ⟨trivial, Nat.zero_le _⟩
  | x :: xs, h => by
    obtain ⟨a1, a2⟩ := h x List.mem_cons_self
    obtain ⟨b1, b2⟩ := sd_all fun y hy => h y (List.mem_cons_of_mem _ hy)
    simp only [PyData.canLayAll0, PyData.depthAll, a1, b1, Bool.and_self]
    exact ⟨trivial, by omega⟩
theorem Sd.list {n : Nat} {xs : List PyData} (h : ∀ x ∈ xs, Sd n x) : Sd (n + 1) (.list xs) := by
  obtain ⟨h1, h2⟩ := sd_all h
  exact ⟨by simp only [PyData.canLay0]; exact h1, by simp only [PyData.depth]; omega⟩
theorem Sd.tuple {n : Nat} {xs : List PyData} (h : ∀ x ∈ xs, Sd n x) : Sd (n + 1) (.tuple xs) := by
  obtain ⟨h1, h2⟩ := sd_all h
  exact ⟨by simp only [PyData.canLay0]; exact h1, by simp only [PyData.depth]; omega⟩
theorem Sd.mono {n m : Nat} {d : PyData} (h : Sd n d) (k : n ≤ m) : Sd m d := ⟨h.lay, Nat.le_trans h.dep k⟩
theorem Sd.none {n : Nat} : Sd n .none := ⟨by simp only [PyData.canLay0], by simp only [PyData.depth]; omega⟩
theorem Sd.int {n : Nat} {i : Int} : Sd n (.int i) := ⟨by simp only [PyData.canLay0], by simp only [PyData.depth]; omega⟩
theorem Sd.str {n : Nat} {cs : List Nat} (h : ∀ c ∈ cs, c ≤ 122) : Sd n (.str (txt cs)) := by
  refine ⟨?_, by simp only [PyData.depth]; omega⟩
  simp only [PyData.canLay0]
  show (cs.toArray).all (· < 0x110000) = true
  rw [List.all_toArray, List.all_eq_true]
  intro c hc
  have := h c hc
  simp
  omega
theorem Sd.shaped {n : Nat} {d : PyData} (h : Sd n d) (k : n ≤ 64) : SeqAt.shaped d = true := Bool.and_eq_true_iff.mpr ⟨h.lay, decide_eq_true (Nat.le_trans h.dep k)⟩
section
variable {K : PySem.W.Frag} {a D : Addr} {g : TG} {te : TE} {vs : List Nat} {σ : L2.St} {H1 : Hp} {Qd : Hp → Prop} {α : Type} {J : It} {n : Nat} {Y : Nat → Hp → V → Hp → Prop}
/-- a comprehension whose items are new tuples -/
theorem lc_mk {m : α → List V} {zs : List α} (w : Walk J n (fun H => Same H1 H) Y) (hn : zs.length = n) (hz : n ≤ 1000) (hD : H1 D = none)
    (hs : ∀ i e x H H', zs[i]? = some e → Same H1 H → Y i H x H' → ∀ (R : V → Hp → Prop), (∀ t H4, Same H H4 → H4 t = some (.tup (m e)) → R (.ref t) H4) → g x (wipe σ vs) H' fun σ2 H2 => wipe σ2 vs = wipe σ vs ∧ te σ2 H2 R)
    (hd : ∀ H' us, Same H1 H' → H' D = some (.lst (us.map V.ref)) → TsAt m H' us zs → Qd H') :
    ∃ W : Nat → Nat → Hp → Prop, (∃ m, W 0 m (upd H1 D (.lst []))) ∧ ∀ i m H, W i m H →
      (J.stop i H ∧ Qd H) ∨ (J.go i H ∧ ∃ Nx : Hp → Prop, (∀ H', Nx H' → ∃ m', m' < m ∧ W (i + 1) m' H') ∧ ∀ x H', J.yld i H x H' → g x (wipe σ vs) H' fun σ2 H2 => wipe σ2 vs = wipe σ vs ∧ tYes σ2 H2 fun b H3 =>
        if b = true then te σ2 H3 fun y H4 => ∃ acc, H4 D = some (.lst acc) ∧ acc.length < sizeLine ∧ Nx (upd H4 D (.lst (acc ++ [y]))) else Nx H3) := by
  refine lc_it (tt := tYes) w (fun i H => Same H1 H ∧ ∃ us : List Addr, H D = some (.lst (us.map V.ref)) ∧ TsAt m H us (zs.take i)) ⟨sNew hD, [], upd_same, True.intro⟩ (fun _ _ _ h => h.1) ?_ ?_
  · rintro i x H H' hi ⟨s, us, e, t⟩ y
    have hx : zs[i]? = some (zs[i]'(by omega)) := List.getElem?_eq_getElem _
    have ul := t.len
    rw [List.length_take] at ul
    refine hs i _ x H H' hx s y _ fun t4 H4 s4 ht4 => ⟨_, s4 _ _ e, small1000 (by rw [List.length_map]; omega), sUpd (s.trans s4) hD, us ++ [t4], by rw [upd_same, List.map_append]; rfl, ?_⟩
    have tD : t4 ≠ D := fun z => by
      rw [z, s4 _ _ e] at ht4
      cases ht4
    rw [take_of hx]
    exact ((t.mono (sTups s4)).off (s4 _ _ e)).snoc (by rw [upd_ne tD]; exact ht4)
  · rintro H ⟨s, us, e, t⟩
    rw [← hn, List.take_length] at t
    exact hd H us s e t
/-- a comprehension whose items are known values -/
theorem lc_mv {v : α → V} {zs : List α} (w : Walk J n (fun H => Same H1 H) Y) (hn : zs.length = n) (hz : n ≤ 1000) (hD : H1 D = none)
    (hs : ∀ i e x H H', zs[i]? = some e → Same H1 H → Y i H x H' → ∀ (R : V → Hp → Prop), (∀ H4, Same H H4 → R (v e) H4) → g x (wipe σ vs) H' fun σ2 H2 => wipe σ2 vs = wipe σ vs ∧ te σ2 H2 R)
    (hd : ∀ H', Same H1 H' → H' D = some (.lst (zs.map v)) → Qd H') :
    ∃ W : Nat → Nat → Hp → Prop, (∃ m, W 0 m (upd H1 D (.lst []))) ∧ ∀ i m H, W i m H →
      (J.stop i H ∧ Qd H) ∨ (J.go i H ∧ ∃ Nx : Hp → Prop, (∀ H', Nx H' → ∃ m', m' < m ∧ W (i + 1) m' H') ∧ ∀ x H', J.yld i H x H' → g x (wipe σ vs) H' fun σ2 H2 => wipe σ2 vs = wipe σ vs ∧ tYes σ2 H2 fun b H3 =>
        if b = true then te σ2 H3 fun y H4 => ∃ acc, H4 D = some (.lst acc) ∧ acc.length < sizeLine ∧ Nx (upd H4 D (.lst (acc ++ [y]))) else Nx H3) := by
  refine lc_it (tt := tYes) w (fun i H => Same H1 H ∧ H D = some (.lst ((zs.take i).map v))) ⟨sNew hD, upd_same⟩ (fun _ _ _ h => h.1) ?_ ?_
  · rintro i x H H' hi ⟨s, e⟩ y
    have hx : zs[i]? = some (zs[i]'(by omega)) := List.getElem?_eq_getElem _
    refine hs i _ x H H' hx s y _ fun H4 s4 => ⟨_, s4 _ _ e, small1000 (by rw [List.length_map, List.length_take]; omega), sUpd (s.trans s4) hD, ?_⟩
    rw [upd_same, take_of hx, List.map_append]
    rfl
  · rintro H ⟨s, e⟩
    rw [← hn, List.take_length] at e
    exact hd H s e
theorem wk_txt {z : Str} : Walk (Its z) z.cps.size (fun H => Same H1 H) (fun i H v H' => H' = H ∧ ∃ c, z.cps[i]? = some c ∧ v = .str ⟨#[c]⟩) := walk_str.mono (fun _ _ => True.intro) fun _ _ _ _ _ _ y => y
theorem wk_list {xs : List V} (ha : H1 a = some (.lst xs)) : Walk (Itl K a) xs.length (fun H => Same H1 H) (YAt xs) := walk_list.mono (fun _ s => SqL.of (s _ _ ha)) fun _ _ _ _ _ _ y => y
end
/-- a dict from letters to letters -/
def NmAt (H : Hp) (N : Addr) (f : Nat → Nat) : Prop := ∃ kvs : List (Key × V), H N = some (.dK kvs) ∧ ∀ c, 97 ≤ c → c ≤ 122 → valV kvs (.inr ⟨#[c]⟩) = some (sg (f c))
theorem NmAt.same {H H' : Hp} {N : Addr} {f : Nat → Nat} (h : NmAt H N f) (s : Same H H') : NmAt H' N f :=
  let ⟨k, h1, h2⟩ := h
  ⟨k, s _ _ h1, h2⟩
theorem NmAt.get {H : Hp} {N : Addr} {f : Nat → Nat} (h : NmAt H N f) {c : Nat} (c0 : 97 ≤ c) (c1 : c ≤ 122) : DGet H N (sg c) (some (sg (f c))) := by
  obtain ⟨k, h1, h2⟩ := h
  rw [← h2 c c0 c1]
  exact DGet.k (k := .inr ⟨#[c]⟩) h1
theorem rd_nm {td ty : TE} {σ : L2.St} {H : Hp} {Q : VK} (q : td σ H fun x H1 => ty σ H1 fun y H2 => ∃ a v, x = .ref a ∧ DGet H2 a y (some v) ∧ Q v H2) : tDGet td ty σ H Q := q
theorem merge_other {k : Key} : ∀ {l : List (Key × V)} {acc : List (Key × V)}, (∀ e ∈ l, e.1 ≠ k) → valV (mergeK acc l) k = valV acc k
  | [], _, _ => rfl
  | e :: l, acc, h => by
    show valV (mergeK (L2.putK acc e.1 e.2) l) k = _
    rw [merge_other fun e he => h e (List.mem_cons_of_mem _ he), valV_put, if_neg fun z => h e List.mem_cons_self z.symm]
theorem merge_at : ∀ {l : List (Key × V)} {acc : List (Key × V)} {i : Nat} {e : Key × V}, (l.map (·.1)).Nodup → l[i]? = some e → valV (mergeK acc l) e.1 = some e.2
  | [], _, i, e, _, h => by simp at h
  | d :: l, acc, 0, e, nd, h => by
    have e1 : d = e := by simpa using h
    subst e1
    show valV (mergeK (L2.putK acc d.1 d.2) l) d.1 = _
    rw [List.map_cons, List.nodup_cons] at nd
    refine (merge_other (k := d.1) fun x hx z => nd.1 ?_).trans ?_
    · rw [← z]
      exact List.mem_map_of_mem (f := fun x : Key × V => x.1) hx
    · rw [valV_put, if_pos rfl]
  | d :: l, acc, i + 1, e, nd, h => by
    rw [List.map_cons, List.nodup_cons] at nd
    exact merge_at (l := l) nd.2 (by simpa using h)
theorem rd_iS {te : TE} {σ : L2.St} {H : Hp} {R : It → Hp → Prop} (q : te σ H fun v H1 => ∃ x, v = .str x ∧ R (Its x) H1) : iStr te σ H R := q
abbrev abcZ : Str := Str.ofString "abcdefghijklmnopqrstuvwxyz"
abbrev abcN : List Nat := (List.range 26).map (97 + ·)
theorem abcZ_eq : abcZ.cps.toList = abcN := by decide
theorem abcN_at {i c : Nat} (h : abcN[i]? = some c) : c = 97 + i ∧ i < 26 := by
  rw [List.getElem?_map] at h
  obtain ⟨n, h1, h2⟩ := Option.map_eq_some_iff.mp h
  have hi : i < 26 := by
    have := (List.getElem?_eq_some_iff.mp h1).1
    rwa [List.length_range] at this
  rw [List.getElem?_range hi] at h1
  cases h1
  exact ⟨h2.symm, hi⟩
theorem abcZ_at {i c : Nat} (h : abcZ.cps[i]? = some c) : c = 97 + i ∧ i < 26 := by
  refine abcN_at ?_
  rw [← abcZ_eq]
  simpa using h
theorem mem_abcN {c : Nat} : c ∈ abcN ↔ 97 ≤ c ∧ c ≤ 122 := by
  rw [List.mem_map]
  constructor
  · rintro ⟨n, hn, rfl⟩
    rw [List.mem_range] at hn
    omega
  · intro h
    exact ⟨c - 97, by rw [List.mem_range]; omega, by omega⟩
theorem dp_app {K : PySem.W.Frag} {H : Hp} : ∀ {xs ys : List V} {ds es : List PyData}, DpAll K H xs ds → DpAll K H ys es → DpAll K H (xs ++ ys) (ds ++ es)
  | [], _, [], _, _, h => h
  | _ :: _, _, _ :: _, _, .cons h k, h2 => .cons h (dp_app k h2)
  | [], _, _ :: _, _, h, _ => by cases h
  | _ :: _, _, [], _, h, _ => by cases h
def dOI : Option Nat → PyData
  | none => .none
  | some j => .int (j : Nat)
theorem dp_oI {K : PySem.W.Frag} {H : Hp} (o : Option Nat) : Dp K H (oI o) (dOI o) := by
  cases o with
  | none => exact .non
  | some j => exact .int _
theorem Sd.oI {n : Nat} (o : Option Nat) : Sd n (dOI o) := by
  cases o with
  | none => exact Sd.none
  | some j => exact Sd.int
theorem Sd.opt {n : Nat} {o : Option Nat} (h : ∀ c, o = some c → c ≤ 122) : Sd n (dO o) := by
  cases o with
  | none => exact Sd.none
  | some c =>
    exact Sd.str (cs := [c]) fun d hd => by
      rw [List.mem_singleton] at hd
      rw [hd]
      exact h c rfl
abbrev dRuns (rs : List (Nat × Nat)) : PyData := .list (rs.map fun e => .tuple (dPC e))
theorem Sd.runs {rs : List (Nat × Nat)} (h : ∀ e ∈ rs, e.1 ≤ 122) : Sd 2 (dRuns rs) := by
  refine Sd.list fun x hx => ?_
  obtain ⟨e, he, rfl⟩ := List.mem_map.mp hx
  refine Sd.tuple fun y hy => ?_
  rcases List.mem_cons.mp hy with c | c
  · rw [c]
    exact Sd.str (cs := [e.1]) fun d hd => by
      rw [List.mem_singleton] at hd
      rw [hd]
      exact h e he
  · rw [List.mem_singleton.mp c]
    exact Sd.int
theorem runs_fst (cs : List Nat) : ∀ e ∈ runs cs, e.1 ∈ cs := by
  have go : ∀ k, k ≤ cs.length → ∀ e ∈ runs (cs.take k), e.1 ∈ cs := by
    intro k
    induction k with
    | zero => intro _ e he; cases he
    | succ k ih =>
      intro hk e he
      have hx : cs[k]? = some cs[k] := List.getElem?_eq_getElem (by omega)
      rw [take_of hx, runs_snoc] at he
      have mem : cs[k] ∈ cs := List.getElem_mem _
      have ih := ih (by omega)
      unfold rsn at he
      cases q : (LX.runs (cs.take k)).getLast? with
      | none =>
        rw [q] at he
        rcases List.mem_append.mp he with h | h
        · exact ih e h
        · rw [List.mem_singleton.mp h]
          exact mem
      | some y =>
        obtain ⟨y, m⟩ := y
        rw [q] at he
        dsimp only at he
        by_cases c : y = cs[k]
        · rw [if_pos c] at he
          rcases List.mem_or_eq_of_mem_set he with h | h
          · exact ih e h
          · rw [h]
            exact mem
        · rw [if_neg c] at he
          rcases List.mem_append.mp he with h | h
          · exact ih e h
          · rw [List.mem_singleton.mp h]
            exact mem
  have := go cs.length (Nat.le_refl _)
  rw [List.take_length] at this
  exact this
/-- all that is asked of a lineup, by its colors -/
abbrev dRes (cs : List Nat) : PyData := .list ([.str (txt [cs.headD 0]), dO ((cs.filter fun d => d != cs.headD 0).head?), dRuns (runs cs), .str (txt (firstsOf cs))] ++ abcN.map fun c => .tuple [.int (cs.count c : Nat), dOI (cs.findIdx? (· == c))])
theorem sd_res {cs : List Nat} (h : ∀ c ∈ cs, c ≤ 122) (ne : cs ≠ []) : Sd 3 (dRes cs) := by
  have h0 : cs.headD 0 ≤ 122 := by
    cases cs with
    | nil => exact absurd rfl ne
    | cons c cs => exact h c List.mem_cons_self
  refine Sd.list fun x hx => ?_
  rcases List.mem_append.mp hx with hx | hx
  · rcases List.mem_cons.mp hx with rfl | hx
    · exact Sd.str fun d hd => by
        rw [List.mem_singleton] at hd
        rw [hd]
        exact h0
    rcases List.mem_cons.mp hx with rfl | hx
    · exact Sd.opt fun c e => h c (List.mem_filter.mp (List.mem_of_head? e)).1
    rcases List.mem_cons.mp hx with rfl | hx
    · exact Sd.runs fun e he => h _ (runs_fst cs e he)
    rw [List.mem_singleton.mp hx]
    exact Sd.str fun d hd => h d (mem_firsts.mp hd)
  · obtain ⟨c, _, rfl⟩ := List.mem_map.mp hx
    refine (Sd.tuple (n := 0) fun y hy => ?_).mono (by decide)
    rcases List.mem_cons.mp hy with c | c
    · rw [c]
      exact Sd.int
    · rw [List.mem_singleton.mp c]
      exact Sd.oI _
theorem paired_at {α β : Type} {R : α → β → Prop} : ∀ {xs : List α} {ys : List β}, xs.length = ys.length → (∀ (j : Nat) (x : α) (y : β), xs[j]? = some x → ys[j]? = some y → R x y) → Paired R xs ys
  | [], [], _, _ => .nil
  | x :: xs, y :: ys, h, k => .cons (k 0 x y rfl rfl) (paired_at (by simpa using h) fun j a b ha hb => k (j + 1) a b (by simpa using ha) (by simpa using hb))
  | [], _ :: _, h, _ => by simp at h
  | _ :: _, [], h, _ => by simp at h
theorem merge_some (k : Key) : ∀ (l acc : List (Key × V)), (valV (mergeK acc l) k).isSome = ((valV acc k).isSome || l.any fun e => decide (e.1 = k))
  | [], acc => by simp [mergeK]
  | e :: l, acc => by
    show (valV (mergeK (L2.putK acc e.1 e.2) l) k).isSome = _
    rw [merge_some k l, valV_put, List.any_cons]
    by_cases c : k = e.1
    · rw [if_pos c, decide_eq_true c.symm]
      simp
    · rw [if_neg c, decide_eq_false fun z => c z.symm]
      simp
theorem rd_din {ty td : TE} {σ : L2.St} {H : Hp} {Q : VK} (q : ty σ H fun y H1 => td σ H1 fun x H2 => ∃ a o, x = .ref a ∧ DGet H2 a y o ∧ Q (.bl o.isSome) H2) : tDIn ty td σ H Q := q
end LX

/-! ### a comprehension over a list of tuples; the first run -/
namespace LX
open PySem L2
section
variable {K : PySem.W.Frag} {a D : Addr} {g : TG} {tt : TT} {te : TE} {vs : List Nat} {σ : L2.St} {H1 : Hp} {Qd : Hp → Prop}
theorem lc_ts {α : Type} {m : α → List V} {ts : List Addr} {r : List α} (f : α → Option V) (hD : H1 D = none) (ha : H1 a = some (.lst (ts.map V.ref))) (ht : TsAt m H1 ts r) (hz : r.length ≤ 1000)
    (hs : ∀ t e, e ∈ r → t ∈ ts → ∀ H, Same H1 H → H t = some (.tup (m e)) → ∀ (T : V → Hp → Prop) (F : Hp → Prop), (∀ y H', f e = some y → Same H H' → T y H') → (∀ H', f e = none → Same H H' → F H') →
      g (.ref t) (wipe σ vs) H fun σ2 H2 => wipe σ2 vs = wipe σ vs ∧ tt σ2 H2 fun b H3 => if b = true then te σ2 H3 T else F H3)
    (hd : ∀ H', Same H1 H' → H' D = some (.lst (r.filterMap f)) → Qd H') :
    ∃ W : Nat → Nat → Hp → Prop, (∃ m, W 0 m (upd H1 D (.lst []))) ∧ ∀ i m H, W i m H →
      ((Itl K a).stop i H ∧ Qd H) ∨ ((Itl K a).go i H ∧ ∃ Nx : Hp → Prop, (∀ H', Nx H' → ∃ m', m' < m ∧ W (i + 1) m' H') ∧ ∀ x H', (Itl K a).yld i H x H' → g x (wipe σ vs) H' fun σ2 H2 => wipe σ2 vs = wipe σ vs ∧ tt σ2 H2 fun b H3 =>
        if b = true then te σ2 H3 fun y H4 => ∃ acc, H4 D = some (.lst acc) ∧ acc.length < sizeLine ∧ Nx (upd H4 D (.lst (acc ++ [y]))) else Nx H3) := by
  have hl := ht.len
  refine lc_ix (xs := ts.map V.ref) (fun i => (r[i]?).bind f) hD (fun H s => SqL.of (s _ _ ha)) (by rw [List.length_map, hl]; exact hz) (fun i x hi H s T F hT hF => ?_) fun H' s e => hd H' s ?_
  · rw [List.getElem?_map] at hi
    obtain ⟨t, h1, rfl⟩ := Option.map_eq_some_iff.mp hi
    obtain ⟨e, h2, h3⟩ := ht.get h1
    refine hs t e (List.mem_of_getElem? h2) (List.mem_of_getElem? h1) H s (s _ _ h3) T F (fun y H' hy => hT y H' ?_) fun H' hn => hF H' ?_
    · rw [h2]
      exact hy
    · rw [h2]
      exact hn
  · rw [List.length_map, hl, range_fm] at e
    exact e
end
/-- the first run: the first item, as often as it stands in front -/
def Fst (cs : List Nat) : Prop := ∃ c0 k rest, cs.head? = some c0 ∧ runs cs = (c0, k) :: rest ∧ k = (cs.takeWhile (· == c0)).length ∧ (rest = [] ↔ k = cs.length)
theorem tw_le (p : Nat → Bool) (cs : List Nat) : (cs.takeWhile p).length ≤ cs.length := (List.takeWhile_sublist p).length_le
theorem fst_step {cs : List Nat} {x : Nat} (h : Fst cs) : Fst (cs ++ [x]) := by
  obtain ⟨c0, k, rest, h1, h2, h3, h4⟩ := h
  have hne : cs ≠ [] := by rintro rfl; cases h1
  have kl : k ≤ cs.length := by rw [h3]; exact tw_le _ _
  have hh : (cs ++ [x]).head? = some c0 := by
    cases cs with
    | nil => exact absurd rfl hne
    | cons c cs => exact h1
  by_cases hk : k = cs.length
  · have hr := h4.mpr hk
    subst hr
    have tw : ((cs ++ [x]).takeWhile (· == c0)).length = if x = c0 then k + 1 else k := by
      rw [List.takeWhile_append, if_pos (by rw [← h3, hk]), List.length_append, ← hk]
      by_cases c : x = c0
      · rw [if_pos c, List.takeWhile_cons_of_pos (by simpa using c)]
        rfl
      · rw [if_neg c, List.takeWhile_cons_of_neg (by simpa using c)]
        rfl
    by_cases c : x = c0
    · rw [if_pos c] at tw
      refine ⟨c0, k + 1, [], hh, ?_, tw.symm, ?_⟩
      · rw [runs_snoc, h2]
        subst c
        rw [rsn_grow (k := k) rfl]
        rfl
      · rw [List.length_append, hk]
        exact ⟨fun _ => rfl, fun _ => rfl⟩
    · rw [if_neg c] at tw
      refine ⟨c0, k, [(x, 1)], hh, ?_, tw.symm, ?_⟩
      · rw [runs_snoc, h2, rsn_new (y := c0) (k := k) rfl fun z => c z.symm]
        rfl
      · rw [List.length_append, List.length_singleton]
        exact ⟨fun z => (by cases z), fun z => by omega⟩
  · have hr : rest ≠ [] := fun z => hk (h4.mp z)
    have tw : ((cs ++ [x]).takeWhile (· == c0)).length = k := by
      rw [List.takeWhile_append, if_neg (by rw [← h3]; exact hk), ← h3]
    obtain ⟨rest2, e2, hr2⟩ : ∃ rest2, runs (cs ++ [x]) = (c0, k) :: rest2 ∧ rest2 ≠ [] := by
      rw [runs_snoc, h2]
      unfold rsn
      obtain ⟨y, m, hy⟩ : ∃ y m, rest.getLast? = some (y, m) := by
        obtain ⟨e, he⟩ := last_ne hr
        exact ⟨e.1, e.2, he⟩
      have hy2 : ((c0, k) :: rest).getLast? = some (y, m) := by
        rw [List.getLast?_cons, hy]
        rfl
      rw [hy2]
      dsimp only
      by_cases c : y = x
      · rw [if_pos c]
        obtain ⟨e, rest', rfl⟩ : ∃ e rest', rest = e :: rest' := by
          cases rest with
          | nil => exact absurd rfl hr
          | cons e r => exact ⟨e, r, rfl⟩
        refine ⟨(e :: rest').set rest'.length (x, m + 1), rfl, fun z => ?_⟩
        have := congrArg List.length z
        rw [List.length_set] at this
        cases this
      · rw [if_neg c]
        exact ⟨rest ++ [(x, 1)], rfl, by simp⟩
    refine ⟨c0, k, rest2, hh, e2, tw.symm, ?_⟩
    rw [List.length_append, List.length_singleton]
    exact ⟨fun z => absurd z hr2, fun z => by omega⟩
theorem fst_runs {cs : List Nat} (h : cs ≠ []) : Fst cs := by
  have go : ∀ n (cs : List Nat), cs.length = n + 1 → Fst cs := by
    intro n
    induction n with
    | zero =>
      intro cs h
      obtain ⟨c, rfl⟩ := List.length_eq_one_iff.mp h
      refine ⟨c, 1, [], rfl, rfl, ?_, ?_⟩
      · rw [List.takeWhile_cons_of_pos (by simp)]
        rfl
      · exact ⟨fun _ => rfl, fun _ => rfl⟩
    | succ n ih =>
      intro cs h
      have hne : cs ≠ [] := by rintro rfl; cases h
      obtain ⟨ds, x, rfl⟩ : ∃ ds x, cs = ds ++ [x] := ⟨_, _, (List.dropLast_concat_getLast hne).symm⟩
      rw [List.length_append, List.length_singleton] at h
      exact fst_step (ih ds (by omega))
  cases cs with
  | nil => exact absurd rfl h
  | cons c cs => exact go cs.length _ rfl
theorem runs_sum (cs : List Nat) : ((runs cs).map (·.2)).sum = cs.length := by
  have go : ∀ k, k ≤ cs.length → ((runs (cs.take k)).map (·.2)).sum = k := by
    intro k
    induction k with
    | zero => intro _; rfl
    | succ k ih =>
      intro hk
      have hx : cs[k]? = some cs[k] := List.getElem?_eq_getElem (by omega)
      have ih := ih (by omega)
      rw [take_of hx, runs_snoc]
      cases q : (runs (cs.take k)).getLast? with
      | none =>
        unfold rsn
        rw [q]
        dsimp only
        rw [List.map_append, List.sum_append, ih]
        rfl
      | some y =>
        obtain ⟨y, m⟩ := y
        by_cases c : y = cs[k]
        · subst c
          rw [rsn_grow q]
          obtain ⟨ini, e⟩ : ∃ ini, runs (cs.take k) = ini ++ [(cs[k], m)] := List.getLast?_eq_some_iff.mp q
          rw [e] at ih ⊢
          rw [List.map_append, List.sum_append] at ih
          have e3 : (ini ++ [(cs[k], m)]).set ((ini ++ [(cs[k], m)]).length - 1) (cs[k], m + 1) = ini ++ [(cs[k], m + 1)] := by
            rw [List.length_append, List.length_singleton, Nat.add_sub_cancel, List.set_append_right _ _ (Nat.le_refl _), Nat.sub_self]
            rfl
          rw [e3, List.map_append, List.sum_append]
          simp at ih ⊢
          omega
        · rw [rsn_new q c, List.map_append, List.sum_append, ih]
          rfl
  have := go cs.length (Nat.le_refl _)
  rw [List.take_length] at this
  exact this
theorem fo_at {c0 d : Nat} : ∀ {cs : List Nat}, (cs.filter fun c => c != c0).head? = some d → d ≠ c0 ∧ cs[(cs.takeWhile (· == c0)).length]? = some d ∧ ∀ m, m < (cs.takeWhile (· == c0)).length → cs[m]? = some c0
  | [], h => by cases h
  | c :: cs, h => by
    by_cases k : c = c0
    · subst k
      rw [List.filter_cons_of_neg (by simp)] at h
      obtain ⟨h1, h2, h3⟩ := fo_at h
      rw [List.takeWhile_cons_of_pos (by simp), List.length_cons]
      refine ⟨h1, by simpa using h2, fun m hm => ?_⟩
      cases m with
      | zero => rfl
      | succ m => simpa using h3 m (by omega)
    · rw [List.filter_cons_of_pos (by simpa using k)] at h
      cases h
      rw [List.takeWhile_cons_of_neg (by simpa using k)]
      exact ⟨k, rfl, fun m hm => absurd hm (Nat.not_lt_zero m)⟩
theorem fo_idx {c0 d : Nat} {cs : List Nat} (h : (cs.filter fun c => c != c0).head? = some d) : cs.findIdx? (· == d) = some (cs.takeWhile (· == c0)).length := by
  obtain ⟨h1, h2, h3⟩ := fo_at h
  exact fi_some h2 fun m hm z => by
    rw [h3 m hm] at z
    injection z with z
    exact h1 z.symm
theorem fo_none_iff {c0 : Nat} : ∀ {cs : List Nat}, (cs.filter fun c => c != c0).head? = none ↔ (cs.takeWhile (· == c0)).length = cs.length
  | [] => ⟨fun _ => rfl, fun _ => rfl⟩
  | c :: cs => by
    by_cases k : c = c0
    · subst k
      rw [List.filter_cons_of_neg (by simp), fo_none_iff, List.takeWhile_cons_of_pos (by simp), List.length_cons, List.length_cons]
      omega
    · rw [List.filter_cons_of_pos (by simpa using k), List.takeWhile_cons_of_neg (by simpa using k)]
      exact ⟨fun z => (by cases z), fun z => (by cases z)⟩
theorem firsts_head {c : Nat} {cs : List Nat} : (firstsOf (c :: cs)).head? = some c := by
  have go : ∀ (cs acc : List Nat), acc.head? = some c → (cs.foldl (fun acc x => if x ∈ acc then acc else acc ++ [x]) acc).head? = some c := by
    intro cs
    induction cs with
    | nil => exact fun acc h => h
    | cons x cs ih =>
      intro acc h
      rw [List.foldl_cons]
      refine ih _ ?_
      by_cases k : x ∈ acc
      · rw [if_pos k]
        exact h
      · rw [if_neg k]
        cases acc with
        | nil => cases h
        | cons y ys => exact h
  exact go cs [c] rfl
theorem int_sum : ∀ xs : List (Nat × Nat), (xs.map fun e => ((e.2 : Nat) : Int)).sum = (((xs.map (·.2)).sum : Nat) : Int)
  | [] => rfl
  | x :: xs => by
    rw [List.map_cons, List.map_cons, List.sum_cons, List.sum_cons, int_sum xs, Int.natCast_add]
end LX

namespace LX
open PySem PySem.Spec PyProof.Rows L2
abbrev one1 (c : Nat) : Str := ⟨#[c]⟩
/-! ### numbers below a bound, each once, ascending -/
def asc (m : Nat) (cs : List Nat) : List Nat := (List.range m).filter fun c => decide (c ∈ cs)
theorem asc_up (m : Nat) (cs : List Nat) : (asc m cs).Pairwise (· < ·) := List.Pairwise.filter _ List.pairwise_lt_range
theorem mem_asc {m : Nat} {cs : List Nat} (h : ∀ c ∈ cs, c < m) {c : Nat} : c ∈ asc m cs ↔ c ∈ cs := by
  unfold asc
  rw [List.mem_filter, List.mem_range, decide_eq_true_eq]
  exact ⟨fun z => z.2, fun z => ⟨h c z, z⟩⟩
theorem up_same : ∀ {xs ys : List Nat}, xs.Pairwise (· < ·) → ys.Pairwise (· < ·) → (∀ c, c ∈ xs ↔ c ∈ ys) → xs = ys
  | [], [], _, _, _ => rfl
  | [], y :: ys, _, _, h => absurd ((h y).mpr List.mem_cons_self) (by simp)
  | x :: xs, [], _, _, h => absurd ((h x).mp List.mem_cons_self) (by simp)
  | x :: xs, y :: ys, hx, hy, h => by
    obtain ⟨x1, x2⟩ := List.pairwise_cons.mp hx
    obtain ⟨y1, y2⟩ := List.pairwise_cons.mp hy
    have e : x = y := by
      rcases List.mem_cons.mp ((h x).mp List.mem_cons_self) with a | a
      · exact a
      · rcases List.mem_cons.mp ((h y).mpr List.mem_cons_self) with b | b
        · exact b.symm
        · have := y1 x a
          have := x1 y b
          omega
    subst e
    congr 1
    refine up_same x2 y2 fun c => ?_
    constructor
    · intro z
      rcases List.mem_cons.mp ((h c).mp (List.mem_cons_of_mem _ z)) with q | q
      · have := x1 c z
        omega
      · exact q
    · intro z
      rcases List.mem_cons.mp ((h c).mpr (List.mem_cons_of_mem _ z)) with q | q
      · have := y1 c z
        omega
      · exact q
theorem asc_is {m : Nat} {cs xs : List Nat} (hx : xs.Pairwise (· < ·)) (hc : ∀ c ∈ cs, c < m) (h : ∀ c, c ∈ xs ↔ c ∈ cs) : xs = asc m cs := up_same hx (asc_up m cs) fun c => by rw [h, mem_asc hc]
theorem one1_inj {c d : Nat} (h : one1 c = one1 d) : c = d := by
  injection h with h
  injection h with h
  injection h with h
theorem one1_ge {p d : Nat} (h : ltCps (one1 d).cps.toList (one1 p).cps.toList = false) : p ≤ d := by
  rw [ltCps_eq] at h
  have nl : ¬ ([d] : List Nat) < [p] := by simpa using h
  have : ¬ d < p := fun z => nl (List.cons_lt_cons_iff.mpr (Or.inl z))
  omega
theorem rise1 : ∀ {ds : List Nat} {p : Nat}, risingS (one1 p) (ds.map one1) = true → True ∧ (p :: ds).Pairwise (· ≤ ·)
  | [], p, _ => ⟨trivial, List.pairwise_singleton _ _⟩
  | d :: ds, p, h => by
    have h2 : (!ltCps (one1 d).cps.toList (one1 p).cps.toList && risingS (one1 d) (ds.map one1)) = true := h
    rw [Bool.and_eq_true, Bool.not_eq_true'] at h2
    have g := one1_ge h2.1
    obtain ⟨_, ih⟩ := rise1 h2.2
    refine ⟨trivial, List.pairwise_cons.mpr ⟨fun e he => ?_, ih⟩⟩
    rcases List.mem_cons.mp he with z | z
    · rw [z]
      exact g
    · exact Nat.le_trans g ((List.pairwise_cons.mp ih).1 e z)
/-- texts of one sign, sorted: their codes ascend -/
theorem codes_up {ds : List Nat} (h : sortedS (ds.map one1) = true) (nd : (ds.map one1).Nodup) : ds.Pairwise (· < ·) := by
  have le : ds.Pairwise (· ≤ ·) := by
    cases ds with
    | nil => exact List.Pairwise.nil
    | cons d ds => exact (rise1 h).2
  have ne : ds.Pairwise (· ≠ ·) := List.Pairwise.of_map one1 (fun a b hne e => hne (congrArg one1 e)) nd
  exact (le.and ne).imp fun ⟨a, b⟩ => Nat.lt_of_le_of_ne a b
theorem txt_asc {m : Nat} {cs : List Nat} (hc : ∀ c ∈ cs, c < m) {ys : List Str} (h1 : sortedS ys = true) (h2 : ys.Nodup) (h3 : ∀ k, k ∈ ys ↔ k ∈ cs.map one1) : ys = (asc m cs).map one1 := by
  have all1 : ∀ k ∈ ys, ∃ c, k = one1 c := fun k hk => by
    obtain ⟨c, _, rfl⟩ := List.mem_map.mp ((h3 k).mp hk)
    exact ⟨c, rfl⟩
  obtain ⟨ds, rfl⟩ : ∃ ds : List Nat, ys = ds.map one1 := by
    clear h1 h2 h3
    induction ys with
    | nil => exact ⟨[], rfl⟩
    | cons y ys ih =>
      obtain ⟨c, rfl⟩ := all1 y List.mem_cons_self
      obtain ⟨ds, rfl⟩ := ih fun k hk => all1 k (List.mem_cons_of_mem _ hk)
      exact ⟨c :: ds, rfl⟩
  rw [asc_is (codes_up h1 h2) hc fun c => ?_]
  have q := h3 (one1 c)
  constructor
  · intro z
    obtain ⟨d, hd, e⟩ := List.mem_map.mp (q.mp (List.mem_map_of_mem (f := one1) z))
    rw [← one1_inj e]
    exact hd
  · intro z
    obtain ⟨d, hd, e⟩ := List.mem_map.mp (q.mpr (List.mem_map_of_mem (f := one1) z))
    rw [← one1_inj e]
    exact hd
end LX
/-! ### runs, first items, counts: renamed, reversed, made longer -/
namespace LX
open PySem L2
theorem runs_map {f : Nat → Nat} (hf : ∀ x y, f x = f y → x = y) (cs : List Nat) : runs (cs.map f) = (runs cs).map fun e => (f e.1, e.2) := by
  have go : ∀ k, k ≤ cs.length → runs ((cs.take k).map f) = (runs (cs.take k)).map fun e => (f e.1, e.2) := by
    intro k
    induction k with
    | zero => intro _; rfl
    | succ k ih =>
      intro hk
      have hx : cs[k]? = some cs[k] := List.getElem?_eq_getElem (by omega)
      rw [take_of hx, List.map_append, List.map_singleton, runs_snoc, runs_snoc, ih (by omega)]
      unfold rsn
      rw [List.getLast?_map]
      cases q : (runs (cs.take k)).getLast? with
      | none =>
        rw [List.map_append]
        rfl
      | some e =>
        obtain ⟨y, m⟩ := e
        dsimp only [Option.map_some]
        by_cases c : y = cs[k]
        · rw [if_pos (congrArg f c), if_pos c, List.length_map, List.map_set]
        · rw [if_neg fun z => c (hf _ _ z), if_neg c, List.map_append]
          rfl
  have := go cs.length (Nat.le_refl _)
  rw [List.take_length] at this
  exact this
theorem firsts_map {f : Nat → Nat} (hf : ∀ x y, f x = f y → x = y) (cs : List Nat) : firstsOf (cs.map f) = (firstsOf cs).map f := by
  have go : ∀ k, k ≤ cs.length → firstsOf ((cs.take k).map f) = (firstsOf (cs.take k)).map f := by
    intro k
    induction k with
    | zero => intro _; rfl
    | succ k ih =>
      intro hk
      have hx : cs[k]? = some cs[k] := List.getElem?_eq_getElem (by omega)
      rw [take_of hx, List.map_append, List.map_singleton, firsts_snoc, firsts_snoc, ih (by omega)]
      by_cases c : cs[k] ∈ firstsOf (cs.take k)
      · rw [if_pos c, if_pos (List.mem_map_of_mem c)]
      · rw [if_neg c, if_neg, List.map_append]
        · rfl
        · intro z
          obtain ⟨y, hy, e⟩ := List.mem_map.mp z
          exact c (hf _ _ e ▸ hy)
  have := go cs.length (Nat.le_refl _)
  rw [List.take_length] at this
  exact this
theorem count_map' {f : Nat → Nat} (hf : ∀ x y, f x = f y → x = y) (c : Nat) : ∀ cs : List Nat, (cs.map f).count (f c) = cs.count c
  | [] => rfl
  | x :: cs => by
    rw [List.map_cons, List.count_cons, List.count_cons, count_map' hf c cs]
    congr 1
    by_cases k : x = c
    · subst k
      simp
    · rw [if_neg (by simpa using fun z => k (hf _ _ z)), if_neg (by simpa using k)]
theorem idx_map {f : Nat → Nat} (hf : ∀ x y, f x = f y → x = y) (c : Nat) (cs : List Nat) : (cs.map f).findIdx? (· == f c) = cs.findIdx? (· == c) := by
  rw [List.findIdx?_map]
  congr 1
  funext x
  show (f x == f c) = (x == c)
  rw [Bool.eq_iff_iff, beq_iff_eq, beq_iff_eq]
  exact ⟨hf _ _, congrArg f⟩
theorem head_map {f : Nat → Nat} (hf : ∀ x y, f x = f y → x = y) (c : Nat) (cs : List Nat) : ((cs.map f).filter fun d => d != f c).head? = ((cs.filter fun d => d != c).head?).map f := by
  rw [List.filter_map, List.head?_map]
  congr 3
  funext x
  show (f x != f c) = (x != c)
  by_cases k : x = c
  · subst k
    simp
  · rw [bne_iff_ne.mpr k, bne_iff_ne.mpr fun z => k (hf _ _ z)]
/-- a run item set in front -/
def rcn (x : Nat) : List (Nat × Nat) → List (Nat × Nat)
  | [] => [(x, 1)]
  | (y, k) :: l => if x = y then (y, k + 1) :: l else (x, 1) :: (y, k) :: l
theorem rsn_cons {e : Nat × Nat} {l : List (Nat × Nat)} {z : Nat} (h : l ≠ []) : rsn (e :: l) z = e :: rsn l z := by
  obtain ⟨⟨y, k⟩, hy⟩ := last_ne h
  have hy2 : (e :: l).getLast? = some (y, k) := by
    rw [List.getLast?_cons, hy]
    rfl
  obtain ⟨d, l', rfl⟩ : ∃ d l', l = d :: l' := by
    cases l with
    | nil => exact absurd rfl h
    | cons d l' => exact ⟨d, l', rfl⟩
  by_cases c : y = z
  · subst c
    rw [rsn_grow hy, rsn_grow hy2]
    rfl
  · rw [rsn_new hy c, rsn_new hy2 c]
    rfl
theorem rsn_one (y k z : Nat) : rsn [(y, k)] z = if y = z then [(y, k + 1)] else [(y, k), (z, 1)] := by
  by_cases c : y = z
  · subst c
    rw [if_pos rfl, rsn_grow (k := k) rfl]
    rfl
  · rw [if_neg c, rsn_new (y := y) (k := k) rfl c]
    rfl
theorem rcn_rsn (x z : Nat) (l : List (Nat × Nat)) (h : l ≠ []) : rsn (rcn x l) z = rcn x (rsn l z) := by
  obtain ⟨⟨y, k⟩, l, rfl⟩ : ∃ d l', l = d :: l' := by
    cases l with
    | nil => exact absurd rfl h
    | cons d l' => exact ⟨d, l', rfl⟩
  by_cases hl : l = []
  · subst hl
    rw [rsn_one]
    show rsn (if x = y then [(y, k + 1)] else [(x, 1), (y, k)]) z = _
    by_cases c : x = y
    · rw [if_pos c, rsn_one]
      by_cases d : y = z
      · rw [if_pos d, if_pos d]
        show _ = if x = y then _ else _
        rw [if_pos c]
      · rw [if_neg d, if_neg d]
        show _ = if x = y then _ else _
        rw [if_pos c]
    · rw [if_neg c, rsn_cons (by simp), rsn_one]
      by_cases d : y = z
      · rw [if_pos d]
        show _ = if x = y then _ else _
        rw [if_neg c]
      · rw [if_neg d]
        show _ = if x = y then _ else _
        rw [if_neg c]
  · rw [rsn_cons hl]
    show rsn (if x = y then (y, k + 1) :: l else (x, 1) :: (y, k) :: l) z = if x = y then (y, k + 1) :: rsn l z else (x, 1) :: (y, k) :: rsn l z
    by_cases c : x = y
    · rw [if_pos c, if_pos c, rsn_cons hl]
    · rw [if_neg c, if_neg c, rsn_cons (by simp), rsn_cons hl]
theorem runs_ne {cs : List Nat} (h : cs ≠ []) : runs cs ≠ [] := by
  obtain ⟨c0, k, rest, _, e, _⟩ := fst_runs h
  rw [e]
  exact fun z => by cases z
theorem runs_cons (x : Nat) (cs : List Nat) : runs (x :: cs) = rcn x (runs cs) := by
  have go : ∀ k, k ≤ cs.length → runs (x :: cs.take k) = rcn x (runs (cs.take k)) := by
    intro k
    induction k with
    | zero => intro _; rfl
    | succ k ih =>
      intro hk
      have hx : cs[k]? = some cs[k] := List.getElem?_eq_getElem (by omega)
      rw [take_of hx, ← List.cons_append, runs_snoc, runs_snoc, ih (by omega)]
      by_cases h0 : cs.take k = []
      · rw [h0]
        show rsn [(x, 1)] cs[k] = rcn x (rsn [] cs[k])
        rw [rsn_one, rsn_nil]
        show _ = if x = cs[k] then _ else _
        by_cases c : x = cs[k]
        · rw [if_pos c, if_pos c, c]
        · rw [if_neg c, if_neg c]
      · exact rcn_rsn _ _ _ (runs_ne h0)
  have := go cs.length (Nat.le_refl _)
  rw [List.take_length] at this
  exact this
theorem rcn_rev (x : Nat) (l : List (Nat × Nat)) : rcn x l.reverse = (rsn l x).reverse := by
  cases q : l.getLast? with
  | none =>
    rw [List.getLast?_eq_none_iff] at q
    subst q
    rfl
  | some e =>
    obtain ⟨y, k⟩ := e
    obtain ⟨ini, rfl⟩ := List.getLast?_eq_some_iff.mp q
    rw [List.reverse_append]
    show (if x = y then (y, k + 1) :: ini.reverse else (x, 1) :: (y, k) :: ini.reverse) = _
    by_cases c : y = x
    · subst c
      rw [if_pos rfl, rsn_grow q, List.length_append, List.length_singleton, Nat.add_sub_cancel, List.set_append_right _ _ (Nat.le_refl _), Nat.sub_self, List.reverse_append]
      rfl
    · rw [if_neg fun z => c z.symm, rsn_new q c, List.reverse_append, List.reverse_append]
      rfl
theorem runs_rev (cs : List Nat) : runs cs.reverse = (runs cs).reverse := by
  have go : ∀ k, k ≤ cs.length → runs (cs.take k).reverse = (runs (cs.take k)).reverse := by
    intro k
    induction k with
    | zero => intro _; rfl
    | succ k ih =>
      intro hk
      have hx : cs[k]? = some cs[k] := List.getElem?_eq_getElem (by omega)
      rw [take_of hx, List.reverse_append, runs_snoc]
      show runs (cs[k] :: (cs.take k).reverse) = _
      rw [runs_cons, ih (by omega), rcn_rev]
  have := go cs.length (Nat.le_refl _)
  rw [List.take_length] at this
  exact this
theorem firsts_nodup (cs : List Nat) : (firstsOf cs).Nodup := by
  have go : ∀ k, k ≤ cs.length → (firstsOf (cs.take k)).Nodup := by
    intro k
    induction k with
    | zero => intro _; exact List.nodup_nil
    | succ k ih =>
      intro hk
      have hx : cs[k]? = some cs[k] := List.getElem?_eq_getElem (by omega)
      rw [take_of hx, firsts_snoc]
      by_cases c : cs[k] ∈ firstsOf (cs.take k)
      · rw [if_pos c]
        exact ih (by omega)
      · rw [if_neg c, List.nodup_append]
        refine ⟨ih (by omega), by simp, fun a ha b hb => ?_⟩
        rw [List.mem_singleton] at hb
        rw [hb]
        exact fun z => c (z ▸ ha)
  have := go cs.length (Nat.le_refl _)
  rw [List.take_length] at this
  exact this
/-- the letters of a text, sorted -/
theorem sort_firsts {cs ds : List Nat} (h : ∀ c, c ∈ cs ↔ c ∈ ds) (h122 : ∀ c ∈ cs, c < 123) {ys : List Str} (h1 : PyProof.Rows.sortedS ys = true) (h2 : ys.Perm ((firstsOf cs).map one1)) : ys = (asc 123 ds).map one1 := by
  have e : asc 123 ds = asc 123 cs := by
    unfold asc
    congr 1
    funext c
    exact decide_eq_decide.mpr (h c).symm
  rw [e]
  refine txt_asc h122 h1 ?_ fun k => ?_
  · rw [h2.nodup_iff]
    exact List.Pairwise.map one1 (fun a b hne z => hne (one1_inj z)) (firsts_nodup cs)
  · rw [h2.mem_iff, List.mem_map, List.mem_map]
    constructor
    · rintro ⟨a, ha, e⟩
      exact ⟨a, mem_firsts.mp ha, e⟩
    · rintro ⟨a, ha, e⟩
      exact ⟨a, mem_firsts.mpr ha, e⟩
end LX

namespace K06
open PySem L2 LX
local macro_rules | `(tactic| walk_at "rd") => `(tactic| repeat (first
  | with_reducible refine rd_var rfl ?_ | with_reducible refine rd_c ?_ | with_reducible refine rd_op ?_ | with_reducible refine rd_un ?_ | with_reducible refine rd_I0 ?_ | with_reducible refine rd_U ?_
  | with_reducible refine rd_test ?_ | with_reducible refine rd_tB ?_ | with_reducible refine rd_bl ?_ | with_reducible refine rd_chain ?_
  | with_reducible refine rd_and ?_ | with_reducible refine rd_or ?_ | with_reducible refine rd_not ?_ | with_reducible refine rd_andV ?_ | with_reducible refine rd_orV ?_ | with_reducible refine rd_notV ?_
  | with_reducible refine rd_next ?_ | with_reducible refine rd_seq ?_ | with_reducible refine rd_drop ?_ | with_reducible refine rd_ret ?_ | with_reducible refine rd_ifS ?_ | with_reducible refine rd_asg ?_ | with_reducible refine rd_name ?_
  | with_reducible refine rd_par ?_ | with_reducible refine rd_two ?_ | with_reducible refine rd_2i ?_ | with_reducible refine rd_nil ?_ | with_reducible refine rd_cons ?_ | with_reducible refine rd_tup ?_ | with_reducible refine rd_lst ?_ | with_reducible refine rd_cb ?_ | with_reducible refine rd_call ?_
  | with_reducible refine rd_ixL (by assumption) rfl ?_ | with_reducible refine rd_ixT (by assumption) rfl ?_ | with_reducible refine rd_ixL upd_same rfl ?_ | with_reducible refine rd_sub ?_ | with_reducible refine rd_sl ?_ | with_reducible refine rd_nopart ?_ | with_reducible refine rd_part ?_ | with_reducible refine rd_int ?_
  | with_reducible refine rd_len (by assumption) ?_ | with_reducible refine rd_bm ?_ | with_reducible refine rd_bm0 ?_ | with_reducible refine rd_gcons ?_ | with_reducible refine rd_gnil ?_
  | ((with_reducible refine rd_I ?ci ?_); (case ci => first | assumption | (show (0 : Int) < _; decide) | exact Or.inl ⟨by decide, by decide⟩ | exact Or.inr ⟨by decide, by decide⟩ | exact ⟨by decide, by decide, (by decide : Int.natAbs 10 < 2 ^ 1000)⟩))
  | with_reducible refine rd_setL (by assumption) rfl ?_ | with_reducible refine rd_setL upd_same rfl ?_ | with_reducible refine rd_len upd_same ?_
  | with_reducible refine rd_2ty ?_ | with_reducible refine rd_NT ?_ | with_reducible refine rd_2s ?_ | with_reducible refine rd_lenS ?_ | with_reducible refine rd_lenT (by assumption) ?_ | ((with_reducible refine rd_typ ?ct ?_); (case ct => rfl))
  | ((with_reducible refine rd_eq ?cs ?_); (case cs => rfl)) | ((with_reducible refine rd_ne ?cs ?_); (case cs => rfl))
  | with_reducible refine rd_qtru ?_ | with_reducible refine rd_lstRg ?_ | with_reducible refine rd_rg1 ?_ | with_reducible refine rd_tyes ?_ | with_reducible refine rd_tyL (by assumption) ?_ | with_reducible refine rd_tyT (by assumption) ?_
  | with_reducible refine iteT ?_ | with_reducible refine iteF ?_ | with_reducible refine rd_nt ?_ | with_reducible refine rd_nf ?_
  | (dsimp only)))

variable {P : Program} {w : World} {K : PySem.W.Frag} {mg : Str → Option Value} {base : Heap} {a : Ad}
theorem row_col {r : Row} (V0 : Vr r) : ∀ c ∈ r.map (·.2), 97 ≤ c ∧ c ≤ 122 := fun c hc => by
  obtain ⟨e, he, rfl⟩ := List.mem_map.mp hc
  exact V0.col e he
theorem row_head (r : Row) : (r.headD (0, 0)).2 = (r.map (·.2)).headD 0 := by cases r <;> rfl
def sp__law_results (K : PySem.W.Frag) : Sp := fun vs H Q _ => ∃ (l : Addr) (r : Row), vs = [.ref l] ∧ RowAt H l r ∧ Vr r ∧ ∀ v H', Same H H' → Dp K H' v (dRes (r.map (·.2))) → Q v H'
theorem ok__law_results (T : Txt K mg a) : FnOk P w K mg base CX0 6 a.f__law_results a.d__law_results ["people"] (sp__law_results K) := by
  refine T.F__law_results.ok sc__law_results (fun vs H Q E h => ?_) (fun cdv A outer s H vs Q E hr h => ?_)
  · obtain ⟨l, r, rfl, _⟩ := h
    rfl
  · obtain ⟨l, r, rfl, hR, V0, kq⟩ := h
    have nd := sc__law_results.nd
    have n2 := V0.n2
    refine ⟨_, (pss_cons (ps_set (i := 1) nd rfl (Or.inl rfl) (pe_lst (pa_cons (pe_call (ok_front_color T) (hr.mono (by decide)) rfl T.g_front_color T.k_front_color T.n_front_color .nil pass0 (pa_cons (pv 0) pa_nil)) (pa_cons (pe_call (ok_second_color T) (hr.mono (by decide)) rfl T.g_second_color T.k_second_color T.n_second_color .nil pass0 (pa_cons (pv 0) pa_nil)) (pa_cons (pe_call (ok_color_runs T) (hr.mono (by decide)) rfl T.g_color_runs T.k_color_runs T.n_color_runs .nil pass0 (pa_cons (pv 0) pa_nil)) (pa_cons (pe_call (ok_colors_in_order T) (hr.mono (by decide)) rfl T.g_colors_in_order T.k_colors_in_order T.n_colors_in_order .nil pass0 (pa_cons (pv 0) pa_nil)) pa_nil))))))
      (pss_cons (ps_set (i := 2) nd rfl (Or.inl rfl) pe_str)
      (pss_one (ps_ret (pe_op op_cat (pv 1) (pe_lc (own := [("letter", 3)]) (g := gName 3) (tt := tYes) rfl nd (pi_str (pv 2)) (blkOk_by (own := [("letter", 3)]) (N := ["people", "some", "letters", "letter"]) (sc := defScope s__law_results) (by decide +kernel)) (fun _ _ _ _ _ => (pg_name (i := 3) nd rfl (Or.inl rfl))) (fun _ _ _ _ _ => pts_nil) (fun _ _ _ _ _ => (pe_tup (pa_cons (pe_call (ok_count_of T) (hr.mono (by decide)) rfl T.g_count_of T.k_count_of T.n_count_of .nil pass0 (pa_cons (pv 0) (pa_cons (pv 3) pa_nil))) (pa_cons (pe_call (ok_people_ahead_of T) (hr.mono (by decide)) rfl T.g_people_ahead_of T.k_people_ahead_of T.n_people_ahead_of .nil pass0 (pa_cons (pv 0) (pa_cons (pv 3) pa_nil))) pa_nil)))))))))), ?_⟩
    walk_at "rd"
    refine ⟨l, r, rfl, hR, V0, fun H1 s1 => ?_⟩
    walk_at "rd"
    refine ⟨l, r, rfl, hR.same s1, V0, fun H2 s2 => ?_⟩
    walk_at "rd"
    refine ⟨l, r, rfl, (hR.same s1).same s2, V0, fun L H3 us hL s3 gL hU => ?_⟩
    have s13 := (s1.trans s2).trans s3
    walk_at "rd"
    refine ⟨l, r, rfl, hR.same s13, V0, fun H4 s4 => ?_⟩
    have s14 := s13.trans s4
    have gL4 := s4 _ _ gL
    have hU4 := hU.mono (sTups s4)
    rw [row_head, ← fo_head]
    have cl : (r.map (·.2)).length = r.length := List.length_map _
    generalize hcs : r.map (·.2) = cs at hU4 kq cl
    walk_at "rd"
    refine ⟨by show 4 ≤ sizeLine; decide, fun q hq => ?_⟩
    have s5 := sNew (o := .lst [sg (cs.headD 0), oV ((cs.filter fun d => d != cs.headD 0).head?), .ref L, .str (txt (firstsOf cs))]) hq
    have g5 := upd_same (H := H4) (a := q) (o := .lst [sg (cs.headD 0), oV ((cs.filter fun d => d != cs.headD 0).head?), .ref L, .str (txt (firstsOf cs))])
    generalize upd H4 q (.lst [sg (cs.headD 0), oV ((cs.filter fun d => d != cs.headD 0).head?), .ref L, .str (txt (firstsOf cs))]) = H5 at s5 g5
    have hR5 := (hR.same s14).same s5
    walk_at "rd"
    refine rd_lc (rd_iS ?_)
    walk_at "rd"
    refine ⟨abcZ, rfl, fun D hD => lc_mk (m := fun c => [.int (cs.count c : Nat), oI (cs.findIdx? (· == c))]) (zs := abcN) wk_txt (by decide) (by decide) hD (fun i c x H6 H7 hc s6 y R hT => ?_) fun H6 vs s6 gD hV => ?_⟩
    · obtain ⟨rfl, c', hc', rfl⟩ := y
      obtain ⟨rfl, hi⟩ := abcN_at hc
      obtain ⟨rfl, _⟩ := abcZ_at hc'
      walk_at "rd"
      refine ⟨rfl, ?_⟩
      walk_at "rd"
      refine ⟨l, r, 97 + i, rfl, hR5.same s6, V0, by omega, by omega, fun H8 s8 => ?_⟩
      walk_at "rd"
      refine ⟨l, r, 97 + i, rfl, (hR5.same s6).same s8, V0, by omega, by omega, fun H9 s9 => ?_⟩
      rw [hcs]
      walk_at "rd"
      refine ⟨by show 2 ≤ sizeLine; decide, fun t ht => ?_⟩
      exact hT t _ ((s8.trans s9).trans (sNew ht)) upd_same
    have s56 := s5.trans s6
    have vl := hV.len
    refine rd_cat (s6 _ _ g5) gD ?_ fun e he => ?_
    · rw [List.length_map, vl]
      show 4 + 26 ≤ sizeLine
      decide
    have s7 := sNew (o := .lst ([sg (cs.headD 0), oV ((cs.filter fun d => d != cs.headD 0).head?), .ref L, .str (txt (firstsOf cs))] ++ vs.map V.ref)) he
    have s47 := s56.trans s7
    refine kq _ _ (s14.trans s47) (.lst (SqL.of upd_same) (dp_app ?_ ?_))
    · exact .cons (.str _) (.cons (dp_opt _) (.cons (.lst (SqL.of (s47 _ _ gL4)) ((hU4.mono (sTups s47)).dp fun e => .cons (.str _) (.cons (.int _) .nil))) (.cons (.str _) .nil)))
    · exact (hV.mono (sTups s7)).dp (d := fun c => [.int (cs.count c : Nat), dOI (cs.findIdx? (· == c))]) fun c => .cons (.int _) (.cons (dp_oI _) .nil)
end K06

namespace K06
open PySem L2 LX
local macro_rules | `(tactic| walk_at "rd") => `(tactic| repeat (first
  | with_reducible refine rd_var rfl ?_ | with_reducible refine rd_c ?_ | with_reducible refine rd_op ?_ | with_reducible refine rd_un ?_ | with_reducible refine rd_I0 ?_ | with_reducible refine rd_U ?_
  | with_reducible refine rd_test ?_ | with_reducible refine rd_tB ?_ | with_reducible refine rd_bl ?_ | with_reducible refine rd_chain ?_
  | with_reducible refine rd_and ?_ | with_reducible refine rd_or ?_ | with_reducible refine rd_not ?_ | with_reducible refine rd_andV ?_ | with_reducible refine rd_orV ?_ | with_reducible refine rd_notV ?_
  | with_reducible refine rd_next ?_ | with_reducible refine rd_seq ?_ | with_reducible refine rd_drop ?_ | with_reducible refine rd_ret ?_ | with_reducible refine rd_ifS ?_ | with_reducible refine rd_asg ?_ | with_reducible refine rd_name ?_
  | with_reducible refine rd_par ?_ | with_reducible refine rd_two ?_ | with_reducible refine rd_2i ?_ | with_reducible refine rd_nil ?_ | with_reducible refine rd_cons ?_ | with_reducible refine rd_tup ?_ | with_reducible refine rd_lst ?_ | with_reducible refine rd_cb ?_ | with_reducible refine rd_call ?_
  | with_reducible refine rd_ixL (by assumption) rfl ?_ | with_reducible refine rd_ixT (by assumption) rfl ?_ | with_reducible refine rd_ixL upd_same rfl ?_ | with_reducible refine rd_sub ?_ | with_reducible refine rd_sl ?_ | with_reducible refine rd_nopart ?_ | with_reducible refine rd_part ?_ | with_reducible refine rd_int ?_
  | with_reducible refine rd_len (by assumption) ?_ | with_reducible refine rd_bm ?_ | with_reducible refine rd_bm0 ?_ | with_reducible refine rd_gcons ?_ | with_reducible refine rd_gnil ?_
  | ((with_reducible refine rd_I ?ci ?_); (case ci => first | assumption | (show (0 : Int) < _; decide) | exact Or.inl ⟨by decide, by decide⟩ | exact Or.inr ⟨by decide, by decide⟩ | exact ⟨by decide, by decide, (by decide : Int.natAbs 10 < 2 ^ 1000)⟩))
  | with_reducible refine rd_setL (by assumption) rfl ?_ | with_reducible refine rd_setL upd_same rfl ?_ | with_reducible refine rd_len upd_same ?_
  | with_reducible refine rd_2ty ?_ | with_reducible refine rd_NT ?_ | with_reducible refine rd_2s ?_ | with_reducible refine rd_lenS ?_ | with_reducible refine rd_lenT (by assumption) ?_ | ((with_reducible refine rd_typ ?ct ?_); (case ct => rfl))
  | ((with_reducible refine rd_eq ?cs ?_); (case cs => rfl)) | ((with_reducible refine rd_ne ?cs ?_); (case cs => rfl))
  | with_reducible refine rd_qtru ?_ | with_reducible refine rd_lstRg ?_ | with_reducible refine rd_rg1 ?_ | with_reducible refine rd_tyes ?_ | with_reducible refine rd_tyL (by assumption) ?_ | with_reducible refine rd_tyT (by assumption) ?_
  | with_reducible refine iteT ?_ | with_reducible refine iteF ?_ | with_reducible refine rd_nt ?_ | with_reducible refine rd_nf ?_
  | (dsimp only)))

variable {P : Program} {w : World} {K : PySem.W.Frag} {mg : Str → Option Value} {base : Heap} {a : Ad}
theorem cut_init (xs : List V) : cutV xs none (some (-1)) = xs.take (xs.length - 1) := by
  unfold cutV HT.sIx
  cases xs with
  | nil => rfl
  | cons x xs =>
    simp
    omega
theorem ts_take {α : Type} {f : α → List V} {H : Hp} : ∀ (n : Nat) {ts : List Addr} {r : List α}, TsAt f H ts r → TsAt f H (ts.take n) (r.take n)
  | 0, _, _, _ => by
    rw [List.take_zero, List.take_zero]
    exact True.intro
  | n + 1, [], [], h => h
  | n + 1, t :: ts, e :: r, h => ⟨h.1, ts_take n (ts := ts) (r := r) h.2⟩
  | n + 1, [], _ :: _, h => h.elim
  | n + 1, _ :: _, [], h => h.elim
theorem idx_app {c : Nat} {cs : List Nat} (h : c ∈ cs) (x : Nat) : (cs ++ [x]).findIdx? (· == c) = cs.findIdx? (· == c) := by
  obtain ⟨j, hj, _⟩ := fi_mem h
  rw [List.findIdx?_append, hj]
  rfl
theorem idx_new {c : Nat} {cs : List Nat} (h : c ∉ cs) : (cs ++ [c]).findIdx? (· == c) = some cs.length := by
  refine fi_some (by rw [List.getElem?_append_right (Nat.le_refl _), Nat.sub_self]; rfl) fun m hm z => h ?_
  rw [List.getElem?_append_left hm] at z
  exact List.mem_of_getElem? z
theorem scal_oI (o : Option Nat) : scal (oI o) (oI o) = true := by cases o <;> rfl
def sp__law_longer_right (K : PySem.W.Frag) : Sp := fun vs H Q _ => ∃ (p l : Addr) (r : Row) (b : Nat), vs = [.ref p, .ref l] ∧ SrcN H p b ∧ b ≤ 2 ^ 80 ∧ RowAt H l r ∧ Vr r ∧ r.length < 60 ∧ ∀ H', Same' p H H' → Q (.bl true) H'
theorem ok__law_longer_right (T : Txt K mg a) : FnOk P w K mg base CX0 6 a.f__law_longer_right a.d__law_longer_right ["source", "people"] (sp__law_longer_right K) := by
  refine T.F__law_longer_right.ok sc__law_longer_right (fun vs H Q E h => ?_) (fun cdv A outer s H vs Q E hr h => ?_)
  · obtain ⟨p, l, r, b, rfl, _⟩ := h
    rfl
  · obtain ⟨p, l, r, b, rfl, S, hb, hR, V0, n60, kq⟩ := h
    have nd := sc__law_longer_right.nd
    have hu64 := hr.units
    have n1 := V0.n1
    have n2 := V0.n2
    have lp := src_ne S hR
    have big : b ≤ 2 ^ 100 := by
      have : (2 : Nat) ^ 80 ≤ 2 ^ 100 := by decide
      omega
    refine ⟨_, (pss_cons (ps_set (i := 2) nd rfl (Or.inl rfl) (pe_ix ix_str pe_str (pe_call (ok__law_draw T) (hr.mono (by decide)) rfl T.g__law_draw T.k__law_draw T.n__law_draw .nil pass0 (pa_cons (pv 0) (pa_cons pe_int pa_nil))) (fun _ _ => rfl)))
      (pss_cons (ps_set (i := 3) nd rfl (Or.inl rfl) (pe_op op_cat (pv 1) (pe_lst (pa_cons (pe_tup (pa_cons (pe_callB (klen (K := K)) (by rfl) T.b_len (by decide +kernel) (pa_cons (pv 1) pa_nil)) (pa_cons (pv 2) pa_nil))) pa_nil))))
      (pss_cons (ps_set (i := 4) nd rfl (Or.inl rfl) (pe_call (ok_color_runs T) (hr.mono (by decide)) rfl T.g_color_runs T.k_color_runs T.n_color_runs .nil pass0 (pa_cons (pv 1) pa_nil)))
      (pss_cons (ps_set (i := 5) nd rfl (Or.inl rfl) (pe_op op_cat (pv 4) (pe_lst (pa_cons (pe_tup (pa_cons (pv 2) (pa_cons pe_int pa_nil))) pa_nil))))
      (Evl.pss_cut (ps_if (pt_cmpR op_eq (pe_ix (kix_tup (K := K)) (pe_ix (kix_list (K := K)) (pv 4) (pe_un un_neg pe_int) (fun _ _ => rfl)) pe_int (fun _ _ => rfl)) (pv 2) (nomark _)) (pss_one (ps_set (i := 5) nd rfl (Or.inl rfl) (pe_op op_cat (pe_slice (ksl_list (K := K)) (pv 4) po_none (po_some (pe_un un_neg pe_int))) (pe_lst (pa_cons (pe_tup (pa_cons (pv 2) (pa_cons (pe_op op_add (pe_ix (kix_tup (K := K)) (pe_ix (kix_list (K := K)) (pv 4) (pe_un un_neg pe_int) (fun _ _ => rfl)) pe_int (fun _ _ => rfl)) pe_int) pa_nil))) pa_nil))))) pss_nil)
      (pss_cons (ps_if (PW.pt (pw_or (pt_cmpR (kneD (K := K) hu64) (pe_call (ok_color_runs T) (hr.mono (by decide)) rfl T.g_color_runs T.k_color_runs T.n_color_runs .nil pass0 (pa_cons (pv 3) pa_nil)) (pv 5) (nomark _)) (pw_or1 (pt_cmpR op_ne (pe_call (ok_count_of T) (hr.mono (by decide)) rfl T.g_count_of T.k_count_of T.n_count_of .nil pass0 (pa_cons (pv 3) (pa_cons (pv 2) pa_nil))) (pe_op op_add (pe_call (ok_count_of T) (hr.mono (by decide)) rfl T.g_count_of T.k_count_of T.n_count_of .nil pass0 (pa_cons (pv 1) (pa_cons (pv 2) pa_nil))) pe_int) (nomark _))))) (pss_one (ps_ret pe_bl)) pss_nil)
      (pss_cons (ps_if (pt_cmpR op_ne (pe_call (ok_front_color T) (hr.mono (by decide)) rfl T.g_front_color T.k_front_color T.n_front_color .nil pass0 (pa_cons (pv 3) pa_nil)) (pe_call (ok_front_color T) (hr.mono (by decide)) rfl T.g_front_color T.k_front_color T.n_front_color .nil pass0 (pa_cons (pv 1) pa_nil)) (nomark _)) (pss_one (ps_ret pe_bl)) pss_nil)
      (pss_cons (ps_set (i := 6) nd rfl (Or.inl rfl) (pe_call (ok_colors_in_order T) (hr.mono (by decide)) rfl T.g_colors_in_order T.k_colors_in_order T.n_colors_in_order .nil pass0 (pa_cons (pv 1) pa_nil)))
      (pss_cons (ps_if (pt_cmpR kinT (pv 2) (pv 6) rfl) (pss_one (ps_ret (pe_and (pe_cmpR op_eq (pe_call (ok_colors_in_order T) (hr.mono (by decide)) rfl T.g_colors_in_order T.k_colors_in_order T.n_colors_in_order .nil pass0 (pa_cons (pv 3) pa_nil)) (pv 6) (nomark _)) (pe_one (pe_cmpR op_eq (pe_call (ok_people_ahead_of T) (hr.mono (by decide)) rfl T.g_people_ahead_of T.k_people_ahead_of T.n_people_ahead_of .nil pass0 (pa_cons (pv 3) (pa_cons (pv 2) pa_nil))) (pe_call (ok_people_ahead_of T) (hr.mono (by decide)) rfl T.g_people_ahead_of T.k_people_ahead_of T.n_people_ahead_of .nil pass0 (pa_cons (pv 1) (pa_cons (pv 2) pa_nil))) (nomark _)))))) pss_nil)
      (pss_one (ps_ret (pe_and (pe_cmpR op_eq (pe_call (ok_colors_in_order T) (hr.mono (by decide)) rfl T.g_colors_in_order T.k_colors_in_order T.n_colors_in_order .nil pass0 (pa_cons (pv 3) pa_nil)) (pe_op op_add_str (pv 6) (pv 2)) (nomark _)) (pe_one (pe_cmpR op_eq (pe_call (ok_people_ahead_of T) (hr.mono (by decide)) rfl T.g_people_ahead_of T.k_people_ahead_of T.n_people_ahead_of .nil pass0 (pa_cons (pv 3) (pa_cons (pv 2) pa_nil))) (pe_callB (klen (K := K)) (by rfl) T.b_len (by decide +kernel) (pa_cons (pv 1) pa_nil)) (nomark _))))))))))))))), ?_⟩
    walk_at "rd"
    refine ⟨p, 26, b, rfl, S, big, by decide, by decide, fun z H1 z0 z1 S1 f1 => ?_⟩
    obtain ⟨z, rfl⟩ : ∃ z' : Nat, z = (z' : Int) := ⟨z.toNat, by omega⟩
    have hz : z < 26 := by omega
    have k1 : Same' p H H1 := Same'.of f1
    obtain ⟨sx, hsx⟩ := S.lst
    have hR1 := hR.same' k1 hsx lp
    walk_at "rd"
    refine ⟨_, _, 97 + z, rfl, rfl, abc_len, abc_at z hz, ?_⟩
    obtain ⟨ts, hl, ht⟩ := id hR1
    have tl := ht.len
    have ml : (ts.map V.ref).length = r.length := by rw [List.length_map, tl]
    walk_at "rd"
    rw [ml]
    refine ⟨by show 2 ≤ sizeLine; decide, fun t hT => ?_⟩
    have s2 := sNew (o := .tup (pr (r.length, 97 + z))) hT
    walk_at "rd"
    refine ⟨by show 1 ≤ sizeLine; decide, fun b1 hb1 => ?_⟩
    have s3 := s2.trans (sNew (o := .lst [.ref t]) hb1)
    walk_at "rd"
    refine rd_cat (s3 _ _ hl) upd_same (by rw [ml]; exact sz60' (by show _ + 1 ≤ 100; omega)) fun l2 hl2 => ?_
    have s4 := s3.trans (sNew (o := .lst (ts.map V.ref ++ [.ref t])) hl2)
    have g4 := upd_same (H := upd (upd H1 t (.tup (pr (r.length, 97 + z)))) b1 (.lst [.ref t])) (a := l2) (o := .lst (ts.map V.ref ++ [.ref t]))
    have gt4 : (upd (upd (upd H1 t (.tup (pr (r.length, 97 + z)))) b1 (.lst [.ref t])) l2 (.lst (ts.map V.ref ++ [.ref t]))) t = some (.tup (pr (r.length, 97 + z))) := (sNew hl2) _ _ ((sNew hb1) _ _ upd_same)
    generalize upd (upd (upd H1 t (.tup (pr (r.length, 97 + z)))) b1 (.lst [.ref t])) l2 (.lst (ts.map V.ref ++ [.ref t])) = H4 at s4 g4 gt4
    have hR4 := hR1.same s4
    have V2 : Vr (r ++ [(r.length, 97 + z)]) := by
      have := V0.insert (i := r.length) (c := 97 + z) n60 (by omega)
      rw [List.take_length, List.drop_length, List.append_nil] at this
      exact this
    have hL4 : RowAt H4 l2 (r ++ [(r.length, 97 + z)]) := ⟨ts ++ [t], by rw [g4, List.map_append]; rfl, (ht.mono (sTups s4)).app ⟨gt4, True.intro⟩⟩
    have col := row_col V0
    have hmap : (r ++ [(r.length, 97 + z)]).map (·.2) = r.map (·.2) ++ [97 + z] := by
      rw [List.map_append]
      rfl
    have cl : (r.map (·.2)).length = r.length := List.length_map _
    have cne : r.map (·.2) ≠ [] := fun z => by rw [z] at cl; rw [← cl] at n1; exact absurd n1 (by decide)
    have hhead := row_head r
    have hhead2 := row_head (r ++ [(r.length, 97 + z)])
    rw [hmap] at hhead2
    walk_at "rd"
    refine ⟨l, r, rfl, hR4, V0, fun L H5 us hL5 s5 gL hU => ?_⟩
    generalize hcs : r.map (·.2) = cs at hU col cl cne hhead hhead2 hmap
    have ul := hU.len
    have rl := runs_len cs
    obtain ⟨⟨y, k⟩, hlast⟩ := last_ne (runs_ne cne)
    obtain ⟨t0, ht0, gt0⟩ := hU.last hlast
    have hat : atI (us.map V.ref) (-1) = some (.ref t0) := at_neg1 (by rw [List.length_map, List.getElem?_map, ht0]; rfl)
    have hL5 := hL4.same s5
    have hR5 := hR4.same s5
    walk_at "rd"
    refine ⟨by show 2 ≤ sizeLine; decide, fun t6 ht6 => ?_⟩
    have s6 := sNew (o := .tup (prC (97 + z, 1))) ht6
    walk_at "rd"
    refine ⟨by show 1 ≤ sizeLine; decide, fun b6 hb6 => ?_⟩
    have s7 := s6.trans (sNew (o := .lst [.ref t6]) hb6)
    walk_at "rd"
    refine rd_cat (s7 _ _ gL) upd_same (by rw [List.length_map, ul]; exact sz60' (by show _ + 1 ≤ 100; omega)) fun e he => ?_
    have s8 := s7.trans (sNew (o := .lst (us.map V.ref ++ [.ref t6])) he)
    have g8 := upd_same (H := upd (upd H5 t6 (.tup (prC (97 + z, 1)))) b6 (.lst [.ref t6])) (a := e) (o := .lst (us.map V.ref ++ [.ref t6]))
    have gt8 : (upd (upd (upd H5 t6 (.tup (prC (97 + z, 1)))) b6 (.lst [.ref t6])) e (.lst (us.map V.ref ++ [.ref t6]))) t6 = some (.tup (prC (97 + z, 1))) := (sNew he) _ _ ((sNew hb6) _ _ upd_same)
    generalize upd (upd (upd H5 t6 (.tup (prC (97 + z, 1)))) b6 (.lst [.ref t6])) e (.lst (us.map V.ref ++ [.ref t6])) = H8 at s8 g8 gt8
    have hU8 := hU.mono (sTups s8)
    have gL8 := s8 _ _ gL
    have gt0' := s8 _ _ gt0
    have hR8 := hR5.same s8
    have hL8 := hL5.same s8
    have k8 : Same' p H H8 := k1.trans (sTo p ((s4.trans s5).trans s8))
    have run : runs (cs ++ [97 + z]) = if y = 97 + z then (runs cs).take ((runs cs).length - 1) ++ [(97 + z, k + 1)] else runs cs ++ [(97 + z, 1)] := by
      rw [runs_snoc]
      by_cases c : y = 97 + z
      · subst c
        obtain ⟨ini, hini⟩ := List.getLast?_eq_some_iff.mp hlast
        rw [if_pos rfl, rsn_grow hlast, hini, List.length_append, List.length_singleton, Nat.add_sub_cancel, List.set_append_right _ _ (Nat.le_refl _), Nat.sub_self, List.take_left]
        rfl
      · rw [if_neg c, rsn_new hlast c]
    walk_at "rd"
    refine rd_cut (fun σ' H' => ∃ e' vs, σ' = [some (.ref p), some (.ref l), some (sg (97 + z)), some (.ref l2), some (.ref L), some (.ref e'), none] ∧ Same H8 H' ∧ H' e' = some (.lst (vs.map V.ref)) ∧ TsAt prC H' vs (runs (cs ++ [97 + z]))) ?_ ?_
    · walk_at "rd"
      refine rd_ixL gL8 hat ?_
      walk_at "rd"
      refine rd_dec (fun c => ?_) fun c => ?_
      · have cy : y = 97 + z := sg_inj c
        rw [if_pos cy] at run
        walk_at "rd"
        refine rd_slL gL8 fun b9 hb9 => ?_
        rw [cut_init]
        have s9 := sNew (o := .lst ((us.map V.ref).take ((us.map V.ref).length - 1))) hb9
        have g9 := upd_same (H := H8) (a := b9) (o := .lst ((us.map V.ref).take ((us.map V.ref).length - 1)))
        generalize upd H8 b9 (.lst ((us.map V.ref).take ((us.map V.ref).length - 1))) = H9 at s9 g9
        walk_at "rd"
        refine rd_ixL (s9 _ _ gL8) hat ?_
        walk_at "rd"
        refine rd_ixT (s9 _ _ gt0') rfl ?_
        walk_at "rd"
        refine ⟨by show 2 ≤ sizeLine; decide, fun ta hta => ?_⟩
        have s10 := sNew (o := .tup (prC (97 + z, k + 1))) hta
        walk_at "rd"
        refine ⟨by show 1 ≤ sizeLine; decide, fun bb hbb => ?_⟩
        have s11 := s10.trans (sNew (o := .lst [.ref ta]) hbb)
        walk_at "rd"
        refine rd_cat (s11 _ _ g9) upd_same (by rw [List.length_take, List.length_map, ul]; exact sz60' (by show _ + 1 ≤ 100; omega)) fun ee hee => ?_
        have s12 := s11.trans (sNew (o := .lst ((us.map V.ref).take ((us.map V.ref).length - 1) ++ [.ref ta])) hee)
        have gta : (upd (upd (upd H9 ta (.tup (prC (97 + z, k + 1)))) bb (.lst [.ref ta])) ee (.lst ((us.map V.ref).take ((us.map V.ref).length - 1) ++ [.ref ta]))) ta = some (.tup (prC (97 + z, k + 1))) := (sNew hee) _ _ ((sNew hbb) _ _ upd_same)
        refine ⟨ee, us.take (us.length - 1) ++ [ta], rfl, s9.trans s12, ?_, ?_⟩
        · rw [upd_same, List.map_append, List.length_map, List.map_take]
          rfl
        · rw [run, ul]
          exact ((ts_take _ (hU8.mono (sTups (s9.trans s12))))).snoc gta
      · have cy : y ≠ 97 + z := fun q => c (by rw [q])
        rw [if_neg cy] at run
        walk_at "rd"
        refine ⟨e, us ++ [t6], rfl, Same.refl _, by rw [g8, List.map_append]; rfl, ?_⟩
        rw [run]
        exact hU8.snoc gt8
    rintro σ' H9 ⟨e', vs, rfl, s9, ge, hV⟩
    walk_at "rd"
    refine ⟨l2, _, rfl, hL8.same s9, V2, fun L2 H10 ws hL2 s10 gL2 hW => ?_⟩
    rw [hmap] at hW
    have col2 : ∀ c ∈ cs ++ [97 + z], c ≤ 122 := fun c hc => by
      rcases List.mem_append.mp hc with h | h
      · exact (col c h).2
      · rw [List.mem_singleton.mp h]
        omega
    walk_at "rd"
    refine rd_neD (d := dRuns (runs (cs ++ [97 + z]))) (.lst (SqL.of gL2) (hW.dp fun e => .cons (.str _) (.cons (.int _) .nil))) (.lst (SqL.of (s10 _ _ ge)) ((hV.mono (sTups s10)).dp fun e => .cons (.str _) (.cons (.int _) .nil))) ((Sd.runs fun e he => col2 _ (runs_fst _ e he)).shaped (by decide)) ?_
    have hL10 := (hL8.same s9).same s10
    have hR10 := (hR8.same s9).same s10
    walk_at "rd"
    refine ⟨l2, _, 97 + z, rfl, hL10, V2, by omega, by omega, fun H11 s11 => ?_⟩
    rw [hmap]
    walk_at "rd"
    refine ⟨l, r, 97 + z, rfl, hR10.same s11, V0, by omega, by omega, fun H12 s12 => ?_⟩
    rw [hcs]
    walk_at "rd"
    refine rd_ndec (fun n => absurd ?_ n) fun _ => ?_
    · rw [List.count_append, List.count_singleton_self, Int.natCast_add]
      rfl
    have hR12 := (hR10.same s11).same s12
    have hL12 := (hL10.same s11).same s12
    walk_at "rd"
    refine ⟨l2, _, rfl, hL12, V2, fun H13 s13 => ?_⟩
    walk_at "rd"
    refine ⟨l, r, rfl, hR12.same s13, V0, fun H14 s14 => ?_⟩
    walk_at "rd"
    refine rd_ndec (fun n => absurd ?_ n) fun _ => ?_
    · rw [hhead, hhead2]
      cases cs with
      | nil => exact absurd rfl cne
      | cons c cs => rfl
    have hR14 := (hR12.same s13).same s14
    have hL14 := (hL12.same s13).same s14
    walk_at "rd"
    refine ⟨l, r, rfl, hR14, V0, fun H15 s15 => ?_⟩
    rw [hcs]
    have hR15 := hR14.same s15
    have hL15 := hL14.same s15
    have k15 : Same' p H H15 := k8.trans (sTo p ((((((s9.trans s10).trans s11).trans s12).trans s13).trans s14).trans s15))
    walk_at "rd"
    refine ⟨97 + z, txt (firstsOf cs), rfl, rfl, ?_⟩
    have fs := firsts_snoc cs (97 + z)
    have mem : (97 + z ∈ (txt (firstsOf cs)).cps.toList) = (97 + z ∈ firstsOf cs) := by
      show (97 + z ∈ (firstsOf cs).toArray.toList) = _
      rw [List.toList_toArray]
    by_cases c : 97 + z ∈ firstsOf cs
    · rw [if_pos c] at fs
      rw [if_neg Bool.false_ne_true, decide_eq_true (by rw [mem]; exact c)]
      walk_at "rd"
      refine ⟨l2, _, rfl, hL15, V2, fun H16 s16 => ?_⟩
      rw [hmap, fs]
      walk_at "rd"
      refine rd_yes rfl ?_
      walk_at "rd"
      refine ⟨l2, _, 97 + z, rfl, hL15.same s16, V2, by omega, by omega, fun H17 s17 => ?_⟩
      rw [hmap, idx_app (mem_firsts.mp c)]
      walk_at "rd"
      refine ⟨l, r, 97 + z, rfl, (hR15.same s16).same s17, V0, by omega, by omega, fun H18 s18 => ?_⟩
      rw [hcs]
      refine ⟨scal_oI _, ?_⟩
      rw [decide_eq_true rfl]
      exact kq _ (k15.trans (sTo p ((s16.trans s17).trans s18)))
    · rw [if_neg c] at fs
      rw [if_neg Bool.false_ne_true, decide_eq_false (by rw [mem]; exact c)]
      walk_at "rd"
      refine ⟨l2, _, rfl, hL15, V2, fun H16 s16 => ?_⟩
      rw [hmap, fs]
      have fl := firsts_len cs
      walk_at "rd"
      refine ⟨by rw [txt_len]; exact sz60' (by show _ + 1 ≤ 100; omega), ?_⟩
      walk_at "rd"
      refine rd_yes (by rw [txt_app]) ?_
      walk_at "rd"
      refine ⟨l2, _, 97 + z, rfl, hL15.same s16, V2, by omega, by omega, fun H17 s17 => ?_⟩
      rw [hmap, idx_new fun q => c (mem_firsts.mpr q), show oI (some cs.length) = V.int (cs.length : Nat) from rfl]
      obtain ⟨tz, hlz, htz⟩ := (hR15.same s16).same s17
      have tzl := htz.len
      walk_at "rd"
      rw [List.length_map, tzl, ← cl, decide_eq_true rfl]
      exact kq _ (k15.trans (sTo p (s16.trans s17)))
end K06

namespace K06
open PySem L2 LX
local macro_rules | `(tactic| walk_at "rd") => `(tactic| repeat (first
  | with_reducible refine rd_var rfl ?_ | with_reducible refine rd_c ?_ | with_reducible refine rd_op ?_ | with_reducible refine rd_un ?_ | with_reducible refine rd_I0 ?_ | with_reducible refine rd_U ?_
  | with_reducible refine rd_test ?_ | with_reducible refine rd_tB ?_ | with_reducible refine rd_bl ?_ | with_reducible refine rd_chain ?_
  | with_reducible refine rd_and ?_ | with_reducible refine rd_or ?_ | with_reducible refine rd_not ?_ | with_reducible refine rd_andV ?_ | with_reducible refine rd_orV ?_ | with_reducible refine rd_notV ?_
  | with_reducible refine rd_next ?_ | with_reducible refine rd_seq ?_ | with_reducible refine rd_drop ?_ | with_reducible refine rd_ret ?_ | with_reducible refine rd_ifS ?_ | with_reducible refine rd_asg ?_ | with_reducible refine rd_name ?_
  | with_reducible refine rd_par ?_ | with_reducible refine rd_two ?_ | with_reducible refine rd_2i ?_ | with_reducible refine rd_nil ?_ | with_reducible refine rd_cons ?_ | with_reducible refine rd_tup ?_ | with_reducible refine rd_lst ?_ | with_reducible refine rd_cb ?_ | with_reducible refine rd_call ?_
  | with_reducible refine rd_ixL (by assumption) rfl ?_ | with_reducible refine rd_ixT (by assumption) rfl ?_ | with_reducible refine rd_ixL upd_same rfl ?_ | with_reducible refine rd_sub ?_ | with_reducible refine rd_sl ?_ | with_reducible refine rd_nopart ?_ | with_reducible refine rd_part ?_ | with_reducible refine rd_int ?_
  | with_reducible refine rd_len (by assumption) ?_ | with_reducible refine rd_bm ?_ | with_reducible refine rd_bm0 ?_ | with_reducible refine rd_gcons ?_ | with_reducible refine rd_gnil ?_
  | ((with_reducible refine rd_I ?ci ?_); (case ci => first | assumption | (show (0 : Int) < _; decide) | exact Or.inl ⟨by decide, by decide⟩ | exact Or.inr ⟨by decide, by decide⟩ | exact ⟨by decide, by decide, (by decide : Int.natAbs 10 < 2 ^ 1000)⟩))
  | with_reducible refine rd_setL (by assumption) rfl ?_ | with_reducible refine rd_setL upd_same rfl ?_ | with_reducible refine rd_len upd_same ?_
  | with_reducible refine rd_2ty ?_ | with_reducible refine rd_NT ?_ | with_reducible refine rd_2s ?_ | with_reducible refine rd_lenS ?_ | with_reducible refine rd_lenT (by assumption) ?_ | ((with_reducible refine rd_typ ?ct ?_); (case ct => rfl))
  | ((with_reducible refine rd_eq ?cs ?_); (case cs => rfl)) | ((with_reducible refine rd_ne ?cs ?_); (case cs => rfl))
  | with_reducible refine rd_qtru ?_ | with_reducible refine rd_lstRg ?_ | with_reducible refine rd_rg1 ?_ | with_reducible refine rd_tyes ?_ | with_reducible refine rd_tyL (by assumption) ?_ | with_reducible refine rd_tyT (by assumption) ?_
  | with_reducible refine iteT ?_ | with_reducible refine iteF ?_ | with_reducible refine rd_nt ?_ | with_reducible refine rd_nf ?_
  | (dsimp only)))

variable {P : Program} {w : World} {K : PySem.W.Frag} {mg : Str → Option Value} {base : Heap} {a : Ad}
theorem ts_tups {H : Hp} : ∀ {ts : List Addr} {r : Row}, TsAt (fun e : Nat × Nat => pr e) H ts r → TupsAt H ts r
  | [], [], h => h
  | _ :: ts, _ :: r, h => ⟨h.1, ts_tups (ts := ts) (r := r) h.2⟩
  | [], _ :: _, h => h.elim
  | _ :: _, [], h => h.elim
theorem paired_of {α β : Type} {R : α → β → Prop} : ∀ {xs : List α} {ys : List β}, xs.length = ys.length → (∀ (j : Nat) (x : α) (y : β), xs[j]? = some x → ys[j]? = some y → R x y) → Paired R xs ys
  | [], [], _, _ => .nil
  | x :: xs, y :: ys, h, k => .cons (k 0 x y rfl rfl) (paired_of (by simpa using h) fun j a b ha hb => k (j + 1) a b (by simpa using ha) (by simpa using hb))
  | [], _ :: _, h, _ => by simp at h
  | _ :: _, [], h, _ => by simp at h
theorem abc_nodup : abcN.Nodup := by decide
/-- the renaming that a list of letters gives, as one of all codes -/
def ren (ds : List Nat) (c : Nat) : Nat := if 97 ≤ c ∧ c ≤ 122 then ds.getD (c - 97) 0 else c
theorem ren_in {ds : List Nat} (ok : okc ds) (dl : ds.length = 26) {c : Nat} (h : 97 ≤ c ∧ c ≤ 122) : ds[c - 97]? = some (ren ds c) ∧ 97 ≤ ren ds c ∧ ren ds c ≤ 122 := by
  have e : ds[c - 97]? = some (ren ds c) := by
    unfold ren
    rw [if_pos h, List.getD_eq_getElem?_getD, List.getElem?_eq_getElem (by omega)]
    rfl
  exact ⟨e, ok _ (List.mem_of_getElem? e)⟩
theorem ren_out {ds : List Nat} {c : Nat} (h : ¬ (97 ≤ c ∧ c ≤ 122)) : ren ds c = c := if_neg h
theorem ren_inj {ds : List Nat} (ok : okc ds) (dl : ds.length = 26) (nd : ds.Nodup) (x y : Nat) (e : ren ds x = ren ds y) : x = y := by
  by_cases hx : 97 ≤ x ∧ x ≤ 122
  · obtain ⟨x1, x2⟩ := ren_in ok dl hx
    by_cases hy : 97 ≤ y ∧ y ≤ 122
    · obtain ⟨y1, y2⟩ := ren_in ok dl hy
      rw [e, ← y1] at x1
      have pw := List.pairwise_iff_getElem.mp nd
      have lx : x - 97 < ds.length := by omega
      have ly : y - 97 < ds.length := by omega
      rw [List.getElem?_eq_getElem lx, List.getElem?_eq_getElem ly] at x1
      injection x1 with x1
      rcases Nat.lt_trichotomy (x - 97) (y - 97) with k | k | k
      · exact absurd x1 (pw _ _ lx ly k)
      · omega
      · exact absurd x1.symm (pw _ _ ly lx k)
    · rw [ren_out hy] at e
      rw [e] at x2
      exact absurd x2 hy
  · rw [ren_out hx] at e
    by_cases hy : 97 ≤ y ∧ y ≤ 122
    · obtain ⟨y1, y2⟩ := ren_in ok dl hy
      rw [← e] at y2
      exact absurd y2 hx
    · rw [ren_out hy] at e
      exact e
theorem vr_ren {f : Nat → Nat} {r : Row} (V0 : Vr r) (hf : ∀ c, 97 ≤ c → c ≤ 122 → 97 ≤ f c ∧ f c ≤ 122) : Vr (r.map fun e => (e.1, f e.2)) := by
  refine ⟨by rw [List.length_map]; exact V0.n1, by rw [List.length_map]; exact V0.n2, fun e he => ?_, ?_⟩
  · obtain ⟨d, hd, rfl⟩ := List.mem_map.mp he
    have := V0.col d hd
    exact hf _ this.1 this.2
  · rw [List.length_map, List.map_map]
    exact V0.perm
def sp__law_renamed_right (K : PySem.W.Frag) : Sp := fun vs H Q _ => ∃ (p l : Addr) (r : Row) (b : Nat), vs = [.ref p, .ref l] ∧ SrcN H p b ∧ b ≤ 2 ^ 80 ∧ RowAt H l r ∧ Vr r ∧ ∀ H', SrcN H' p (b + 26) → Same' p H H' → Q (.bl true) H'
theorem ok__law_renamed_right (T : Txt K mg a) : FnOk P w K mg base CX0 6 a.f__law_renamed_right a.d__law_renamed_right ["source", "people"] (sp__law_renamed_right K) := by
  refine T.F__law_renamed_right.ok sc__law_renamed_right (fun vs H Q E h => ?_) (fun cdv A outer s H vs Q E hr h => ?_)
  · obtain ⟨p, l, r, b, rfl, _⟩ := h
    rfl
  · obtain ⟨p, l, r, b, rfl, S, hb, hR, V0, kq⟩ := h
    have nd := sc__law_renamed_right.nd
    have hu64 := hr.units
    have n1 := V0.n1
    have n2 := V0.n2
    have lp := src_ne S hR
    have big : b + 26 ≤ 2 ^ 100 := by
      have : (2 : Nat) ^ 80 + 26 ≤ 2 ^ 100 := by decide
      omega
    have al : (abcZ.cps.toList.map fun c => V.str ⟨#[c]⟩).length = 26 := by decide
    refine ⟨_, (pss_cons (ps_set (i := 2) nd rfl (Or.inl rfl) pe_str)
      (pss_cons (ps_set (i := 3) nd rfl (Or.inr rfl) (pe_callTy (kdictP (K := K) rfl) (by rfl) T.b_dict (by decide +kernel) (pa_cons (pe_listZipT (K := K) rfl (by rfl) T.b_list (by rfl) T.b_zip (pa_cons (pv 2) (pa_cons (pe_call (ok__law_shuffled T) (hr.mono (by decide)) rfl T.g__law_shuffled T.k__law_shuffled T.n__law_shuffled .nil pass0 (pa_cons (pv 0) (pa_cons (pv 2) pa_nil))) pa_nil))) pa_nil)))
      (pss_cons (ps_setLc (i := 4) (own := [("person", 7), ("letter", 6)]) (g := gTup K 2 (gCons (gName 7) (gCons (gName 6) gNil))) (tt := tYes) rfl nd rfl rfl (sw_true rfl rfl rfl (by decide +kernel)) (kpi_list (K := K) (pv 1)) (blkOk_by (own := [("person", 7), ("letter", 6)]) (N := ["source", "people", "letters", "names", "renamed", "second", "letter", "person", "length"]) (sc := defScope s__law_renamed_right) (by decide +kernel)) (fun _ _ _ _ _ => (kpg_tup (K := K) rfl (pgs_cons (pg_name (i := 7) nd rfl (Or.inl rfl)) (pgs_cons (pg_name (i := 6) nd rfl (Or.inl rfl)) pgs_nil)))) (fun _ _ _ _ _ => pts_nil) (fun _ _ _ _ _ => (pe_tup (pa_cons (pv 7) (pa_cons (pe_dget (u1_of hu64) (pv 3) (pv 6) (fun _ _ => rfl)) pa_nil)))))
      (pss_cons (ps_if (pt_cmpR (kneD (K := K) hu64) (pe_call (ok_color_runs T) (hr.mono (by decide)) rfl T.g_color_runs T.k_color_runs T.n_color_runs .nil pass0 (pa_cons (pv 4) pa_nil)) (pe_lc (own := [("letter", 6), ("length", 8)]) (g := gTup K 2 (gCons (gName 6) (gCons (gName 8) gNil))) (tt := tYes) rfl nd (kpi_list (K := K) (pe_call (ok_color_runs T) (hr.mono (by decide)) rfl T.g_color_runs T.k_color_runs T.n_color_runs .nil pass0 (pa_cons (pv 1) pa_nil))) (blkOk_by (own := [("letter", 6), ("length", 8)]) (N := ["source", "people", "letters", "names", "renamed", "second", "letter", "person", "length"]) (sc := defScope s__law_renamed_right) (by decide +kernel)) (fun _ _ _ _ _ => (kpg_tup (K := K) rfl (pgs_cons (pg_name (i := 6) nd rfl (Or.inl rfl)) (pgs_cons (pg_name (i := 8) nd rfl (Or.inl rfl)) pgs_nil)))) (fun _ _ _ _ _ => pts_nil) (fun _ _ _ _ _ => (pe_tup (pa_cons (pe_dget (u1_of hu64) (pv 3) (pv 6) (fun _ _ => rfl)) (pa_cons (pv 8) pa_nil))))) (nomark _)) (pss_one (ps_ret pe_bl)) pss_nil)
      (pss_cons (ps_if (pt_cmpR op_ne (pe_call (ok_front_color T) (hr.mono (by decide)) rfl T.g_front_color T.k_front_color T.n_front_color .nil pass0 (pa_cons (pv 4) pa_nil)) (pe_dget (u1_of hu64) (pv 3) (pe_call (ok_front_color T) (hr.mono (by decide)) rfl T.g_front_color T.k_front_color T.n_front_color .nil pass0 (pa_cons (pv 1) pa_nil)) (fun _ _ => rfl)) (nomark _)) (pss_one (ps_ret pe_bl)) pss_nil)
      (pss_cons (ps_if (pt_cmpR op_ne (pe_call (ok_colors_in_order T) (hr.mono (by decide)) rfl T.g_colors_in_order T.k_colors_in_order T.n_colors_in_order .nil pass0 (pa_cons (pv 4) pa_nil)) (kbm (K := K) PySem.F.plainAttrs_str PySem.F.slot_str_join PySem.F.type_str_join mt_join pe_str (pa_cons (pe_lc (own := [("letter", 6)]) (g := gName 6) (tt := tYes) rfl nd (pi_str (pe_call (ok_colors_in_order T) (hr.mono (by decide)) rfl T.g_colors_in_order T.k_colors_in_order T.n_colors_in_order .nil pass0 (pa_cons (pv 1) pa_nil))) (blkOk_by (own := [("letter", 6)]) (N := ["source", "people", "letters", "names", "renamed", "second", "letter", "person", "length"]) (sc := defScope s__law_renamed_right) (by decide +kernel)) (fun _ _ _ _ _ => (pg_name (i := 6) nd rfl (Or.inl rfl))) (fun _ _ _ _ _ => pts_nil) (fun _ _ _ _ _ => (pe_dget (u1_of hu64) (pv 3) (pv 6) (fun _ _ => rfl)))) pa_nil)) (nomark _)) (pss_one (ps_ret pe_bl)) pss_nil)
      (pss_cons (ps_set (i := 5) nd rfl (Or.inl rfl) (pe_call (ok_second_color T) (hr.mono (by decide)) rfl T.g_second_color T.k_second_color T.n_second_color .nil pass0 (pa_cons (pv 1) pa_nil)))
      (pss_cons (ps_if (pt_cmpR op_ne (pe_call (ok_second_color T) (hr.mono (by decide)) rfl T.g_second_color T.k_second_color T.n_second_color .nil pass0 (pa_cons (pv 4) pa_nil)) (pe_ifExp (pt_cmpR op_isN (pv 5) pe_non (nomark _)) pe_non (pe_dget (u1_of hu64) (pv 3) (pv 5) (fun _ _ => rfl))) (nomark _)) (pss_one (ps_ret pe_bl)) pss_nil)
      (pss_cons (ps_for PassesOwn.never rfl (pi_str (pv 2)) (pg_name (i := 6) nd rfl (Or.inl rfl)) (pss_cons (ps_if (pt_cmpR op_ne (pe_call (ok_count_of T) (hr.mono (by decide)) rfl T.g_count_of T.k_count_of T.n_count_of .nil pass0 (pa_cons (pv 4) (pa_cons (pe_dget (u1_of hu64) (pv 3) (pv 6) (fun _ _ => rfl)) pa_nil))) (pe_call (ok_count_of T) (hr.mono (by decide)) rfl T.g_count_of T.k_count_of T.n_count_of .nil pass0 (pa_cons (pv 1) (pa_cons (pv 6) pa_nil))) (nomark _)) (pss_one (ps_ret pe_bl)) pss_nil)
      (pss_one (ps_if (pt_cmpR op_ne (pe_call (ok_people_ahead_of T) (hr.mono (by decide)) rfl T.g_people_ahead_of T.k_people_ahead_of T.n_people_ahead_of .nil pass0 (pa_cons (pv 4) (pa_cons (pe_dget (u1_of hu64) (pv 3) (pv 6) (fun _ _ => rfl)) pa_nil))) (pe_call (ok_people_ahead_of T) (hr.mono (by decide)) rfl T.g_people_ahead_of T.k_people_ahead_of T.n_people_ahead_of .nil pass0 (pa_cons (pv 1) (pa_cons (pv 6) pa_nil))) (nomark _)) (pss_one (ps_ret pe_bl)) pss_nil))))
      (pss_one (ps_ret pe_bl))))))))))), ?_⟩
    walk_at "rd"
    refine rd_lzT ?_
    walk_at "rd"
    refine ⟨p, .str abcZ, _, b, rfl, S, Or.inr ⟨abcZ, rfl, rfl⟩, by rw [al]; decide, by rw [al]; exact big, fun A' H1 ys hA k1 S1 gA py => ?_⟩
    rw [al] at S1
    obtain ⟨ds, rfl, ok, dl⟩ := perm_letters py
    have dnd : ds.Nodup := by
      have h1 : (abcN.map sg).Nodup := List.Pairwise.map sg (fun x y hne e => hne (sg_inj e)) abc_nodup
      have e1 : (abcZ.cps.toList.map fun c => V.str ⟨#[c]⟩) = abcN.map sg := by rw [abcZ_eq]
      rw [e1] at py
      exact List.Pairwise.of_map sg (fun x y hne e => hne (congrArg sg e)) (py.nodup_iff.mpr h1)
    have nA := S.not_none hA
    obtain ⟨sx, hsx⟩ := S.lst
    have hR1 := hR.same' k1 hsx lp
    walk_at "rd"
    refine ⟨abcZ, A', _, rfl, by decide, SqL.of gA, by rw [List.length_map, dl]; rfl, fun L H2 Ts hL s2 gL lT hT => ?_⟩
    have lT26 : Ts.length = 26 := lT
    have kl : ((abcN.zip ds).map fun e => ((.inr ⟨#[e.1]⟩ : Key), sg e.2)).length = 26 := by
      rw [List.length_map, List.length_zip, dl]
      rfl
    have zat : ∀ (j : Nat) (kv : Key × V), ((abcN.zip ds).map fun e => ((.inr ⟨#[e.1]⟩ : Key), sg e.2))[j]? = some kv → ∃ d, j < 26 ∧ ds[j]? = some d ∧ kv = (.inr ⟨#[97 + j]⟩, sg d) := by
      intro j kv h
      rw [List.getElem?_map] at h
      obtain ⟨e, he, rfl⟩ := Option.map_eq_some_iff.mp h
      rw [List.getElem?_zip_eq_some] at he
      obtain ⟨e1, e2⟩ := he
      obtain ⟨e3, e4⟩ := abcN_at e1
      exact ⟨e.2, e4, e2, by rw [e3]⟩
    walk_at "rd"
    refine ⟨L, Ts, (abcN.zip ds).map fun e => ((.inr ⟨#[e.1]⟩ : Key), sg e.2), rfl, SqL.of gL, paired_of (by rw [lT26, kl]) fun j T kv hj hkv => ?_, fun N hN => ?_⟩
    · obtain ⟨d, hj26, hd, rfl⟩ := zat j kv hkv
      obtain ⟨T', hT', gT'⟩ := hT j (97 + j) (sg d) (by
        have := abcZ_eq
        have e : abcZ.cps[j]? = abcN[j]? := by rw [← abcZ_eq, Array.getElem?_toList]
        rw [e, List.getElem?_map, List.getElem?_range hj26]
        rfl) (by rw [List.getElem?_map, hd]; rfl)
      rw [hj] at hT'
      cases hT'
      exact SqT.of gT'
    have s3 := sNew (o := .dK (mergeK [] ((abcN.zip ds).map fun e => ((.inr ⟨#[e.1]⟩ : Key), sg e.2)))) hN
    have hNm : NmAt (upd H2 N (.dK (mergeK [] ((abcN.zip ds).map fun e => ((.inr ⟨#[e.1]⟩ : Key), sg e.2))))) N (ren ds) := by
      refine ⟨_, upd_same, fun c c0 c1 => ?_⟩
      obtain ⟨hc, _⟩ := ren_in ok dl ⟨c0, c1⟩
      have keys : (((abcN.zip ds).map fun e => ((.inr ⟨#[e.1]⟩ : Key), sg e.2)).map (·.1)).Nodup := by
        rw [List.map_map]
        have e1 : (abcN.zip ds).map ((fun x : Key × V => x.1) ∘ fun e : Nat × Nat => ((.inr ⟨#[e.1]⟩ : Key), sg e.2)) = ((abcN.zip ds).map (·.1)).map fun c => (.inr ⟨#[c]⟩ : Key) := by
          rw [List.map_map]
          rfl
        rw [e1, List.map_fst_zip (by rw [dl]; decide)]
        exact List.Pairwise.map (fun c => (.inr ⟨#[c]⟩ : Key)) (fun x y hne e => hne (by
          injection e with e
          injection e with e
          injection e with e
          injection e with e)) abc_nodup
      have at_ : ((abcN.zip ds).map fun e => ((.inr ⟨#[e.1]⟩ : Key), sg e.2))[c - 97]? = some (.inr ⟨#[c]⟩, sg (ren ds c)) := by
        rw [List.getElem?_map]
        have : (abcN.zip ds)[c - 97]? = some (c, ren ds c) := by
          rw [List.getElem?_zip_eq_some]
          refine ⟨?_, hc⟩
          rw [List.getElem?_map, List.getElem?_range (by omega)]
          show some (97 + (c - 97)) = some c
          congr 1
          omega
        rw [this]
        rfl
      exact merge_at keys at_
    generalize upd H2 N (.dK (mergeK [] ((abcN.zip ds).map fun e => ((.inr ⟨#[e.1]⟩ : Key), sg e.2)))) = H3 at s3 hNm
    have hF := ren_inj ok dl dnd
    have hin : ∀ c, 97 ≤ c → c ≤ 122 → 97 ≤ ren ds c ∧ ren ds c ≤ 122 := fun c a1 a2 => (ren_in ok dl ⟨a1, a2⟩).2
    have s13 := s2.trans s3
    have S3 := S1.same s13
    have k3 : Same' p H H3 := k1.trans (sTo p s13)
    have hR3 := hR1.same s13
    generalize ren ds = f at hNm hF hin
    clear hT zat kl
    obtain ⟨ts, hl, ht⟩ := id hR3
    have tl := ht.len
    walk_at "rd"
    refine rd_lc (rd_iList ?_)
    walk_at "rd"
    refine ⟨l, rfl, ⟨_, SqL.of hl⟩, fun D hD => lc_mk (m := fun e : Nat × Nat => pr e) (zs := r.map fun e => (e.1, f e.2)) (wk_list (K := K) hl) (by rw [List.length_map, List.length_map, tl]) (by rw [List.length_map]; omega) hD (fun i e x H4 H5 he s4 y R hT => ?_) fun H4 us s4 gD hV => ?_⟩
    · obtain ⟨rfl, hx⟩ := y
      rw [List.getElem?_map] at he hx
      obtain ⟨d, hd, rfl⟩ := Option.map_eq_some_iff.mp he
      obtain ⟨t, ht1, rfl⟩ := Option.map_eq_some_iff.mp hx
      obtain ⟨d', hd', gt⟩ := ht.get ht1
      rw [hd] at hd'
      cases hd'
      have dc := V0.col d (List.mem_of_getElem? hd)
      refine rd_gtup (s4 _ _ gt) rfl ?_
      walk_at "rd"
      refine ⟨rfl, ?_⟩
      walk_at "rd"
      refine rd_nm ?_
      walk_at "rd"
      refine ⟨N, _, rfl, (hNm.same s4).get dc.1 dc.2, ?_⟩
      walk_at "rd"
      refine ⟨by show 2 ≤ sizeLine; decide, fun t2 ht2 => ?_⟩
      exact hT t2 _ (sNew ht2) upd_same
    have V4 := vr_ren V0 hin
    have hD4 : RowAt H4 D (r.map fun e => (e.1, f e.2)) := ⟨us, gD, ts_tups hV⟩
    have hR4 := hR3.same s4
    have hN4 := hNm.same s4
    have k4 := k3.trans (sTo p s4)
    have S4 := S3.same s4
    have col := row_col V0
    have hmap : (r.map fun e => (e.1, f e.2)).map (·.2) = (r.map (·.2)).map f := by
      rw [List.map_map, List.map_map]
      rfl
    have cl : (r.map (·.2)).length = r.length := List.length_map _
    have cne : r.map (·.2) ≠ [] := fun z => by rw [z] at cl; rw [← cl] at n1; exact absurd n1 (by decide)
    have hhead := row_head r
    have hhead2 := row_head (r.map fun e => (e.1, f e.2))
    rw [hmap] at hhead2
    have col2 : ∀ c ∈ (r.map (·.2)).map f, c ≤ 122 := fun c hc => by
      obtain ⟨d, hd, rfl⟩ := List.mem_map.mp hc
      exact (hin d (col d hd).1 (col d hd).2).2
    have hfo := fo_head r
    have hfo2 := fo_head (r.map fun e => (e.1, f e.2))
    rw [hmap] at hfo2
    walk_at "rd"
    refine ⟨D, _, rfl, hD4, V4, fun L5 H5 vs hL5 s5 gL5 hV5 => ?_⟩
    rw [hmap] at hV5
    have hD5 := hD4.same s5
    walk_at "rd"
    refine rd_lc (rd_iList ?_)
    walk_at "rd"
    refine ⟨l, r, rfl, hR4.same s5, V0, fun L6 H6 ws hL6 s6 gL6 hW6 => ?_⟩
    have rl := runs_len (r.map (·.2))
    have wl := hW6.len
    refine ⟨L6, rfl, ⟨_, SqL.of gL6⟩, fun D2 hD2 => lc_mk (m := prC) (zs := (runs (r.map (·.2))).map fun e => (f e.1, e.2)) (wk_list (K := K) gL6) (by rw [List.length_map, List.length_map, wl]) (by rw [List.length_map]; omega) hD2 (fun i e x H7 H8 he s7 y R hT => ?_) fun H7 xs s7 gD2 hX => ?_⟩
    · obtain ⟨rfl, hx⟩ := y
      rw [List.getElem?_map] at he hx
      obtain ⟨d, hd, rfl⟩ := Option.map_eq_some_iff.mp he
      obtain ⟨t, ht1, rfl⟩ := Option.map_eq_some_iff.mp hx
      obtain ⟨d', hd', gt⟩ := hW6.get ht1
      rw [hd] at hd'
      cases hd'
      have dc := col d.1 (runs_fst _ d (List.mem_of_getElem? hd))
      refine rd_gtup (s7 _ _ gt) rfl ?_
      walk_at "rd"
      refine ⟨rfl, ?_⟩
      walk_at "rd"
      refine rd_nm ?_
      walk_at "rd"
      refine ⟨N, _, rfl, (((hN4.same s5).same s6).same s7).get dc.1 dc.2, ?_⟩
      walk_at "rd"
      refine ⟨by show 2 ≤ sizeLine; decide, fun t2 ht2 => ?_⟩
      exact hT t2 _ (sNew ht2) upd_same
    have s57 := s6.trans s7
    rw [← runs_map hF] at hX
    walk_at "rd"
    refine rd_neD (d := dRuns (runs ((r.map (·.2)).map f))) (.lst (SqL.of (s57 _ _ gL5)) ((hV5.mono (sTups s57)).dp fun e => .cons (.str _) (.cons (.int _) .nil))) (.lst (SqL.of gD2) (hX.dp fun e => .cons (.str _) (.cons (.int _) .nil))) ((Sd.runs fun e he => col2 _ (runs_fst _ e he)).shaped (by decide)) ?_
    have s47 := s5.trans s57
    have hD7 := hD4.same s47
    have hR7 := hR4.same s47
    have hN7 := hN4.same s47
    walk_at "rd"
    refine ⟨D, _, rfl, hD7, V4, fun H8 s8 => ?_⟩
    walk_at "rd"
    refine rd_nm ?_
    walk_at "rd"
    refine ⟨l, r, rfl, hR7.same s8, V0, fun H9 s9 => ?_⟩
    have hc0 : (r.headD (0, 0)).2 ∈ r.map (·.2) := by
      cases r with
      | nil => exact absurd rfl cne
      | cons e r => exact List.mem_cons_self
    have c0b := col _ hc0
    have hf0 : ((r.map fun e => (e.1, f e.2)).headD (0, 0)).2 = f (r.headD (0, 0)).2 := by
      cases r with
      | nil => exact absurd rfl cne
      | cons e r => rfl
    rw [hf0]
    refine ⟨N, _, rfl, ((hN7.same s8).same s9).get c0b.1 c0b.2, ?_⟩
    walk_at "rd"
    refine rd_ndec (fun n => absurd rfl n) fun _ => ?_
    have s79 := s8.trans s9
    have hD9 := hD7.same s79
    have hR9 := hR7.same s79
    have hN9 := hN7.same s79
    walk_at "rd"
    refine ⟨D, _, rfl, hD9, V4, fun H10 s10 => ?_⟩
    rw [hmap, firsts_map hF]
    walk_at "rd"
    refine ⟨rfl, ?_⟩
    have fl := firsts_len (r.map (·.2))
    have hR10 := hR9.same s10
    have hN10 := hN9.same s10
    refine rd_cons ?_
    refine rd_lc (rd_iS ?_)
    walk_at "rd"
    refine ⟨l, r, rfl, hR10, V0, fun H11 s11 => ?_⟩
    refine ⟨_, rfl, fun D3 hD3 => lc_mv (v := fun c => sg (f c)) (zs := firstsOf (r.map (·.2))) wk_txt (txt_len _).symm (by show (txt (firstsOf (r.map (·.2)))).length ≤ 1000; rw [txt_len]; omega) hD3 (fun i c x H12 H13 hc s12 y R hT => ?_) fun H12 s12 gD3 => ?_⟩
    · obtain ⟨rfl, c', hc', rfl⟩ := y
      have e : c' = c := by
        have h1 : (firstsOf (r.map (·.2))).toArray[i]? = some c' := hc'
        rw [List.getElem?_toArray, hc] at h1
        injection h1 with h1
        exact h1.symm
      subst e
      have dc := col c' (mem_firsts.mp (List.mem_of_getElem? hc))
      walk_at "rd"
      refine ⟨rfl, ?_⟩
      walk_at "rd"
      refine rd_nm ?_
      walk_at "rd"
      exact ⟨N, _, rfl, ((hN10.same s11).same s12).get dc.1 dc.2, hT _ (Same.refl _)⟩
    walk_at "rd"
    refine ⟨_, D3, ((firstsOf (r.map (·.2))).map f).map fun c => (⟨#[c]⟩ : Str), rfl, rfl, Or.inl (SqL.of (by rw [gD3, List.map_map, List.map_map]; rfl)), ?_, ?_⟩
    · rw [len_ones, List.length_map, List.length_map, List.length_map]
      have : (Str.ofString "").length = 0 := by decide
      rw [this]
      omega
    rw [join_ones]
    walk_at "rd"
    refine rd_ndec (fun n => absurd rfl n) fun _ => ?_
    have s1012 := (s10.trans s11).trans s12
    have hD12 := hD9.same s1012
    have hR12 := hR9.same s1012
    have hN12 := hN9.same s1012
    walk_at "rd"
    refine ⟨l, r, rfl, hR12, V0, fun H13 s13 => ?_⟩
    walk_at "rd"
    refine ⟨D, _, rfl, hD12.same s13, V4, fun H14 s14 => ?_⟩
    rw [hf0, ← hfo2, head_map hF, hfo]
    have ho : ∀ d, fo r (r.headD (0, 0)).2 = some d → 97 ≤ d ∧ d ≤ 122 := fun d hd => by
      rw [← hfo] at hd
      exact col d (List.mem_filter.mp (List.mem_of_head? hd)).1
    have s914 := (s1012.trans s13).trans s14
    have hD14 := hD9.same s914
    have hR14 := hR9.same s914
    have hN14 := hN9.same s914
    have k14 : Same' p H H14 := ((k4.trans (sTo p s47)).trans (sTo p s79)).trans (sTo p s914)
    have S14 : SrcN H14 p (b + 26) := ((S4.same s47).same s79).same s914
    clear hR hR1 hR3 hR4 hR7 hR9 hR10 hR12 hD4 hD5 hD7 hD9 hD12 hNm hN4 hN7 hN9 hN10 hN12
    generalize fo r (r.headD (0, 0)).2 = o2 at ho
    cases o2
    case' none =>
      dsimp only [Option.map_none]
      refine rd_ifE ?_
      walk_at "rd"
      refine ⟨rfl, ⟨_, rfl, rd_yes rfl ?_⟩⟩
      walk_at "rd"
      refine rd_ndec (fun n => absurd rfl n) fun _ => ?_
    case' some d =>
      have hd := ho d rfl
      dsimp only [Option.map_some]
      refine rd_ifE ?_
      walk_at "rd"
      refine ⟨rfl, ⟨_, rfl, rd_no (by intro z; cases z) ?_⟩⟩
      walk_at "rd"
      refine rd_nm ?_
      walk_at "rd"
      refine ⟨N, _, rfl, hN14.get hd.1 hd.2, ?_⟩
      walk_at "rd"
      refine rd_ndec (fun n => absurd rfl n) fun _ => ?_
    all_goals
      walk_at "rd"
      refine ⟨.str abcZ, rfl, abcZ, rfl, for_txt (fun j σ H' => ∃ x5 x6, σ = [some (.ref p), some (.ref l), some (.str abcZ), some (.ref N), some (.ref D), x5, x6, none, none] ∧ Same H14 H') ⟨_, _, rfl, Same.refl _⟩ ?_ ?_⟩
      · rintro j c σ H15 hj ⟨x5, x6, rfl, s15⟩
        obtain ⟨rfl, hj26⟩ := abcZ_at hj
        have hb2 := hin (97 + j) (by omega) (by omega)
        walk_at "rd"
        refine rd_nm ?_
        walk_at "rd"
        refine ⟨N, _, rfl, (hN14.same s15).get (by omega) (by omega), ?_⟩
        walk_at "rd"
        refine ⟨D, _, f (97 + j), rfl, hD14.same s15, V4, hb2.1, hb2.2, fun H16 s16 => ?_⟩
        rw [hmap, count_map' hF]
        walk_at "rd"
        refine ⟨l, r, 97 + j, rfl, (hR14.same s15).same s16, V0, by omega, by omega, fun H17 s17 => ?_⟩
        walk_at "rd"
        refine rd_ndec (fun n => absurd rfl n) fun _ => ?_
        have s1517 := s16.trans s17
        walk_at "rd"
        refine rd_nm ?_
        walk_at "rd"
        refine ⟨N, _, rfl, ((hN14.same s15).same s1517).get (by omega) (by omega), ?_⟩
        walk_at "rd"
        refine ⟨D, _, f (97 + j), rfl, (hD14.same s15).same s1517, V4, hb2.1, hb2.2, fun H18 s18 => ?_⟩
        rw [hmap, idx_map hF]
        walk_at "rd"
        refine ⟨l, r, 97 + j, rfl, ((hR14.same s15).same s1517).same s18, V0, by omega, by omega, fun H19 s19 => ?_⟩
        refine ⟨scal_oI _, ?_⟩
        walk_at "rd"
        refine rd_ndec (fun n => absurd rfl n) fun _ => ?_
        walk_at "rd"
        exact ⟨_, _, rfl, ((s15.trans s1517).trans s18).trans s19⟩
      · rintro σ H15 ⟨x5, x6, rfl, s15⟩
        walk_at "rd"
        exact kq _ (S14.same s15) (k14.trans (sTo p s15))
end K06

namespace K06
open PySem L2 LX
local macro_rules | `(tactic| walk_at "rd") => `(tactic| repeat (first
  | with_reducible refine rd_var rfl ?_ | with_reducible refine rd_c ?_ | with_reducible refine rd_op ?_ | with_reducible refine rd_un ?_ | with_reducible refine rd_I0 ?_ | with_reducible refine rd_U ?_
  | with_reducible refine rd_test ?_ | with_reducible refine rd_tB ?_ | with_reducible refine rd_bl ?_ | with_reducible refine rd_chain ?_
  | with_reducible refine rd_and ?_ | with_reducible refine rd_or ?_ | with_reducible refine rd_not ?_ | with_reducible refine rd_andV ?_ | with_reducible refine rd_orV ?_ | with_reducible refine rd_notV ?_
  | with_reducible refine rd_next ?_ | with_reducible refine rd_seq ?_ | with_reducible refine rd_drop ?_ | with_reducible refine rd_ret ?_ | with_reducible refine rd_ifS ?_ | with_reducible refine rd_asg ?_ | with_reducible refine rd_name ?_
  | with_reducible refine rd_par ?_ | with_reducible refine rd_two ?_ | with_reducible refine rd_2i ?_ | with_reducible refine rd_nil ?_ | with_reducible refine rd_cons ?_ | with_reducible refine rd_tup ?_ | with_reducible refine rd_lst ?_ | with_reducible refine rd_cb ?_ | with_reducible refine rd_call ?_
  | with_reducible refine rd_ixL (by assumption) rfl ?_ | with_reducible refine rd_ixT (by assumption) rfl ?_ | with_reducible refine rd_ixL upd_same rfl ?_ | with_reducible refine rd_sub ?_ | with_reducible refine rd_sl ?_ | with_reducible refine rd_nopart ?_ | with_reducible refine rd_part ?_ | with_reducible refine rd_int ?_
  | with_reducible refine rd_len (by assumption) ?_ | with_reducible refine rd_bm ?_ | with_reducible refine rd_bm0 ?_ | with_reducible refine rd_gcons ?_ | with_reducible refine rd_gnil ?_
  | ((with_reducible refine rd_I ?ci ?_); (case ci => first | assumption | (show (0 : Int) < _; decide) | exact Or.inl ⟨by decide, by decide⟩ | exact Or.inr ⟨by decide, by decide⟩ | exact ⟨by decide, by decide, (by decide : Int.natAbs 10 < 2 ^ 1000)⟩))
  | with_reducible refine rd_setL (by assumption) rfl ?_ | with_reducible refine rd_setL upd_same rfl ?_ | with_reducible refine rd_len upd_same ?_
  | with_reducible refine rd_2ty ?_ | with_reducible refine rd_NT ?_ | with_reducible refine rd_2s ?_ | with_reducible refine rd_lenS ?_ | with_reducible refine rd_lenT (by assumption) ?_ | ((with_reducible refine rd_typ ?ct ?_); (case ct => rfl))
  | ((with_reducible refine rd_eq ?cs ?_); (case cs => rfl)) | ((with_reducible refine rd_ne ?cs ?_); (case cs => rfl))
  | with_reducible refine rd_qtru ?_ | with_reducible refine rd_lstRg ?_ | with_reducible refine rd_rg1 ?_ | with_reducible refine rd_tyes ?_ | with_reducible refine rd_tyL (by assumption) ?_ | with_reducible refine rd_tyT (by assumption) ?_
  | with_reducible refine iteT ?_ | with_reducible refine iteF ?_ | with_reducible refine rd_nt ?_ | with_reducible refine rd_nf ?_
  | (dsimp only)))

variable {P : Program} {w : World} {K : PySem.W.Frag} {mg : Str → Option Value} {base : Heap} {a : Ad}
theorem rd_rev {te : TE} {σ : L2.St} {H : Hp} {Q : VK} (q : te σ H fun x H1 => ∃ a xs, x = .ref a ∧ SqL K H1 a xs ∧ ∀ p, H1 p = none → Q (.ref p) (upd H1 p (.lst xs.reverse))) : tRevL K te σ H Q := q
theorem ts_rev {α : Type} {f : α → List V} {H : Hp} : ∀ {ts : List Addr} {r : List α}, TsAt f H ts r → TsAt f H ts.reverse r.reverse
  | [], [], h => h
  | t :: ts, e :: r, h => by
    rw [List.reverse_cons, List.reverse_cons]
    exact (ts_rev (ts := ts) (r := r) h.2).snoc h.1
  | [], _ :: _, h => h.elim
  | _ :: _, [], h => h.elim
theorem sql_same {H H' : Hp} {a : Addr} {xs : List V} (s : Same H H') (h : SqL K H a xs) : SqL K H' a xs := by
  rcases h with (h | ⟨o, h⟩) | h
  · exact Or.inl (Or.inl (s _ _ h))
  · exact Or.inl (Or.inr ⟨o, s _ _ h⟩)
  · exact Or.inr h
theorem sqt_same {H H' : Hp} {a : Addr} {xs : List V} (s : Same H H') (h : SqT K H a xs) : SqT K H' a xs := by
  rcases h with (h | ⟨o, h⟩) | h
  · exact Or.inl (Or.inl (s _ _ h))
  · exact Or.inl (Or.inr ⟨o, s _ _ h⟩)
  · exact Or.inr h
mutual
theorem dp_same {H H' : Hp} (s : Same H H') : ∀ {v : V} {d : PyData}, Dp K H v d → Dp K H' v d
  | _, _, .non => .non
  | _, _, .bl b => .bl b
  | _, _, .int i => .int i
  | _, _, .str x => .str x
  | _, _, .lst h k => .lst (sql_same s h) (dpa_same s k)
  | _, _, .tup h k => .tup (sqt_same s h) (dpa_same s k)
theorem dpa_same {H H' : Hp} (s : Same H H') : ∀ {vs : List V} {ds : List PyData}, DpAll K H vs ds → DpAll K H' vs ds
  | _, _, .nil => .nil
  | _, _, .cons h k => .cons (dp_same s h) (dpa_same s k)
end
def sp__law_holds (K : PySem.W.Frag) : Sp := fun vs H Q _ => ∃ (p : Addr) (mo : Int), vs = [.ref p, .int mo] ∧ (mo = 3 ∨ mo = 60) ∧ SrcN H p 0 ∧ ∀ H', Same' p H H' → Q (.bl true) H'
theorem ok__law_holds (T : Txt K mg a) : FnOk P w K mg base CX0 7 a.f__law_holds a.d__law_holds ["source", "most"] (sp__law_holds K) := by
  refine T.F__law_holds.ok sc__law_holds (fun vs H Q E h => ?_) (fun cdv A outer s H vs Q E hr h => ?_)
  · obtain ⟨p, mo, rfl, _⟩ := h
    rfl
  · obtain ⟨p, mo, rfl, hmo, S, kq⟩ := h
    have nd := sc__law_holds.nd
    have hu64 := hr.units
    have big : (2000 : Nat) ≤ 2 ^ 80 := by decide
    have big2 : (2000 : Nat) ≤ 2 ^ 100 := by decide
    refine ⟨_, (pss_cons (ps_set (i := 2) nd rfl (Or.inl rfl) (pe_call (ok__law_people T) (hr.mono (by decide)) rfl T.g__law_people T.k__law_people T.n__law_people .nil pass0 (pa_cons (pv 0) (pa_cons (pv 1) pa_nil))))
      (pss_cons (ps_setLc (i := 3) (own := [("person", 7), ("letter", 6)]) (g := gTup K 2 (gCons (gName 7) (gCons (gName 6) gNil))) (tt := tYes) rfl nd rfl rfl (sw_true rfl rfl rfl (by decide +kernel)) (kpi_list (K := K) (pv 2)) (blkOk_by (own := [("person", 7), ("letter", 6)]) (N := ["source", "most", "people", "letters", "renumbered", "backward", "letter", "person"]) (sc := defScope s__law_holds) (by decide +kernel)) (fun _ _ _ _ _ => (kpg_tup (K := K) rfl (pgs_cons (pg_name (i := 7) nd rfl (Or.inl rfl)) (pgs_cons (pg_name (i := 6) nd rfl (Or.inl rfl)) pgs_nil)))) (fun _ _ _ _ _ => pts_nil) (fun _ _ _ _ _ => (pv 6)))
      (pss_cons (ps_set (i := 4) nd rfl (Or.inl rfl) (pe_listZip (K := K) rfl (by rfl) T.b_list (by rfl) T.b_zip (pa_cons (pe_call (ok__law_shuffled T) (hr.mono (by decide)) rfl T.g__law_shuffled T.k__law_shuffled T.n__law_shuffled .nil pass0 (pa_cons (pv 0) (pa_cons (pe_listRg rfl rfl T.b_list (prg_1 rfl T.b_range (pe_callB (klen (K := K)) (by rfl) T.b_len (by decide +kernel) (pa_cons (pv 2) pa_nil)))) pa_nil))) (pa_cons (pv 3) pa_nil))))
      (pss_cons (ps_if (PW.pt (pw_or (pt_cmpR (kneD (K := K) hu64) (pe_call (ok__law_results T) (hr.mono (by decide)) rfl T.g__law_results T.k__law_results T.n__law_results .nil pass0 (pa_cons (pv 4) pa_nil)) (pe_call (ok__law_results T) (hr.mono (by decide)) rfl T.g__law_results T.k__law_results T.n__law_results .nil pass0 (pa_cons (pv 2) pa_nil)) (nomark _)) (pw_or1 (pt_not (pt_val (pe_call (ok__law_renamed_right T) (hr.mono (by decide)) rfl T.g__law_renamed_right T.k__law_renamed_right T.n__law_renamed_right .nil pass0 (pa_cons (pv 0) (pa_cons (pv 2) pa_nil)))))))) (pss_one (ps_ret pe_bl)) pss_nil)
      (pss_cons (ps_set (i := 5) nd rfl (Or.inl rfl) (L2.pe_revL (pv 2)))
      (pss_cons (ps_if (pt_cmpR (kneD (K := K) hu64) (pe_call (ok_color_runs T) (hr.mono (by decide)) rfl T.g_color_runs T.k_color_runs T.n_color_runs .nil pass0 (pa_cons (pv 5) pa_nil)) (L2.pe_revL (pe_call (ok_color_runs T) (hr.mono (by decide)) rfl T.g_color_runs T.k_color_runs T.n_color_runs .nil pass0 (pa_cons (pv 2) pa_nil))) (nomark _)) (pss_one (ps_ret pe_bl)) pss_nil)
      (pss_cons (ps_if (pt_cmpR (kneD (K := K) hu64) (pe_callB (ksortX rfl) (by rfl) T.b_sorted (by decide +kernel) (pa_cons (pe_call (ok_colors_in_order T) (hr.mono (by decide)) rfl T.g_colors_in_order T.k_colors_in_order T.n_colors_in_order .nil pass0 (pa_cons (pv 5) pa_nil)) pa_nil)) (pe_callB (ksortX rfl) (by rfl) T.b_sorted (by decide +kernel) (pa_cons (pe_call (ok_colors_in_order T) (hr.mono (by decide)) rfl T.g_colors_in_order T.k_colors_in_order T.n_colors_in_order .nil pass0 (pa_cons (pv 2) pa_nil)) pa_nil)) (nomark _)) (pss_one (ps_ret pe_bl)) pss_nil)
      (pss_cons (ps_for PassesOwn.never rfl (kpi_list (K := K) (pv 3)) (pg_name (i := 6) nd rfl (Or.inl rfl)) (pss_cons (ps_if (pt_cmpR op_ne (pe_call (ok_count_of T) (hr.mono (by decide)) rfl T.g_count_of T.k_count_of T.n_count_of .nil pass0 (pa_cons (pv 5) (pa_cons (pv 6) pa_nil))) (pe_call (ok_count_of T) (hr.mono (by decide)) rfl T.g_count_of T.k_count_of T.n_count_of .nil pass0 (pa_cons (pv 2) (pa_cons (pv 6) pa_nil))) (nomark _)) (pss_one (ps_ret pe_bl)) pss_nil)
      (pss_one (ps_if (pt_cmpR op_ne (pe_call (ok_people_ahead_of T) (hr.mono (by decide)) rfl T.g_people_ahead_of T.k_people_ahead_of T.n_people_ahead_of .nil pass0 (pa_cons (pv 5) (pa_cons (pv 6) pa_nil))) (kbm (K := K) PySem.F.plainAttrs_list PySem.F.slot_list_index PySem.F.type_list_index (mt_indexS (K := K) rfl) (L2.pe_revL (pv 3)) (pa_cons (pv 6) pa_nil)) (nomark _)) (pss_one (ps_ret pe_bl)) pss_nil))))
      (pss_one (ps_ret (pe_or (pe_cmpR op_eq (pe_callB (klen (K := K)) (by rfl) T.b_len (by decide +kernel) (pa_cons (pv 2) pa_nil)) pe_int (nomark _)) (pe_one (pe_call (ok__law_longer_right T) (hr.mono (by decide)) rfl T.g__law_longer_right T.k__law_longer_right T.n__law_longer_right .nil pass0 (pa_cons (pv 0) (pa_cons (pv 2) pa_nil))))))))))))))), ?_⟩
    walk_at "rd"
    refine ⟨p, mo, 0, rfl, hmo, S, Nat.zero_le _, fun l H1 r hl k1 S1 hR V0 => ?_⟩
    have lp := src_ne S1 hR
    have n1 := V0.n1
    have n2 := V0.n2
    obtain ⟨ts, hl1, ht⟩ := id hR
    have tl := ht.len
    have col := row_col V0
    have cl : (r.map (·.2)).length = r.length := List.length_map _
    have cne : r.map (·.2) ≠ [] := fun z => by rw [z] at cl; rw [← cl] at n1; exact absurd n1 (by decide)
    walk_at "rd"
    refine rd_lc (rd_iList ?_)
    walk_at "rd"
    refine ⟨l, rfl, ⟨_, SqL.of hl1⟩, fun D hD => lc_row (K := K) (fun e => some (sg e.2)) hD hl1 ht (by omega) (fun t e he hte H' s3 hte3 T F hT hF => ?_) fun H2 s2 gD => ?_⟩
    · refine rd_gtup hte3 rfl ?_
      walk_at "rd"
      refine ⟨rfl, ?_⟩
      walk_at "rd"
      exact hT _ _ rfl (Same.refl _)
    rw [fm_all (v := fun e : Nat × Nat => sg e.2)] at gD
    have e2 : r.map (fun e : Nat × Nat => sg e.2) = (r.map (·.2)).map sg := by
      rw [List.map_map]
      rfl
    rw [e2] at gD
    have hR2 := hR.same s2
    have S2 := S1.same s2
    have hDp := S1.not_none hD
    have hl2 := s2 _ _ hl1
    walk_at "rd"
    refine rd_lz ?_
    walk_at "rd"
    rw [List.length_map, tl]
    refine ⟨RgOk.of_le (by omega) (by omega) (by omega) (by omega), fun q hq => ?_⟩
    rw [rgV_nat (by omega), Int.toNat_natCast]
    have t3 := sNew (o := .lst ((List.range r.length).map vN)) hq
    have g3 := upd_same (H := H2) (a := q) (o := .lst ((List.range r.length).map vN))
    have S3 := S2.same t3
    have hR3 := hR2.same t3
    have gD3 := t3 _ _ gD
    generalize upd H2 q (.lst ((List.range r.length).map vN)) = H3 at g3 t3 S3 hR3 gD3
    walk_at "rd"
    refine ⟨p, .ref q, _, _, rfl, S3, Or.inl ⟨q, rfl, g3⟩, by rw [List.length_map, List.length_range]; omega, by rw [List.length_map, List.length_range]; omega, fun A' H4 ys hA k4 S4 gA py => ?_⟩
    rw [List.length_map, List.length_range] at S4
    obtain ⟨ps, rfl, hps⟩ := perm_vN py
    have pl : ps.length = r.length := by rw [hps.length_eq, List.length_range]
    obtain ⟨sx, hsx⟩ := S3.lst
    have hR4 := hR3.same' k4 hsx lp
    have gD4 := k4 _ _ gD3 hDp
    have k04 : Same' p H H4 := (k1.trans (sTo p (s2.trans t3))).trans k4
    walk_at "rd"
    refine ⟨A', D, _, _, rfl, SqL.of gA, SqL.of gD4, by simp only [List.length_map, pl], fun M H5 Ts hM s5 gM lT hT => ?_⟩
    rw [List.length_map] at lT
    obtain ⟨VM, vl⟩ := vr_zip hps cl n1 n2 col
    have hM5 : RowAt H5 M (ps.zip (r.map (·.2))) := ⟨Ts, gM, tups_zip lT (by rw [cl, pl]) hT⟩
    have hMm : (ps.zip (r.map (·.2))).map (·.2) = r.map (·.2) := List.map_snd_zip (by rw [pl, cl]; exact Nat.le_refl _)
    have hR5 := hR4.same s5
    have S5 := S4.same s5
    have gD5 := s5 _ _ gD4
    have sd := sd_res (fun c hc => (col c hc).2) cne
    walk_at "rd"
    refine ⟨M, _, rfl, hM5, VM, fun v1 H6 s6 d1 => ?_⟩
    rw [hMm] at d1
    walk_at "rd"
    refine ⟨l, r, rfl, hR5.same s6, V0, fun v2 H7 s7 d2 => ?_⟩
    walk_at "rd"
    refine rd_neD (dp_same s7 d1) d2 (sd.shaped (by decide)) ?_
    have s57 := s6.trans s7
    have hR7 := hR5.same s57
    have S7 := S5.same s57
    have gD7 := s57 _ _ gD5
    walk_at "rd"
    refine ⟨p, l, r, _, rfl, S7, by omega, hR7, V0, fun H8 S8 k8 => ?_⟩
    obtain ⟨sy, hsy⟩ := S7.lst
    have hR8 := hR7.same' k8 hsy lp
    have gD8 := k8 _ _ gD7 hDp
    have k08 : Same' p H H8 := (k04.trans (sTo p (s5.trans s57))).trans k8
    obtain ⟨us, hl8, hu⟩ := id hR8
    walk_at "rd"
    refine rd_rev ?_
    walk_at "rd"
    refine ⟨l, _, rfl, SqL.of hl8, fun B hB => ?_⟩
    rw [← List.map_reverse]
    have t9 := sNew (o := .lst (us.reverse.map V.ref)) hB
    have hB9 : RowAt (upd H8 B (.lst (us.reverse.map V.ref))) B r.reverse := ⟨us.reverse, upd_same, (hu.rev).mono (sTups t9)⟩
    have hR9 := hR8.same t9
    have gD9 := t9 _ _ gD8
    have S9 := S8.same t9
    generalize upd H8 B (.lst (us.reverse.map V.ref)) = H9 at t9 hB9 hR9 gD9 S9
    have VB := V0.rev
    have hrm : r.reverse.map (·.2) = (r.map (·.2)).reverse := List.map_reverse
    walk_at "rd"
    refine ⟨B, _, rfl, hB9, VB, fun L1 H10 vs hL1 s10 gL1 hV => ?_⟩
    rw [hrm, runs_rev] at hV
    walk_at "rd"
    refine rd_rev ?_
    walk_at "rd"
    refine ⟨l, r, rfl, hR9.same s10, V0, fun L2 H11 ws hL2 s11 gL2 hW => ?_⟩
    refine ⟨L2, _, rfl, SqL.of gL2, fun L3 hL3 => ?_⟩
    rw [← List.map_reverse]
    have t12 := sNew (o := .lst (ws.reverse.map V.ref)) hL3
    have s1012 := s11.trans t12
    walk_at "rd"
    refine rd_neD (d := dRuns (runs (r.map (·.2))).reverse) (.lst (SqL.of (s1012 _ _ gL1)) ((hV.mono (sTups s1012)).dp fun e => .cons (.str _) (.cons (.int _) .nil))) (.lst (SqL.of upd_same) (((ts_rev hW).mono (sTups t12)).dp fun e => .cons (.str _) (.cons (.int _) .nil))) ((Sd.runs fun e he => (col _ (runs_fst _ e (List.mem_reverse.mp he))).2).shaped (by decide)) ?_
    have s912 := s10.trans s1012
    generalize upd H11 L3 (.lst (ws.reverse.map V.ref)) = H12 at t12 s1012 s912
    have hB12 := hB9.same s912
    have hR12 := hR9.same s912
    have gD12 := s912 _ _ gD9
    have fl := firsts_len (r.map (·.2))
    have fl2 := firsts_len (r.map (·.2)).reverse
    rw [List.length_reverse] at fl2
    walk_at "rd"
    refine ⟨B, _, rfl, hB12, VB, fun H13 s13 => ?_⟩
    rw [hrm]
    walk_at "rd"
    refine ⟨_, rfl, by show (txt (firstsOf (r.map (·.2)).reverse)).length ≤ 4000; rw [txt_len]; omega, fun E1 y1 hE1 h1 p1 => ?_⟩
    have z1 : y1 = (asc 123 (r.map (·.2))).map one1 := by
      refine sort_firsts (cs := (r.map (·.2)).reverse) (ds := r.map (·.2)) (fun c => List.mem_reverse) (fun c hc => ?_) h1 ?_
      · have := (col c (List.mem_reverse.mp hc)).2
        omega
      · have e : (txt (firstsOf (r.map (·.2)).reverse)).cps.toList = firstsOf (r.map (·.2)).reverse := List.toList_toArray
        rw [e] at p1
        exact p1
    subst z1
    have t14 := sNew (o := .lst (((asc 123 (r.map (·.2))).map one1).map V.str)) hE1
    have g14 := upd_same (H := H13) (a := E1) (o := .lst (((asc 123 (r.map (·.2))).map one1).map V.str))
    have s1214 := s13.trans t14
    generalize upd H13 E1 (.lst (((asc 123 (r.map (·.2))).map one1).map V.str)) = H14 at t14 g14 s1214
    walk_at "rd"
    refine ⟨l, r, rfl, hR12.same s1214, V0, fun H15 s15 => ?_⟩
    walk_at "rd"
    refine ⟨_, rfl, by show (txt (firstsOf (r.map (·.2)))).length ≤ 4000; rw [txt_len]; omega, fun E2 y2 hE2 h2 p2 => ?_⟩
    have z2 : y2 = (asc 123 (r.map (·.2))).map one1 := by
      refine sort_firsts (cs := r.map (·.2)) (ds := r.map (·.2)) (fun c => Iff.rfl) (fun c hc => ?_) h2 ?_
      · have := (col c hc).2
        omega
      · have e : (txt (firstsOf (r.map (·.2)))).cps.toList = firstsOf (r.map (·.2)) := List.toList_toArray
        rw [e] at p2
        exact p2
    subst z2
    have t16 := sNew (o := .lst (((asc 123 (r.map (·.2))).map one1).map V.str)) hE2
    have s1216 := (s1214.trans s15).trans t16
    have asl : ((asc 123 (r.map (·.2))).map one1).map V.str = (asc 123 (r.map (·.2))).map sg := by
      rw [List.map_map]
      rfl
    have asc122 : ∀ c ∈ asc 123 (r.map (·.2)), c ≤ 122 := fun c hc => by
      have := (List.mem_filter.mp hc).1
      rw [List.mem_range] at this
      omega
    walk_at "rd"
    refine rd_neD (d := dS (asc 123 (r.map (·.2)))) (.lst (SqL.of ((s15.trans t16) _ _ g14)) (by rw [asl]; exact dp_strs _)) (.lst (SqL.of upd_same) (by rw [asl]; exact dp_strs _)) (shp_strs _ asc122) ?_
    generalize upd H15 E2 (.lst (((asc 123 (r.map (·.2))).map one1).map V.str)) = H16 at t16 s1216
    have hB16 := hB12.same s1216
    have hR16 := hR12.same s1216
    have gD16 := s1216 _ _ gD12
    have S16 := (S9.same s912).same s1216
    have k16 : Same' p H H16 := ((k08.trans (sTo p t9)).trans (sTo p s912)).trans (sTo p s1216)
    walk_at "rd"
    refine ⟨_, rfl, D, rfl, ⟨_, SqL.of gD16⟩, for_list (K := K) (a := D) (xs := (r.map (·.2)).map sg) (fun i σ H' => ∃ x4 x6, σ = [some (.ref p), some (.int mo), some (.ref l), some (.ref D), x4, some (.ref B), x6, none] ∧ Same H16 H') ⟨_, _, rfl, Same.refl _⟩ (fun i σ H' _ ⟨_, _, _, s⟩ => SqL.of (s _ _ gD16)) ?_ ?_⟩
    · rintro i v σ H17 hi ⟨x4, x6, rfl, s17⟩
      rw [List.getElem?_map] at hi
      obtain ⟨c, hc, rfl⟩ := Option.map_eq_some_iff.mp hi
      have cm := List.mem_of_getElem? hc
      have cb := col c cm
      walk_at "rd"
      refine ⟨B, _, c, rfl, hB16.same s17, VB, cb.1, cb.2, fun H18 s18 => ?_⟩
      rw [hrm, List.count_reverse]
      walk_at "rd"
      refine ⟨l, r, c, rfl, (hR16.same s17).same s18, V0, cb.1, cb.2, fun H19 s19 => ?_⟩
      walk_at "rd"
      refine rd_ndec (fun n => absurd rfl n) fun _ => ?_
      have s1719 := (s17.trans s18).trans s19
      walk_at "rd"
      refine ⟨B, _, c, rfl, hB16.same s1719, VB, cb.1, cb.2, fun H20 s20 => ?_⟩
      obtain ⟨j, hj, jl⟩ := fi_mem (cs := (r.map (·.2)).reverse) (c := c) (List.mem_reverse.mpr cm)
      rw [hrm, hj, show oI (some j) = V.int (j : Nat) from rfl]
      have gD20 := (s1719.trans s20) _ _ gD16
      walk_at "rd"
      refine rd_rev ?_
      walk_at "rd"
      refine ⟨D, _, rfl, SqL.of gD20, fun Z hZ => ?_⟩
      rw [← List.map_reverse]
      have t21 := sNew (o := .lst ((r.map (·.2)).reverse.map sg)) hZ
      have g21 := upd_same (H := H20) (a := Z) (o := .lst ((r.map (·.2)).reverse.map sg))
      generalize upd H20 Z (.lst ((r.map (·.2)).reverse.map sg)) = H21 at t21 g21
      refine ⟨Or.inl ⟨rfl, _, SqL.of g21⟩, ?_⟩
      walk_at "rd"
      refine ⟨Z, (r.map (·.2)).reverse, c, j, rfl, rfl, SqL.of g21, hj, ?_⟩
      walk_at "rd"
      refine rd_ndec (fun n => absurd rfl n) fun _ => ?_
      walk_at "rd"
      exact ⟨_, _, rfl, (s1719.trans s20).trans t21⟩
    · rintro σ H17 ⟨x4, x6, rfl, s17⟩
      have hR17 := hR16.same s17
      have k17 := k16.trans (sTo p s17)
      obtain ⟨tz, hlz, htz⟩ := id hR17
      have tzl := htz.len
      walk_at "rd"
      rw [List.length_map, tzl]
      refine rd_dec (fun _ => ?_) fun c => ?_
      · exact kq _ k17
      · walk_at "rd"
        refine ⟨p, l, r, _, rfl, S16.same s17, by omega, hR17, V0, ?_, fun H18 k18 => kq _ (k17.trans k18)⟩
        have : r.length ≠ 60 := fun z => c (by rw [z]; rfl)
        omega
end K06


namespace K06
open PySem L2 LX
local macro_rules | `(tactic| walk_at "rd") => `(tactic| repeat (first
  | with_reducible refine rd_var rfl ?_ | with_reducible refine rd_c ?_ | with_reducible refine rd_op ?_ | with_reducible refine rd_un ?_ | with_reducible refine rd_I0 ?_ | with_reducible refine rd_U ?_
  | with_reducible refine rd_test ?_ | with_reducible refine rd_tB ?_ | with_reducible refine rd_bl ?_ | with_reducible refine rd_chain ?_
  | with_reducible refine rd_and ?_ | with_reducible refine rd_or ?_ | with_reducible refine rd_not ?_ | with_reducible refine rd_andV ?_ | with_reducible refine rd_orV ?_ | with_reducible refine rd_notV ?_
  | with_reducible refine rd_next ?_ | with_reducible refine rd_seq ?_ | with_reducible refine rd_drop ?_ | with_reducible refine rd_ret ?_ | with_reducible refine rd_ifS ?_ | with_reducible refine rd_asg ?_ | with_reducible refine rd_name ?_
  | with_reducible refine rd_par ?_ | with_reducible refine rd_two ?_ | with_reducible refine rd_2i ?_ | with_reducible refine rd_nil ?_ | with_reducible refine rd_cons ?_ | with_reducible refine rd_tup ?_ | with_reducible refine rd_lst ?_ | with_reducible refine rd_cb ?_ | with_reducible refine rd_call ?_
  | with_reducible refine rd_ixL (by assumption) rfl ?_ | with_reducible refine rd_ixT (by assumption) rfl ?_ | with_reducible refine rd_ixL upd_same rfl ?_ | with_reducible refine rd_sub ?_ | with_reducible refine rd_sl ?_ | with_reducible refine rd_nopart ?_ | with_reducible refine rd_part ?_ | with_reducible refine rd_int ?_
  | with_reducible refine rd_len (by assumption) ?_ | with_reducible refine rd_bm ?_ | with_reducible refine rd_bm0 ?_ | with_reducible refine rd_gcons ?_ | with_reducible refine rd_gnil ?_
  | ((with_reducible refine rd_I ?ci ?_); (case ci => first | assumption | (show (0 : Int) < _; decide) | exact Or.inl ⟨by decide, by decide⟩ | exact Or.inr ⟨by decide, by decide⟩ | exact ⟨by decide, by decide, (by decide : Int.natAbs 10 < 2 ^ 1000)⟩))
  | with_reducible refine rd_setL (by assumption) rfl ?_ | with_reducible refine rd_setL upd_same rfl ?_ | with_reducible refine rd_len upd_same ?_
  | with_reducible refine rd_2ty ?_ | with_reducible refine rd_NT ?_ | with_reducible refine rd_2s ?_ | with_reducible refine rd_lenS ?_ | with_reducible refine rd_lenT (by assumption) ?_ | ((with_reducible refine rd_typ ?ct ?_); (case ct => rfl))
  | ((with_reducible refine rd_eq ?cs ?_); (case cs => rfl)) | ((with_reducible refine rd_ne ?cs ?_); (case cs => rfl))
  | with_reducible refine rd_qtru ?_ | with_reducible refine rd_lstRg ?_ | with_reducible refine rd_rg1 ?_ | with_reducible refine rd_tyes ?_ | with_reducible refine rd_tyL (by assumption) ?_ | with_reducible refine rd_tyT (by assumption) ?_
  | with_reducible refine iteT ?_ | with_reducible refine iteF ?_ | with_reducible refine rd_nt ?_ | with_reducible refine rd_nf ?_
  | (dsimp only)))

section
variable {P : Program} {w : World} {K : PySem.W.Frag} {mg : Str → Option Value} {base : Heap} {a : Ad}
theorem rd_teM {te : TE} {σ : L2.St} {H : Hp} {Q : VK} (M : VK) (h1 : ∀ R : VK, (∀ x H1, M x H1 → R x H1) → te σ H R) (h2 : ∀ x H1, M x H1 → Q x H1) : te σ H Q := h1 _ h2
theorem rd_forE {σ : L2.St} {H : Hp} {ta : TA} {g : TG} {tb : TS} {D : Ends} (M : Addr → List V → Hp → Prop) (h1 : ∀ R : List V → Hp → Prop, (∀ b xs H1, M b xs H1 → R [.ref b] H1) → ta σ H R)
    (h2 : ∀ b xs H1, M b xs H1 → SqL K H1 b xs ∧ ∃ W : Nat → Nat → L2.St → Hp → Prop, (∃ m, W 0 m σ H1) ∧ ∀ i m σ H, W i m σ H →
      ((Ite K b).stop i H ∧ D.nx σ H) ∨ ((Ite K b).go i H ∧ ∃ N : L2.St → Hp → Prop, (∀ σ' H', N σ' H' → ∃ m', m' < m ∧ W (i + 1) m' σ' H') ∧ ∀ x H', (Ite K b).yld i H x H' → g x σ H' fun σ2 H2 => tb { D with nx := N, ct := N, bk := D.nx } σ2 H2)) :
    tFor (iEnum K ta) g tb D σ H := h1 _ fun b xs H1 m => ⟨b, xs, rfl, (h2 b xs H1 m).1, (h2 b xs H1 m).2⟩
theorem rd_slI {H : Hp} {Q : VK} {p : Addr} {ns : List Int} {lo hi : Option Int} (h : H p = some (.lst (ns.map V.int))) (q : ∀ b (ms : List Int), H b = none → ms.length ≤ ns.length → Q (.ref b) (upd H b (.lst (ms.map V.int)))) : rSlL K (.ref p) lo hi H Q := by
  refine rd_slL h fun b hb => ?_
  obtain ⟨ms, e, l⟩ := cut_ints ns lo hi
  rw [e]
  exact q b ms hb l
def sp_law (K : PySem.W.Frag) : Sp := fun vs H Q _ => ∃ (l : Addr) (ns : List Int), vs = [.ref l] ∧ Scr K H l ns ∧ ns.length ≤ 63 ∧ ∀ H', Q (.bl true) H'
theorem ok_law (T : Txt K mg a) : FnOk P w K mg base CX0 8 a.f_law a.d_law ["script"] (sp_law K) := by
  refine T.F_law.ok sc_law (fun vs H Q E h => ?_) (fun cdv A outer s H vs Q E hr h => ?_)
  · obtain ⟨l, ns, rfl, _⟩ := h
    rfl
  · obtain ⟨l, ns, rfl, hS, hz, kq⟩ := h
    have nd := sc_law.nd
    have hu64 := hr.units
    refine ⟨_, (pss_cons (ps_for PassesOwn.never rfl (pi_enum rfl T.b_enumerate (pa_cons (pe_slice (ksl_list (K := K)) (pe_op (op_catL (K := K)) (pv 0) (pe_lst (pa_cons pe_int pa_nil))) po_none (po_some (pe_callB (call_max2 rfl) (by rfl) T.b_max (by decide +kernel) (pa_cons pe_int (pa_cons (pe_callB (call_min2 rfl) (by rfl) T.b_min (by decide +kernel) (pa_cons (pe_callB (klen (K := K)) (by rfl) T.b_len (by decide +kernel) (pa_cons (pv 0) pa_nil)) (pa_cons pe_int pa_nil))) pa_nil))))) pa_nil)) (kpg_tup (K := K) rfl (pgs_cons (pg_name (i := 1) nd rfl (Or.inl rfl)) (pgs_cons (pg_name (i := 2) nd rfl (Or.inl rfl)) pgs_nil))) (pss_one (ps_if (pt_not (pt_val (pe_call (ok__law_holds T) (hr.mono (by decide)) rfl T.g__law_holds T.k__law_holds T.n__law_holds .nil pass0 (pa_cons (pe_call (ok__law_source T) (hr.mono (by decide)) rfl T.g__law_source T.k__law_source T.n__law_source .nil pass0 (pa_cons (pv 2) (pa_cons (pv 1) pa_nil))) (pa_cons (pe_ifExp (pt_cmpR (keqD (K := K) hu64) (pv 0) (pe_lst pa_nil) (nomark _)) pe_int pe_int) pa_nil))))) (pss_one (ps_ret pe_bl)) pss_nil)))
      (pss_one (ps_ret pe_bl))), ?_⟩
    walk_at "rd"
    refine rd_forE (fun b xs H1 => ∃ ms : List Int, xs = ms.map V.int ∧ ms.length ≤ 70 ∧ Same H H1 ∧ H1 b = some (.lst (ms.map V.int))) (fun R q => ?_) ?_
    · walk_at "rd"
      refine ⟨by show 1 ≤ sizeLine; decide, fun b1 hb1 => ?_⟩
      have t1 := sNew (o := .lst [.int 0]) hb1
      refine ⟨l, b1, _, _, rfl, rfl, (hS.same t1).seq, SqL.of upd_same, by rw [List.length_map]; exact sz60' (by show ns.length + 1 ≤ 100; omega), fun b2 hb2 => ?_⟩
      have e2 : ns.map V.int ++ [V.int 0] = (ns ++ [0]).map V.int := by rw [List.map_append]; rfl
      rw [e2]
      have t2 := t1.trans (sNew (o := .lst ((ns ++ [0]).map V.int)) hb2)
      have g2 := upd_same (H := upd H b1 (.lst [.int 0])) (a := b2) (o := .lst ((ns ++ [0]).map V.int))
      generalize upd (upd H b1 (.lst [.int 0])) b2 (.lst ((ns ++ [0]).map V.int)) = H2 at t2 g2
      walk_at "rd"
      refine ⟨l, _, rfl, Or.inl (hS.same t2).seq, ?_⟩
      walk_at "rd"
      refine rd_slI g2 fun b3 ms hb3 l3 => ?_
      rw [List.length_append] at l3
      walk_at "rd"
      exact q b3 _ _ ⟨ms, rfl, Nat.le_trans l3 (by show ns.length + 1 ≤ 70; omega), t2.trans (sNew hb3), upd_same⟩
    rintro b xs H1 ⟨ms, rfl, ml, s1, g1⟩
    refine ⟨SqL.of g1, for_enum (K := K) (a := b) (xs := ms.map V.int) (fun i σ H' => ∃ x1 x2, σ = [some (.ref l), x1, x2] ∧ Same H H' ∧ H' b = some (.lst (ms.map V.int))) ⟨none, none, rfl, s1, g1⟩ (fun i σ H' _ ⟨_, _, _, _, e⟩ => SqL.of e) ?_ ?_⟩
    · rintro i x T σ H' hi ⟨x1, x2, rfl, s2, g2⟩ hT
      rw [List.getElem?_map] at hi
      obtain ⟨c, hc, rfl⟩ := Option.map_eq_some_iff.mp hi
      have il := (List.getElem?_eq_some_iff.mp hc).1
      have t1 := sNew (o := .tup [.int (i : Nat), .int c]) hT
      refine rd_gtup upd_same rfl ?_
      have s3 := s2.trans t1
      have g3 := t1 _ _ g2
      generalize upd H' T (.tup [.int (i : Nat), .int c]) = H2 at s3 g3
      walk_at "rd"
      refine ⟨c, (i : Int), rfl, by omega, by omega, fun p H3 hp S3 f3 => ?_⟩
      have t3 : Same H2 H3 := fun y o e => by rw [f3 y (ne_of_none e hp)]; exact e
      have hb3 : b ≠ p := ne_of_none g3 hp
      have hpH : H p = none := s3.free hp
      walk_at "rd"
      refine rd_teM (fun z H4 => ∃ mo : Int, z = .int mo ∧ (mo = 3 ∨ mo = 60) ∧ Same H3 H4) (fun R q => ?_) ?_
      · refine rd_ifE ?_
        walk_at "rd"
        refine ⟨Nat.zero_le _, fun q1 hq1 => ?_⟩
        have n1 := sNew (o := .lst []) hq1
        refine rd_eqD2 (d := dI ns) (e := dI []) (.lst ((hS.same (s3.trans t3)).same n1).seq (dp_ints ns)) (.lst (SqL.of upd_same) .nil) (shp_ints _) (shp_ints _) (eqv_nil ns) ?_
        walk_at "rd"
        refine rd_dec (fun _ => ?_) fun _ => ?_
        · walk_at "rd"
          exact q _ _ ⟨_, rfl, Or.inl rfl, n1⟩
        · walk_at "rd"
          exact q _ _ ⟨_, rfl, Or.inr rfl, n1⟩
      rintro _ H4 ⟨mo, rfl, hmo, t4⟩
      walk_at "rd"
      refine ⟨p, mo, rfl, hmo, S3.same t4, fun H5 k5 => ?_⟩
      walk_at "rd"
      refine ⟨_, _, rfl, fun y o e => ?_, ?_⟩
      · exact k5 _ _ (t4 _ _ (t3 _ _ (s3 _ _ e))) (ne_of_none e hpH)
      · exact k5 _ _ (t4 _ _ (t3 _ _ g3)) hb3
    · rintro σ H' ⟨x1, x2, rfl, _, _⟩
      walk_at "rd"
      exact kq H'
end
theorem all_mk {l : PySem.W.OpenLaw} {w : World} {K : PySem.W.Frag} {h : Heap} {mg : Str → Option Value} {fa : Addr} (X : K.In h) (G : h.Ns mainGlobals mg) (hfa : mg "law" = some (.ref fa))
    {f__law_draw : Addr} {od__law_draw an__law_draw : Option Addr} {sl__law_draw : Array (Option Value)} {oc__law_draw kV__law_draw dc__law_draw pm__law_draw cd__law_draw ct__law_draw : Value}
    {f__law_shuffled : Addr} {od__law_shuffled an__law_shuffled : Option Addr} {sl__law_shuffled : Array (Option Value)} {oc__law_shuffled kV__law_shuffled dc__law_shuffled pm__law_shuffled cd__law_shuffled ct__law_shuffled : Value}
    {f__law_colors : Addr} {od__law_colors an__law_colors : Option Addr} {sl__law_colors : Array (Option Value)} {oc__law_colors kV__law_colors dc__law_colors pm__law_colors cd__law_colors ct__law_colors : Value}
    {f__law_people : Addr} {od__law_people an__law_people : Option Addr} {sl__law_people : Array (Option Value)} {oc__law_people kV__law_people dc__law_people pm__law_people cd__law_people ct__law_people : Value}
    {f_is_integer : Addr} {od_is_integer an_is_integer : Option Addr} {sl_is_integer : Array (Option Value)} {oc_is_integer kV_is_integer dc_is_integer pm_is_integer cd_is_integer ct_is_integer : Value}
    {f_is_color : Addr} {od_is_color an_is_color : Option Addr} {sl_is_color : Array (Option Value)} {oc_is_color kV_is_color dc_is_color pm_is_color cd_is_color ct_is_color : Value}
    {f_is_colored_integer : Addr} {od_is_colored_integer an_is_colored_integer : Option Addr} {sl_is_colored_integer : Array (Option Value)} {oc_is_colored_integer kV_is_colored_integer dc_is_colored_integer pm_is_colored_integer cd_is_colored_integer ct_is_colored_integer : Value}
    {f_is_lineup : Addr} {od_is_lineup an_is_lineup : Option Addr} {sl_is_lineup : Array (Option Value)} {oc_is_lineup kV_is_lineup dc_is_lineup pm_is_lineup cd_is_lineup ct_is_lineup : Value}
    {f_check_lineup : Addr} {od_check_lineup an_check_lineup : Option Addr} {sl_check_lineup : Array (Option Value)} {oc_check_lineup kV_check_lineup dc_check_lineup pm_check_lineup cd_check_lineup ct_check_lineup : Value}
    {f_runs_of : Addr} {od_runs_of an_runs_of : Option Addr} {sl_runs_of : Array (Option Value)} {oc_runs_of kV_runs_of dc_runs_of pm_runs_of cd_runs_of ct_runs_of : Value}
    {f_color_runs : Addr} {od_color_runs an_color_runs : Option Addr} {sl_color_runs : Array (Option Value)} {oc_color_runs kV_color_runs dc_color_runs pm_color_runs cd_color_runs ct_color_runs : Value}
    {f_colors_in_order : Addr} {od_colors_in_order an_colors_in_order : Option Addr} {sl_colors_in_order : Array (Option Value)} {oc_colors_in_order kV_colors_in_order dc_colors_in_order pm_colors_in_order cd_colors_in_order ct_colors_in_order : Value}
    {f_front_color : Addr} {od_front_color an_front_color : Option Addr} {sl_front_color : Array (Option Value)} {oc_front_color kV_front_color dc_front_color pm_front_color cd_front_color ct_front_color : Value}
    {f_check_color : Addr} {od_check_color an_check_color : Option Addr} {sl_check_color : Array (Option Value)} {oc_check_color kV_check_color dc_check_color pm_check_color cd_check_color ct_check_color : Value}
    {f_count_of : Addr} {od_count_of an_count_of : Option Addr} {sl_count_of : Array (Option Value)} {oc_count_of kV_count_of dc_count_of pm_count_of cd_count_of ct_count_of : Value}
    {f_people_ahead_of : Addr} {od_people_ahead_of an_people_ahead_of : Option Addr} {sl_people_ahead_of : Array (Option Value)} {oc_people_ahead_of kV_people_ahead_of dc_people_ahead_of pm_people_ahead_of cd_people_ahead_of ct_people_ahead_of : Value}
    {f__law_longer_right : Addr} {od__law_longer_right an__law_longer_right : Option Addr} {sl__law_longer_right : Array (Option Value)} {oc__law_longer_right kV__law_longer_right dc__law_longer_right pm__law_longer_right cd__law_longer_right ct__law_longer_right : Value}
    {f_first_other_color : Addr} {od_first_other_color an_first_other_color : Option Addr} {sl_first_other_color : Array (Option Value)} {oc_first_other_color kV_first_other_color dc_first_other_color pm_first_other_color cd_first_other_color ct_first_other_color : Value}
    {f_second_color : Addr} {od_second_color an_second_color : Option Addr} {sl_second_color : Array (Option Value)} {oc_second_color kV_second_color dc_second_color pm_second_color cd_second_color ct_second_color : Value}
    {f__law_results : Addr} {od__law_results an__law_results : Option Addr} {sl__law_results : Array (Option Value)} {oc__law_results kV__law_results dc__law_results pm__law_results cd__law_results ct__law_results : Value}
    {f__law_renamed_right : Addr} {od__law_renamed_right an__law_renamed_right : Option Addr} {sl__law_renamed_right : Array (Option Value)} {oc__law_renamed_right kV__law_renamed_right dc__law_renamed_right pm__law_renamed_right cd__law_renamed_right ct__law_renamed_right : Value}
    {f__law_holds : Addr} {od__law_holds an__law_holds : Option Addr} {sl__law_holds : Array (Option Value)} {oc__law_holds kV__law_holds dc__law_holds pm__law_holds cd__law_holds ct__law_holds : Value}
    {f__law_source : Addr} {od__law_source an__law_source : Option Addr} {sl__law_source : Array (Option Value)} {oc__law_source kV__law_source dc__law_source pm__law_source cd__law_source ct__law_source : Value}
    {f_law : Addr} {od_law an_law : Option Addr} {sl_law : Array (Option Value)} {oc_law kV_law dc_law pm_law cd_law ct_law : Value}
    {t_MOST_PEOPLE : Tok}
    (a__law_draw : PySem.W.nsIn K mainGlobals "_law_draw" = some (some (.ref f__law_draw)))
    (l__law_draw : K.lookup f__law_draw = some ⟨oc__law_draw, od__law_draw, .func (PySem.W.fnOf "_law_draw" "_law_draw" (defArgs s__law_draw) (defBody s__law_draw) (defScope s__law_draw) .none kV__law_draw dc__law_draw pm__law_draw an__law_draw cd__law_draw ct__law_draw), sl__law_draw⟩)
    (c__law_draw : PySem.W.codeIn K cd__law_draw "_law_draw" = true) (k__law_draw : PySem.W.keepIn K (.ref f__law_draw) = true)
    (a__law_shuffled : PySem.W.nsIn K mainGlobals "_law_shuffled" = some (some (.ref f__law_shuffled)))
    (l__law_shuffled : K.lookup f__law_shuffled = some ⟨oc__law_shuffled, od__law_shuffled, .func (PySem.W.fnOf "_law_shuffled" "_law_shuffled" (defArgs s__law_shuffled) (defBody s__law_shuffled) (defScope s__law_shuffled) .none kV__law_shuffled dc__law_shuffled pm__law_shuffled an__law_shuffled cd__law_shuffled ct__law_shuffled), sl__law_shuffled⟩)
    (c__law_shuffled : PySem.W.codeIn K cd__law_shuffled "_law_shuffled" = true) (k__law_shuffled : PySem.W.keepIn K (.ref f__law_shuffled) = true)
    (a__law_colors : PySem.W.nsIn K mainGlobals "_law_colors" = some (some (.ref f__law_colors)))
    (l__law_colors : K.lookup f__law_colors = some ⟨oc__law_colors, od__law_colors, .func (PySem.W.fnOf "_law_colors" "_law_colors" (defArgs s__law_colors) (defBody s__law_colors) (defScope s__law_colors) .none kV__law_colors dc__law_colors pm__law_colors an__law_colors cd__law_colors ct__law_colors), sl__law_colors⟩)
    (c__law_colors : PySem.W.codeIn K cd__law_colors "_law_colors" = true) (k__law_colors : PySem.W.keepIn K (.ref f__law_colors) = true)
    (a__law_people : PySem.W.nsIn K mainGlobals "_law_people" = some (some (.ref f__law_people)))
    (l__law_people : K.lookup f__law_people = some ⟨oc__law_people, od__law_people, .func (PySem.W.fnOf "_law_people" "_law_people" (defArgs s__law_people) (defBody s__law_people) (defScope s__law_people) .none kV__law_people dc__law_people pm__law_people an__law_people cd__law_people ct__law_people), sl__law_people⟩)
    (c__law_people : PySem.W.codeIn K cd__law_people "_law_people" = true) (k__law_people : PySem.W.keepIn K (.ref f__law_people) = true)
    (a_is_integer : PySem.W.nsIn K mainGlobals "is_integer" = some (some (.ref f_is_integer)))
    (l_is_integer : K.lookup f_is_integer = some ⟨oc_is_integer, od_is_integer, .func (PySem.W.fnOf "is_integer" "is_integer" (defArgs s_is_integer) (defBody s_is_integer) (defScope s_is_integer) .none kV_is_integer dc_is_integer pm_is_integer an_is_integer cd_is_integer ct_is_integer), sl_is_integer⟩)
    (c_is_integer : PySem.W.codeIn K cd_is_integer "is_integer" = true) (k_is_integer : PySem.W.keepIn K (.ref f_is_integer) = true)
    (a_is_color : PySem.W.nsIn K mainGlobals "is_color" = some (some (.ref f_is_color)))
    (l_is_color : K.lookup f_is_color = some ⟨oc_is_color, od_is_color, .func (PySem.W.fnOf "is_color" "is_color" (defArgs s_is_color) (defBody s_is_color) (defScope s_is_color) .none kV_is_color dc_is_color pm_is_color an_is_color cd_is_color ct_is_color), sl_is_color⟩)
    (c_is_color : PySem.W.codeIn K cd_is_color "is_color" = true) (k_is_color : PySem.W.keepIn K (.ref f_is_color) = true)
    (a_is_colored_integer : PySem.W.nsIn K mainGlobals "is_colored_integer" = some (some (.ref f_is_colored_integer)))
    (l_is_colored_integer : K.lookup f_is_colored_integer = some ⟨oc_is_colored_integer, od_is_colored_integer, .func (PySem.W.fnOf "is_colored_integer" "is_colored_integer" (defArgs s_is_colored_integer) (defBody s_is_colored_integer) (defScope s_is_colored_integer) .none kV_is_colored_integer dc_is_colored_integer pm_is_colored_integer an_is_colored_integer cd_is_colored_integer ct_is_colored_integer), sl_is_colored_integer⟩)
    (c_is_colored_integer : PySem.W.codeIn K cd_is_colored_integer "is_colored_integer" = true) (k_is_colored_integer : PySem.W.keepIn K (.ref f_is_colored_integer) = true)
    (a_is_lineup : PySem.W.nsIn K mainGlobals "is_lineup" = some (some (.ref f_is_lineup)))
    (l_is_lineup : K.lookup f_is_lineup = some ⟨oc_is_lineup, od_is_lineup, .func (PySem.W.fnOf "is_lineup" "is_lineup" (defArgs s_is_lineup) (defBody s_is_lineup) (defScope s_is_lineup) .none kV_is_lineup dc_is_lineup pm_is_lineup an_is_lineup cd_is_lineup ct_is_lineup), sl_is_lineup⟩)
    (c_is_lineup : PySem.W.codeIn K cd_is_lineup "is_lineup" = true) (k_is_lineup : PySem.W.keepIn K (.ref f_is_lineup) = true)
    (a_check_lineup : PySem.W.nsIn K mainGlobals "check_lineup" = some (some (.ref f_check_lineup)))
    (l_check_lineup : K.lookup f_check_lineup = some ⟨oc_check_lineup, od_check_lineup, .func (PySem.W.fnOf "check_lineup" "check_lineup" (defArgs s_check_lineup) (defBody s_check_lineup) (defScope s_check_lineup) .none kV_check_lineup dc_check_lineup pm_check_lineup an_check_lineup cd_check_lineup ct_check_lineup), sl_check_lineup⟩)
    (c_check_lineup : PySem.W.codeIn K cd_check_lineup "check_lineup" = true) (k_check_lineup : PySem.W.keepIn K (.ref f_check_lineup) = true)
    (a_runs_of : PySem.W.nsIn K mainGlobals "runs_of" = some (some (.ref f_runs_of)))
    (l_runs_of : K.lookup f_runs_of = some ⟨oc_runs_of, od_runs_of, .func (PySem.W.fnOf "runs_of" "runs_of" (defArgs s_runs_of) (defBody s_runs_of) (defScope s_runs_of) .none kV_runs_of dc_runs_of pm_runs_of an_runs_of cd_runs_of ct_runs_of), sl_runs_of⟩)
    (c_runs_of : PySem.W.codeIn K cd_runs_of "runs_of" = true) (k_runs_of : PySem.W.keepIn K (.ref f_runs_of) = true)
    (a_color_runs : PySem.W.nsIn K mainGlobals "color_runs" = some (some (.ref f_color_runs)))
    (l_color_runs : K.lookup f_color_runs = some ⟨oc_color_runs, od_color_runs, .func (PySem.W.fnOf "color_runs" "color_runs" (defArgs s_color_runs) (defBody s_color_runs) (defScope s_color_runs) .none kV_color_runs dc_color_runs pm_color_runs an_color_runs cd_color_runs ct_color_runs), sl_color_runs⟩)
    (c_color_runs : PySem.W.codeIn K cd_color_runs "color_runs" = true) (k_color_runs : PySem.W.keepIn K (.ref f_color_runs) = true)
    (a_colors_in_order : PySem.W.nsIn K mainGlobals "colors_in_order" = some (some (.ref f_colors_in_order)))
    (l_colors_in_order : K.lookup f_colors_in_order = some ⟨oc_colors_in_order, od_colors_in_order, .func (PySem.W.fnOf "colors_in_order" "colors_in_order" (defArgs s_colors_in_order) (defBody s_colors_in_order) (defScope s_colors_in_order) .none kV_colors_in_order dc_colors_in_order pm_colors_in_order an_colors_in_order cd_colors_in_order ct_colors_in_order), sl_colors_in_order⟩)
    (c_colors_in_order : PySem.W.codeIn K cd_colors_in_order "colors_in_order" = true) (k_colors_in_order : PySem.W.keepIn K (.ref f_colors_in_order) = true)
    (a_front_color : PySem.W.nsIn K mainGlobals "front_color" = some (some (.ref f_front_color)))
    (l_front_color : K.lookup f_front_color = some ⟨oc_front_color, od_front_color, .func (PySem.W.fnOf "front_color" "front_color" (defArgs s_front_color) (defBody s_front_color) (defScope s_front_color) .none kV_front_color dc_front_color pm_front_color an_front_color cd_front_color ct_front_color), sl_front_color⟩)
    (c_front_color : PySem.W.codeIn K cd_front_color "front_color" = true) (k_front_color : PySem.W.keepIn K (.ref f_front_color) = true)
    (a_check_color : PySem.W.nsIn K mainGlobals "check_color" = some (some (.ref f_check_color)))
    (l_check_color : K.lookup f_check_color = some ⟨oc_check_color, od_check_color, .func (PySem.W.fnOf "check_color" "check_color" (defArgs s_check_color) (defBody s_check_color) (defScope s_check_color) .none kV_check_color dc_check_color pm_check_color an_check_color cd_check_color ct_check_color), sl_check_color⟩)
    (c_check_color : PySem.W.codeIn K cd_check_color "check_color" = true) (k_check_color : PySem.W.keepIn K (.ref f_check_color) = true)
    (a_count_of : PySem.W.nsIn K mainGlobals "count_of" = some (some (.ref f_count_of)))
    (l_count_of : K.lookup f_count_of = some ⟨oc_count_of, od_count_of, .func (PySem.W.fnOf "count_of" "count_of" (defArgs s_count_of) (defBody s_count_of) (defScope s_count_of) .none kV_count_of dc_count_of pm_count_of an_count_of cd_count_of ct_count_of), sl_count_of⟩)
    (c_count_of : PySem.W.codeIn K cd_count_of "count_of" = true) (k_count_of : PySem.W.keepIn K (.ref f_count_of) = true)
    (a_people_ahead_of : PySem.W.nsIn K mainGlobals "people_ahead_of" = some (some (.ref f_people_ahead_of)))
    (l_people_ahead_of : K.lookup f_people_ahead_of = some ⟨oc_people_ahead_of, od_people_ahead_of, .func (PySem.W.fnOf "people_ahead_of" "people_ahead_of" (defArgs s_people_ahead_of) (defBody s_people_ahead_of) (defScope s_people_ahead_of) .none kV_people_ahead_of dc_people_ahead_of pm_people_ahead_of an_people_ahead_of cd_people_ahead_of ct_people_ahead_of), sl_people_ahead_of⟩)
    (c_people_ahead_of : PySem.W.codeIn K cd_people_ahead_of "people_ahead_of" = true) (k_people_ahead_of : PySem.W.keepIn K (.ref f_people_ahead_of) = true)
    (a__law_longer_right : PySem.W.nsIn K mainGlobals "_law_longer_right" = some (some (.ref f__law_longer_right)))
    (l__law_longer_right : K.lookup f__law_longer_right = some ⟨oc__law_longer_right, od__law_longer_right, .func (PySem.W.fnOf "_law_longer_right" "_law_longer_right" (defArgs s__law_longer_right) (defBody s__law_longer_right) (defScope s__law_longer_right) .none kV__law_longer_right dc__law_longer_right pm__law_longer_right an__law_longer_right cd__law_longer_right ct__law_longer_right), sl__law_longer_right⟩)
    (c__law_longer_right : PySem.W.codeIn K cd__law_longer_right "_law_longer_right" = true) (k__law_longer_right : PySem.W.keepIn K (.ref f__law_longer_right) = true)
    (a_first_other_color : PySem.W.nsIn K mainGlobals "first_other_color" = some (some (.ref f_first_other_color)))
    (l_first_other_color : K.lookup f_first_other_color = some ⟨oc_first_other_color, od_first_other_color, .func (PySem.W.fnOf "first_other_color" "first_other_color" (defArgs s_first_other_color) (defBody s_first_other_color) (defScope s_first_other_color) .none kV_first_other_color dc_first_other_color pm_first_other_color an_first_other_color cd_first_other_color ct_first_other_color), sl_first_other_color⟩)
    (c_first_other_color : PySem.W.codeIn K cd_first_other_color "first_other_color" = true) (k_first_other_color : PySem.W.keepIn K (.ref f_first_other_color) = true)
    (a_second_color : PySem.W.nsIn K mainGlobals "second_color" = some (some (.ref f_second_color)))
    (l_second_color : K.lookup f_second_color = some ⟨oc_second_color, od_second_color, .func (PySem.W.fnOf "second_color" "second_color" (defArgs s_second_color) (defBody s_second_color) (defScope s_second_color) .none kV_second_color dc_second_color pm_second_color an_second_color cd_second_color ct_second_color), sl_second_color⟩)
    (c_second_color : PySem.W.codeIn K cd_second_color "second_color" = true) (k_second_color : PySem.W.keepIn K (.ref f_second_color) = true)
    (a__law_results : PySem.W.nsIn K mainGlobals "_law_results" = some (some (.ref f__law_results)))
    (l__law_results : K.lookup f__law_results = some ⟨oc__law_results, od__law_results, .func (PySem.W.fnOf "_law_results" "_law_results" (defArgs s__law_results) (defBody s__law_results) (defScope s__law_results) .none kV__law_results dc__law_results pm__law_results an__law_results cd__law_results ct__law_results), sl__law_results⟩)
    (c__law_results : PySem.W.codeIn K cd__law_results "_law_results" = true) (k__law_results : PySem.W.keepIn K (.ref f__law_results) = true)
    (a__law_renamed_right : PySem.W.nsIn K mainGlobals "_law_renamed_right" = some (some (.ref f__law_renamed_right)))
    (l__law_renamed_right : K.lookup f__law_renamed_right = some ⟨oc__law_renamed_right, od__law_renamed_right, .func (PySem.W.fnOf "_law_renamed_right" "_law_renamed_right" (defArgs s__law_renamed_right) (defBody s__law_renamed_right) (defScope s__law_renamed_right) .none kV__law_renamed_right dc__law_renamed_right pm__law_renamed_right an__law_renamed_right cd__law_renamed_right ct__law_renamed_right), sl__law_renamed_right⟩)
    (c__law_renamed_right : PySem.W.codeIn K cd__law_renamed_right "_law_renamed_right" = true) (k__law_renamed_right : PySem.W.keepIn K (.ref f__law_renamed_right) = true)
    (a__law_holds : PySem.W.nsIn K mainGlobals "_law_holds" = some (some (.ref f__law_holds)))
    (l__law_holds : K.lookup f__law_holds = some ⟨oc__law_holds, od__law_holds, .func (PySem.W.fnOf "_law_holds" "_law_holds" (defArgs s__law_holds) (defBody s__law_holds) (defScope s__law_holds) .none kV__law_holds dc__law_holds pm__law_holds an__law_holds cd__law_holds ct__law_holds), sl__law_holds⟩)
    (c__law_holds : PySem.W.codeIn K cd__law_holds "_law_holds" = true) (k__law_holds : PySem.W.keepIn K (.ref f__law_holds) = true)
    (a__law_source : PySem.W.nsIn K mainGlobals "_law_source" = some (some (.ref f__law_source)))
    (l__law_source : K.lookup f__law_source = some ⟨oc__law_source, od__law_source, .func (PySem.W.fnOf "_law_source" "_law_source" (defArgs s__law_source) (defBody s__law_source) (defScope s__law_source) .none kV__law_source dc__law_source pm__law_source an__law_source cd__law_source ct__law_source), sl__law_source⟩)
    (c__law_source : PySem.W.codeIn K cd__law_source "_law_source" = true) (k__law_source : PySem.W.keepIn K (.ref f__law_source) = true)
    (a_law : PySem.W.nsIn K mainGlobals "law" = some (some (.ref f_law)))
    (l_law : K.lookup f_law = some ⟨oc_law, od_law, .func (PySem.W.fnOf "law" "law" (defArgs s_law) (defBody s_law) (defScope s_law) .none kV_law dc_law pm_law an_law cd_law ct_law), sl_law⟩)
    (c_law : PySem.W.codeIn K cd_law "law" = true) (k_law : PySem.W.keepIn K (.ref f_law) = true)
    (a_MOST_PEOPLE : PySem.W.nsIn K mainGlobals "MOST_PEOPLE" = some (some (.int 60 t_MOST_PEOPLE)))
    (z_bool : PySem.W.nsIn K mainGlobals "bool" = some none)
    (z_dict : PySem.W.nsIn K mainGlobals "dict" = some none)
    (z_enumerate : PySem.W.nsIn K mainGlobals "enumerate" = some none)
    (z_int : PySem.W.nsIn K mainGlobals "int" = some none)
    (z_isinstance : PySem.W.nsIn K mainGlobals "isinstance" = some none)
    (z_len : PySem.W.nsIn K mainGlobals "len" = some none)
    (z_list : PySem.W.nsIn K mainGlobals "list" = some none)
    (z_max : PySem.W.nsIn K mainGlobals "max" = some none)
    (z_min : PySem.W.nsIn K mainGlobals "min" = some none)
    (z_range : PySem.W.nsIn K mainGlobals "range" = some none)
    (z_sorted : PySem.W.nsIn K mainGlobals "sorted" = some none)
    (z_str : PySem.W.nsIn K mainGlobals "str" = some none)
    (z_tuple : PySem.W.nsIn K mainGlobals "tuple" = some none)
    (z_type : PySem.W.nsIn K mainGlobals "type" = some none)
    (z_zip : PySem.W.nsIn K mainGlobals "zip" = some none)
    : ∃ fd : FuncData, (∀ (s : Shared) (v : Value), BindsTo s fd ⟨[v], []⟩ [("script", v)]) ∧ ∀ base : Heap, K.In base → base.Ns mainGlobals mg → FnOk l.prog w K mg base CX0 8 fa fd ["script"] (sp_law K) := by
  have e := hfa.symm.trans (PySem.W.mg_of X G a_law)
  cases e
  have F__law_draw := fun_mk (st := s__law_draw) l__law_draw c__law_draw k__law_draw
  have n__law_draw := F__law_draw.binds (ps := ["source", "count"]) fun _ _ _ _ _ _ us hl => match us, hl with | [_, _], _ => rfl
  have F__law_shuffled := fun_mk (st := s__law_shuffled) l__law_shuffled c__law_shuffled k__law_shuffled
  have n__law_shuffled := F__law_shuffled.binds (ps := ["source", "items"]) fun _ _ _ _ _ _ us hl => match us, hl with | [_, _], _ => rfl
  have F__law_colors := fun_mk (st := s__law_colors) l__law_colors c__law_colors k__law_colors
  have n__law_colors := F__law_colors.binds (ps := ["source", "size"]) fun _ _ _ _ _ _ us hl => match us, hl with | [_, _], _ => rfl
  have F__law_people := fun_mk (st := s__law_people) l__law_people c__law_people k__law_people
  have n__law_people := F__law_people.binds (ps := ["source", "most"]) fun _ _ _ _ _ _ us hl => match us, hl with | [_, _], _ => rfl
  have F_is_integer := fun_mk (st := s_is_integer) l_is_integer c_is_integer k_is_integer
  have n_is_integer := F_is_integer.binds (ps := ["value"]) fun _ _ _ _ _ _ us hl => match us, hl with | [_], _ => rfl
  have F_is_color := fun_mk (st := s_is_color) l_is_color c_is_color k_is_color
  have n_is_color := F_is_color.binds (ps := ["value"]) fun _ _ _ _ _ _ us hl => match us, hl with | [_], _ => rfl
  have F_is_colored_integer := fun_mk (st := s_is_colored_integer) l_is_colored_integer c_is_colored_integer k_is_colored_integer
  have n_is_colored_integer := F_is_colored_integer.binds (ps := ["value"]) fun _ _ _ _ _ _ us hl => match us, hl with | [_], _ => rfl
  have F_is_lineup := fun_mk (st := s_is_lineup) l_is_lineup c_is_lineup k_is_lineup
  have n_is_lineup := F_is_lineup.binds (ps := ["value"]) fun _ _ _ _ _ _ us hl => match us, hl with | [_], _ => rfl
  have F_check_lineup := fun_mk (st := s_check_lineup) l_check_lineup c_check_lineup k_check_lineup
  have n_check_lineup := F_check_lineup.binds (ps := ["value"]) fun _ _ _ _ _ _ us hl => match us, hl with | [_], _ => rfl
  have F_runs_of := fun_mk (st := s_runs_of) l_runs_of c_runs_of k_runs_of
  have n_runs_of := F_runs_of.binds (ps := ["row"]) fun _ _ _ _ _ _ us hl => match us, hl with | [_], _ => rfl
  have F_color_runs := fun_mk (st := s_color_runs) l_color_runs c_color_runs k_color_runs
  have n_color_runs := F_color_runs.binds (ps := ["lineup"]) fun _ _ _ _ _ _ us hl => match us, hl with | [_], _ => rfl
  have F_colors_in_order := fun_mk (st := s_colors_in_order) l_colors_in_order c_colors_in_order k_colors_in_order
  have n_colors_in_order := F_colors_in_order.binds (ps := ["lineup"]) fun _ _ _ _ _ _ us hl => match us, hl with | [_], _ => rfl
  have F_front_color := fun_mk (st := s_front_color) l_front_color c_front_color k_front_color
  have n_front_color := F_front_color.binds (ps := ["lineup"]) fun _ _ _ _ _ _ us hl => match us, hl with | [_], _ => rfl
  have F_check_color := fun_mk (st := s_check_color) l_check_color c_check_color k_check_color
  have n_check_color := F_check_color.binds (ps := ["value"]) fun _ _ _ _ _ _ us hl => match us, hl with | [_], _ => rfl
  have F_count_of := fun_mk (st := s_count_of) l_count_of c_count_of k_count_of
  have n_count_of := F_count_of.binds (ps := ["lineup", "color"]) fun _ _ _ _ _ _ us hl => match us, hl with | [_, _], _ => rfl
  have F_people_ahead_of := fun_mk (st := s_people_ahead_of) l_people_ahead_of c_people_ahead_of k_people_ahead_of
  have n_people_ahead_of := F_people_ahead_of.binds (ps := ["lineup", "color"]) fun _ _ _ _ _ _ us hl => match us, hl with | [_, _], _ => rfl
  have F__law_longer_right := fun_mk (st := s__law_longer_right) l__law_longer_right c__law_longer_right k__law_longer_right
  have n__law_longer_right := F__law_longer_right.binds (ps := ["source", "people"]) fun _ _ _ _ _ _ us hl => match us, hl with | [_, _], _ => rfl
  have F_first_other_color := fun_mk (st := s_first_other_color) l_first_other_color c_first_other_color k_first_other_color
  have n_first_other_color := F_first_other_color.binds (ps := ["lineup", "color"]) fun _ _ _ _ _ _ us hl => match us, hl with | [_, _], _ => rfl
  have F_second_color := fun_mk (st := s_second_color) l_second_color c_second_color k_second_color
  have n_second_color := F_second_color.binds (ps := ["lineup"]) fun _ _ _ _ _ _ us hl => match us, hl with | [_], _ => rfl
  have F__law_results := fun_mk (st := s__law_results) l__law_results c__law_results k__law_results
  have n__law_results := F__law_results.binds (ps := ["people"]) fun _ _ _ _ _ _ us hl => match us, hl with | [_], _ => rfl
  have F__law_renamed_right := fun_mk (st := s__law_renamed_right) l__law_renamed_right c__law_renamed_right k__law_renamed_right
  have n__law_renamed_right := F__law_renamed_right.binds (ps := ["source", "people"]) fun _ _ _ _ _ _ us hl => match us, hl with | [_, _], _ => rfl
  have F__law_holds := fun_mk (st := s__law_holds) l__law_holds c__law_holds k__law_holds
  have n__law_holds := F__law_holds.binds (ps := ["source", "most"]) fun _ _ _ _ _ _ us hl => match us, hl with | [_, _], _ => rfl
  have F__law_source := fun_mk (st := s__law_source) l__law_source c__law_source k__law_source
  have n__law_source := F__law_source.binds (ps := ["cell", "k"]) fun _ _ _ _ _ _ us hl => match us, hl with | [_, _], _ => rfl
  have F_law := fun_mk (st := s_law) l_law c_law k_law
  have n_law := F_law.binds (ps := ["script"]) fun _ _ _ _ _ _ us hl => match us, hl with | [_], _ => rfl
  have T : Txt K mg { f__law_draw := _, d__law_draw := _, f__law_shuffled := _, d__law_shuffled := _, f__law_colors := _, d__law_colors := _, f__law_people := _, d__law_people := _, f_is_integer := _, d_is_integer := _, f_is_color := _, d_is_color := _, f_is_colored_integer := _, d_is_colored_integer := _, f_is_lineup := _, d_is_lineup := _, f_check_lineup := _, d_check_lineup := _, f_runs_of := _, d_runs_of := _, f_color_runs := _, d_color_runs := _, f_colors_in_order := _, d_colors_in_order := _, f_front_color := _, d_front_color := _, f_check_color := _, d_check_color := _, f_count_of := _, d_count_of := _, f_people_ahead_of := _, d_people_ahead_of := _, f__law_longer_right := _, d__law_longer_right := _, f_first_other_color := _, d_first_other_color := _, f_second_color := _, d_second_color := _, f__law_results := _, d__law_results := _, f__law_renamed_right := _, d__law_renamed_right := _, f__law_holds := _, d__law_holds := _, f__law_source := _, d__law_source := _, f_law := _, d_law := _, t_MOST_PEOPLE := t_MOST_PEOPLE } := {
    b_bool := PySem.W.mg_none_of X G z_bool,
    b_dict := PySem.W.mg_none_of X G z_dict,
    b_enumerate := PySem.W.mg_none_of X G z_enumerate,
    b_int := PySem.W.mg_none_of X G z_int,
    b_isinstance := PySem.W.mg_none_of X G z_isinstance,
    b_len := PySem.W.mg_none_of X G z_len,
    b_list := PySem.W.mg_none_of X G z_list,
    b_max := PySem.W.mg_none_of X G z_max,
    b_min := PySem.W.mg_none_of X G z_min,
    b_range := PySem.W.mg_none_of X G z_range,
    b_sorted := PySem.W.mg_none_of X G z_sorted,
    b_str := PySem.W.mg_none_of X G z_str,
    b_tuple := PySem.W.mg_none_of X G z_tuple,
    b_type := PySem.W.mg_none_of X G z_type,
    b_zip := PySem.W.mg_none_of X G z_zip,
    c_MOST_PEOPLE := PySem.W.mg_of X G a_MOST_PEOPLE,
    F__law_draw := F__law_draw,
    n__law_draw := n__law_draw,
    g__law_draw := PySem.W.mg_of X G a__law_draw,
    k__law_draw := k__law_draw,
    F__law_shuffled := F__law_shuffled,
    n__law_shuffled := n__law_shuffled,
    g__law_shuffled := PySem.W.mg_of X G a__law_shuffled,
    k__law_shuffled := k__law_shuffled,
    F__law_colors := F__law_colors,
    n__law_colors := n__law_colors,
    g__law_colors := PySem.W.mg_of X G a__law_colors,
    k__law_colors := k__law_colors,
    F__law_people := F__law_people,
    n__law_people := n__law_people,
    g__law_people := PySem.W.mg_of X G a__law_people,
    k__law_people := k__law_people,
    F_is_integer := F_is_integer,
    n_is_integer := n_is_integer,
    g_is_integer := PySem.W.mg_of X G a_is_integer,
    k_is_integer := k_is_integer,
    F_is_color := F_is_color,
    n_is_color := n_is_color,
    g_is_color := PySem.W.mg_of X G a_is_color,
    k_is_color := k_is_color,
    F_is_colored_integer := F_is_colored_integer,
    n_is_colored_integer := n_is_colored_integer,
    g_is_colored_integer := PySem.W.mg_of X G a_is_colored_integer,
    k_is_colored_integer := k_is_colored_integer,
    F_is_lineup := F_is_lineup,
    n_is_lineup := n_is_lineup,
    g_is_lineup := PySem.W.mg_of X G a_is_lineup,
    k_is_lineup := k_is_lineup,
    F_check_lineup := F_check_lineup,
    n_check_lineup := n_check_lineup,
    g_check_lineup := PySem.W.mg_of X G a_check_lineup,
    k_check_lineup := k_check_lineup,
    F_runs_of := F_runs_of,
    n_runs_of := n_runs_of,
    g_runs_of := PySem.W.mg_of X G a_runs_of,
    k_runs_of := k_runs_of,
    F_color_runs := F_color_runs,
    n_color_runs := n_color_runs,
    g_color_runs := PySem.W.mg_of X G a_color_runs,
    k_color_runs := k_color_runs,
    F_colors_in_order := F_colors_in_order,
    n_colors_in_order := n_colors_in_order,
    g_colors_in_order := PySem.W.mg_of X G a_colors_in_order,
    k_colors_in_order := k_colors_in_order,
    F_front_color := F_front_color,
    n_front_color := n_front_color,
    g_front_color := PySem.W.mg_of X G a_front_color,
    k_front_color := k_front_color,
    F_check_color := F_check_color,
    n_check_color := n_check_color,
    g_check_color := PySem.W.mg_of X G a_check_color,
    k_check_color := k_check_color,
    F_count_of := F_count_of,
    n_count_of := n_count_of,
    g_count_of := PySem.W.mg_of X G a_count_of,
    k_count_of := k_count_of,
    F_people_ahead_of := F_people_ahead_of,
    n_people_ahead_of := n_people_ahead_of,
    g_people_ahead_of := PySem.W.mg_of X G a_people_ahead_of,
    k_people_ahead_of := k_people_ahead_of,
    F__law_longer_right := F__law_longer_right,
    n__law_longer_right := n__law_longer_right,
    g__law_longer_right := PySem.W.mg_of X G a__law_longer_right,
    k__law_longer_right := k__law_longer_right,
    F_first_other_color := F_first_other_color,
    n_first_other_color := n_first_other_color,
    g_first_other_color := PySem.W.mg_of X G a_first_other_color,
    k_first_other_color := k_first_other_color,
    F_second_color := F_second_color,
    n_second_color := n_second_color,
    g_second_color := PySem.W.mg_of X G a_second_color,
    k_second_color := k_second_color,
    F__law_results := F__law_results,
    n__law_results := n__law_results,
    g__law_results := PySem.W.mg_of X G a__law_results,
    k__law_results := k__law_results,
    F__law_renamed_right := F__law_renamed_right,
    n__law_renamed_right := n__law_renamed_right,
    g__law_renamed_right := PySem.W.mg_of X G a__law_renamed_right,
    k__law_renamed_right := k__law_renamed_right,
    F__law_holds := F__law_holds,
    n__law_holds := n__law_holds,
    g__law_holds := PySem.W.mg_of X G a__law_holds,
    k__law_holds := k__law_holds,
    F__law_source := F__law_source,
    n__law_source := n__law_source,
    g__law_source := PySem.W.mg_of X G a__law_source,
    k__law_source := k__law_source,
    F_law := F_law,
    n_law := n_law,
    g_law := PySem.W.mg_of X G a_law,
    k_law := k_law }
  exact ⟨_, fun s v => .of_eq rfl, fun base _ _ => ok_law T⟩
theorem walk {l : PySem.W.OpenLaw} {q : Program} {loose : List Str} {XP : (Str → Option Value) → Heap → Prop} {YP : World → Heap → Prop} {d : DefRec} {K : Params → PySem.W.Frag} (hn : l.most = some 63) (hdf : d.params.defaults = [])
    (hY : ∀ (w : World) (h : Heap), YP w h → (K w.params).In h)
    (F : ∀ (w : World) (mg : Str → Option Value) (fa : Addr) (h : Heap), (K w.params).In h → h.Ns mainGlobals mg → mg d.name = some (.ref fa) →
      ∃ fd : FuncData, (∀ (s : Shared) (u : Value), BindsTo s fd ⟨[u], []⟩ [("script", u)]) ∧ ∀ base : Heap, (K w.params).In base → base.Ns mainGlobals mg → FnOk l.prog w (K w.params) mg base CX0 8 fa fd ["script"] (sp_law (K w.params))) :
    PySem.W.WalkO q loose XP YP l.row.toRowW d [] (fun f vs => PySem.call f vs) :=
  L2.walk_of (n := 63) (k := 8) (x := "script") (CX := fun _ => CX0) (sp := fun w => sp_law (K w.params)) hn (by decide) hdf ⟨rfl, by decide, by decide⟩ hY F (fun _ _ a ns hl hO hS => ⟨a, ns, rfl, Scr.of hO hS, hl, fun _ => rfl⟩) fun _ _ _ _ _ z => z
end K06

open PySem PySem.W PyProof.Rows
set_option maxRecDepth 100000 in
set_option maxHeartbeats 0 in
theorem PySem.Challenge.cw_lastother_k06_whole_renamed_and_reversed_holds : PySem.Challenge.rw_lastother_k06_whole_renamed_and_reversed.Holds := by
  w_on; o_law; k_head; (case hw => w_witness2)
  k_fill
  refine K06.walk (l := PySem.Challenge.rw_lastother_k06_whole_renamed_and_reversed) rfl rfl (fun w h Y => PySem.W.kIn_of Y) ?F
  case F =>
    intro w mg fa h KX G hmg
    refine' K06.all_mk KX G hmg ?a__law_draw ?l__law_draw ?c__law_draw ?k__law_draw ?a__law_shuffled ?l__law_shuffled ?c__law_shuffled ?k__law_shuffled ?a__law_colors ?l__law_colors ?c__law_colors ?k__law_colors ?a__law_people ?l__law_people ?c__law_people ?k__law_people ?a_is_integer ?l_is_integer ?c_is_integer ?k_is_integer ?a_is_color ?l_is_color ?c_is_color ?k_is_color ?a_is_colored_integer ?l_is_colored_integer ?c_is_colored_integer ?k_is_colored_integer ?a_is_lineup ?l_is_lineup ?c_is_lineup ?k_is_lineup ?a_check_lineup ?l_check_lineup ?c_check_lineup ?k_check_lineup ?a_runs_of ?l_runs_of ?c_runs_of ?k_runs_of ?a_color_runs ?l_color_runs ?c_color_runs ?k_color_runs ?a_colors_in_order ?l_colors_in_order ?c_colors_in_order ?k_colors_in_order ?a_front_color ?l_front_color ?c_front_color ?k_front_color ?a_check_color ?l_check_color ?c_check_color ?k_check_color ?a_count_of ?l_count_of ?c_count_of ?k_count_of ?a_people_ahead_of ?l_people_ahead_of ?c_people_ahead_of ?k_people_ahead_of ?a__law_longer_right ?l__law_longer_right ?c__law_longer_right ?k__law_longer_right ?a_first_other_color ?l_first_other_color ?c_first_other_color ?k_first_other_color ?a_second_color ?l_second_color ?c_second_color ?k_second_color ?a__law_results ?l__law_results ?c__law_results ?k__law_results ?a__law_renamed_right ?l__law_renamed_right ?c__law_renamed_right ?k__law_renamed_right ?a__law_holds ?l__law_holds ?c__law_holds ?k__law_holds ?a__law_source ?l__law_source ?c__law_source ?k__law_source ?a_law ?l_law ?c_law ?k_law ?a_MOST_PEOPLE ?z_bool ?z_dict ?z_enumerate ?z_int ?z_isinstance ?z_len ?z_list ?z_max ?z_min ?z_range ?z_sorted ?z_str ?z_tuple ?z_type ?z_zip
    (case a__law_draw => k_is)
    (case l__law_draw => k_is)
    (case c__law_draw => k_is)
    (case k__law_draw => k_is)
    (case a__law_shuffled => k_is)
    (case l__law_shuffled => k_is)
    (case c__law_shuffled => k_is)
    (case k__law_shuffled => k_is)
    (case a__law_colors => k_is)
    (case l__law_colors => k_is)
    (case c__law_colors => k_is)
    (case k__law_colors => k_is)
    (case a__law_people => k_is)
    (case l__law_people => k_is)
    (case c__law_people => k_is)
    (case k__law_people => k_is)
    (case a_is_integer => k_is)
    (case l_is_integer => k_is)
    (case c_is_integer => k_is)
    (case k_is_integer => k_is)
    (case a_is_color => k_is)
    (case l_is_color => k_is)
    (case c_is_color => k_is)
    (case k_is_color => k_is)
    (case a_is_colored_integer => k_is)
    (case l_is_colored_integer => k_is)
    (case c_is_colored_integer => k_is)
    (case k_is_colored_integer => k_is)
    (case a_is_lineup => k_is)
    (case l_is_lineup => k_is)
    (case c_is_lineup => k_is)
    (case k_is_lineup => k_is)
    (case a_check_lineup => k_is)
    (case l_check_lineup => k_is)
    (case c_check_lineup => k_is)
    (case k_check_lineup => k_is)
    (case a_runs_of => k_is)
    (case l_runs_of => k_is)
    (case c_runs_of => k_is)
    (case k_runs_of => k_is)
    (case a_color_runs => k_is)
    (case l_color_runs => k_is)
    (case c_color_runs => k_is)
    (case k_color_runs => k_is)
    (case a_colors_in_order => k_is)
    (case l_colors_in_order => k_is)
    (case c_colors_in_order => k_is)
    (case k_colors_in_order => k_is)
    (case a_front_color => k_is)
    (case l_front_color => k_is)
    (case c_front_color => k_is)
    (case k_front_color => k_is)
    (case a_check_color => k_is)
    (case l_check_color => k_is)
    (case c_check_color => k_is)
    (case k_check_color => k_is)
    (case a_count_of => k_is)
    (case l_count_of => k_is)
    (case c_count_of => k_is)
    (case k_count_of => k_is)
    (case a_people_ahead_of => k_is)
    (case l_people_ahead_of => k_is)
    (case c_people_ahead_of => k_is)
    (case k_people_ahead_of => k_is)
    (case a__law_longer_right => k_is)
    (case l__law_longer_right => k_is)
    (case c__law_longer_right => k_is)
    (case k__law_longer_right => k_is)
    (case a_first_other_color => k_is)
    (case l_first_other_color => k_is)
    (case c_first_other_color => k_is)
    (case k_first_other_color => k_is)
    (case a_second_color => k_is)
    (case l_second_color => k_is)
    (case c_second_color => k_is)
    (case k_second_color => k_is)
    (case a__law_results => k_is)
    (case l__law_results => k_is)
    (case c__law_results => k_is)
    (case k__law_results => k_is)
    (case a__law_renamed_right => k_is)
    (case l__law_renamed_right => k_is)
    (case c__law_renamed_right => k_is)
    (case k__law_renamed_right => k_is)
    (case a__law_holds => k_is)
    (case l__law_holds => k_is)
    (case c__law_holds => k_is)
    (case k__law_holds => k_is)
    (case a__law_source => k_is)
    (case l__law_source => k_is)
    (case c__law_source => k_is)
    (case k__law_source => k_is)
    (case a_law => k_is)
    (case l_law => k_is)
    (case c_law => k_is)
    (case k_law => k_is)
    (case a_MOST_PEOPLE => k_is)
    (case z_bool => k_is)
    (case z_dict => k_is)
    (case z_enumerate => k_is)
    (case z_int => k_is)
    (case z_isinstance => k_is)
    (case z_len => k_is)
    (case z_list => k_is)
    (case z_max => k_is)
    (case z_min => k_is)
    (case z_range => k_is)
    (case z_sorted => k_is)
    (case z_str => k_is)
    (case z_tuple => k_is)
    (case z_type => k_is)
    (case z_zip => k_is)
