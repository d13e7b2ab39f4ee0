import PyProof.Rows.All
import Wide.All
import OpenK.AllK
import Wide.FinOn
import HandS.ForMost
import HandS.ForExc
import HandS.Zip
import HandS.Wide
import HandS.WideBits
import HandS.IsInst
import HandS.Style
import HandS.Conv
import HandS.Flow
import HandS.RevRange
import HandS.SortOrd
import HandS.TupLe
import HandS.EndBits
import HandS.StrMore
import HandS.Codes
import HandS.CallSlots
import HandS.RaiseOp
import KE.SortData
import HandS.Hot
import HandS.HotCalls
import HandS.ExcCtx
import HandS.ExcIs
import HandS.CallLocal
import HandS.SuiteRaise
import HandS.ExcOwn
import KE.RegKIsAll
import KE.RegKTryMore
import KE.KOwnIn
import HandS.AnyAll
import HandS.JoinGen
import HandS.EndTab
import HandS.FStr
import HandS.More
import PySem.Challenge.RW_wheelways_k01_whole_forth
set_option Elab.async false
set_option linter.all false
set_option maxRecDepth 100000
set_option maxHeartbeats 4000000
local macro_rules | `(tactic| walk_at "w") => `(tactic| repeat (first | refine ⟨_, rfl, ?_⟩ | refine ⟨_, _, rfl, rfl, ?_⟩ | refine ⟨rfl, ?_⟩))
/-! Plain mathematics of wheels: products, the reflected way, distances. No Python here. -/
namespace Ww

/-- the product of sizes, over the wheels from the last one on -/
def prd : List Int → Int
  | [] => 1
  | s :: r => prd r * s
def ones (l : List Int) : Prop := ∀ s ∈ l, 1 ≤ s
theorem ones_tail {s : Int} {r : List Int} (h : ones (s :: r)) : ones r := fun x hx => h x (List.mem_cons_of_mem _ hx)
theorem ones_head {s : Int} {r : List Int} (h : ones (s :: r)) : 1 ≤ s := h s List.mem_cons_self
theorem prd_pos : ∀ {l : List Int}, ones l → 1 ≤ prd l
  | [], _ => Int.le_refl 1
  | s :: r, h => by
    have h1 := prd_pos (ones_tail h)
    have h2 := ones_head h
    show 1 ≤ prd r * s
    have h3 : 1 * 1 ≤ prd r * s := Int.mul_le_mul h1 h2 (by omega) (by omega)
    omega
theorem prd_append : ∀ (a b : List Int), prd (a ++ b) = prd a * prd b
  | [], b => by show prd b = 1 * prd b; omega
  | s :: a, b => by
    show prd (a ++ b) * s = prd a * s * prd b
    rw [prd_append a b, Int.mul_assoc, Int.mul_comm (prd b) s, ← Int.mul_assoc]
theorem prd_reverse : ∀ (l : List Int), prd l.reverse = prd l
  | [] => rfl
  | s :: r => by
    rw [List.reverse_cons, prd_append, prd_reverse r]
    show prd r * (1 * s) = prd r * s
    rw [Int.one_mul]

/-- a wheel's number, counted from its other end where the number ahead is odd -/
def mir (s p a : Int) : Int := if (a % 2 != 0) = true then s - 1 - p else p
theorem mir_cases (s p a : Int) : (a % 2 = 0 ∧ mir s p a = p) ∨ (a % 2 = 1 ∧ mir s p a = s - 1 - p) := by
  unfold mir
  have h : a % 2 = 0 ∨ a % 2 = 1 := by omega
  rcases h with h | h
  · rw [h]; left; exact ⟨rfl, rfl⟩
  · rw [h]; right; exact ⟨rfl, rfl⟩
theorem mir_mir (s p a : Int) : mir s (mir s p a) a = p := by
  rcases mir_cases s p a with ⟨h, e⟩ | ⟨h, e⟩
  · rcases mir_cases s (mir s p a) a with ⟨h2, e2⟩ | ⟨h2, e2⟩
    · rw [e2, e]
    · omega
  · rcases mir_cases s (mir s p a) a with ⟨h2, e2⟩ | ⟨h2, e2⟩
    · omega
    · rw [e2, e]; omega
theorem mir_in {s p a : Int} (h0 : 0 ≤ p) (h1 : p < s) : 0 ≤ mir s p a ∧ mir s p a < s := by
  rcases mir_cases s p a with ⟨_, e⟩ | ⟨_, e⟩ <;> rw [e] <;> omega

/-- a setting of wheels -/
def okS : List Int → List Int → Prop
  | [], [] => True
  | s :: r, p :: q => 0 ≤ p ∧ p < s ∧ okS r q
  | _, _ => False
theorem okS_len : ∀ {l q : List Int}, okS l q → q.length = l.length
  | [], [], _ => rfl
  | [], _ :: _, h => h.elim
  | _ :: _, [], h => h.elim
  | _ :: r, _ :: q, h => by rw [List.length_cons, List.length_cons, okS_len h.2.2]
theorem okS_append : ∀ {a b c d : List Int}, okS a b → okS c d → okS (a ++ c) (b ++ d)
  | [], [], _, _, _, h => h
  | [], _ :: _, _, _, h, _ => h.elim
  | _ :: _, [], _, _, h, _ => h.elim
  | _ :: _, _ :: _, _, _, h, h2 => ⟨h.1, h.2.1, okS_append h.2.2 h2⟩
theorem okS_reverse : ∀ {a b : List Int}, okS a b → okS a.reverse b.reverse
  | [], [], _ => trivial
  | [], _ :: _, h => h.elim
  | _ :: _, [], h => h.elim
  | s :: a, p :: b, h => by
    rw [List.reverse_cons, List.reverse_cons]
    exact okS_append (okS_reverse h.2.2) ⟨h.1, h.2.1, trivial⟩
theorem okS_at : ∀ {l q : List Int}, okS l q → ∀ {i : Nat} {s p : Int}, l[i]? = some s → q[i]? = some p → 0 ≤ p ∧ p < s
  | [], [], _, i, s, p, h, _ => by simp at h
  | [], _ :: _, h, _, _, _, _, _ => h.elim
  | _ :: _, [], h, _, _, _, _, _ => h.elim
  | x :: r, y :: q, h, 0, s, p, e1, e2 => by
    have a : x = s := Option.some.inj e1
    have b : y = p := Option.some.inj e2
    subst a b
    exact ⟨h.1, h.2.1⟩
  | x :: r, y :: q, h, i + 1, s, p, e1, e2 => okS_at h.2.2 (i := i) e1 e2
theorem okS_of : ∀ {l q : List Int}, q.length = l.length → (∀ (i : Nat) (s p : Int), l[i]? = some s → q[i]? = some p → 0 ≤ p ∧ p < s) → okS l q
  | [], [], _, _ => trivial
  | [], _ :: _, h, _ => by simp at h
  | _ :: _, [], h, _ => by simp at h
  | x :: r, y :: q, h, k => ⟨(k 0 x y rfl rfl).1, (k 0 x y rfl rfl).2, okS_of (by simpa using h) fun i s p e1 e2 => k (i + 1) s p e1 e2⟩

/-- the number of a setting on the way, over the wheels from the last one on -/
def nofR : List Int → List Int → Int
  | s :: r, p :: q => nofR r q * s + mir s p (nofR r q)
  | _, _ => 0
/-- the setting of a number, from the last wheel on -/
def sof : List Int → Int → List Int
  | [], _ => []
  | s :: r, n => mir s (n % s) (n / s) :: sof r (n / s)
def ahd : List Int → Int → Int
  | [], n => n
  | s :: r, n => ahd r (n / s)
theorem sof_len : ∀ (l : List Int) (n : Int), (sof l n).length = l.length
  | [], _ => rfl
  | _ :: r, n => by show (sof r _).length + 1 = r.length + 1; rw [sof_len r]
theorem sof_snoc : ∀ (l : List Int) (s n : Int), sof (l ++ [s]) n = sof l n ++ [mir s (ahd l n % s) (ahd l n / s)]
  | [], _, _ => rfl
  | x :: l, s, n => by
    show mir x (n % x) (n / x) :: sof (l ++ [s]) (n / x) = mir x (n % x) (n / x) :: sof l (n / x) ++ [_]
    rw [sof_snoc l s (n / x)]
    rfl
theorem ahd_snoc : ∀ (l : List Int) (s n : Int), ahd (l ++ [s]) n = ahd l n / s
  | [], _, _ => rfl
  | x :: l, s, n => ahd_snoc l s (n / x)
theorem ahd_nn : ∀ {l : List Int} {n : Int}, ones l → 0 ≤ n → 0 ≤ ahd l n
  | [], _, _, h => h
  | s :: r, n, ho, h => by
    have hs := ones_head ho
    exact ahd_nn (l := r) (n := n / s) (ones_tail ho) (Int.ediv_nonneg h (by omega))
theorem div_lt {n s a : Int} (hs : 1 ≤ s) (h : n < a * s) : n / s < a := Int.ediv_lt_of_lt_mul (by omega) h
theorem mod_in {n s : Int} (hs : 1 ≤ s) : 0 ≤ n % s ∧ n % s < s := ⟨Int.emod_nonneg _ (by omega), Int.emod_lt_of_pos _ (by omega)⟩
theorem sof_ok : ∀ {l : List Int} {n : Int}, ones l → okS l (sof l n)
  | [], _, _ => trivial
  | s :: r, n, ho => by
    have h := mod_in (n := n) (ones_head ho)
    have h2 := mir_in (a := n / s) h.1 h.2
    exact ⟨h2.1, h2.2, sof_ok (ones_tail ho)⟩
theorem nof_sof : ∀ {l : List Int} {n : Int}, ones l → 0 ≤ n → n < prd l → nofR l (sof l n) = n
  | [], n, _, h0, h1 => by
    have : prd [] = 1 := rfl
    show (0 : Int) = n
    omega
  | s :: r, n, ho, h0, h1 => by
    have hs := ones_head ho
    have ih := nof_sof (l := r) (n := n / s) (ones_tail ho) (Int.ediv_nonneg h0 (by omega)) (div_lt hs h1)
    show nofR r (sof r (n / s)) * s + mir s (mir s (n % s) (n / s)) (nofR r (sof r (n / s))) = n
    rw [ih, mir_mir]
    have := Int.mul_ediv_add_emod n s
    rw [Int.mul_comm] at this
    exact this
theorem nof_in : ∀ {l q : List Int}, okS l q → 0 ≤ nofR l q ∧ nofR l q < prd l
  | [], [], _ => by
    show (0 : Int) ≤ 0 ∧ (0 : Int) < 1
    omega
  | [], _ :: _, h => h.elim
  | _ :: _, [], h => h.elim
  | s :: r, p :: q, h => by
    obtain ⟨a, b⟩ := nof_in h.2.2
    have m := mir_in (a := nofR r q) h.1 h.2.1
    show 0 ≤ nofR r q * s + mir s p (nofR r q) ∧ nofR r q * s + mir s p (nofR r q) < prd r * s
    have hs : 0 ≤ s := by have := h.1; have := h.2.1; omega
    have h1 : 0 ≤ nofR r q * s := Int.mul_nonneg a hs
    have h2 : (nofR r q + 1) * s ≤ prd r * s := Int.mul_le_mul_of_nonneg_right (by omega) hs
    rw [Int.add_mul, Int.one_mul] at h2
    omega
theorem sof_nof : ∀ {l q : List Int}, okS l q → sof l (nofR l q) = q
  | [], [], _ => rfl
  | [], _ :: _, h => h.elim
  | _ :: _, [], h => h.elim
  | s :: r, p :: q, h => by
    have ih := sof_nof h.2.2
    have m := mir_in (a := nofR r q) h.1 h.2.1
    have hs : s ≠ 0 := by have := h.1; have := h.2.1; omega
    have e1 : (nofR r q * s + mir s p (nofR r q)) / s = nofR r q := by
      rw [Int.add_comm, Int.add_mul_ediv_right _ _ hs, Int.ediv_eq_zero_of_lt m.1 m.2]
      omega
    have e2 : (nofR r q * s + mir s p (nofR r q)) % s = mir s p (nofR r q) := by
      rw [Int.add_comm, Int.add_mul_emod_self_right, Int.emod_eq_of_lt m.1 m.2]
    show mir s ((nofR r q * s + mir s p (nofR r q)) % s) ((nofR r q * s + mir s p (nofR r q)) / s) :: sof r ((nofR r q * s + mir s p (nofR r q)) / s) = p :: q
    rw [e1, e2, mir_mir, ih]
theorem sof_zero : ∀ {l : List Int}, ones l → sof l 0 = List.replicate l.length 0
  | [], _ => rfl
  | s :: r, ho => by
    have e : sof (s :: r) 0 = mir s (0 % s) (0 / s) :: sof r (0 / s) := rfl
    rw [e, Int.zero_ediv, Int.zero_emod, sof_zero (ones_tail ho)]
    rfl

def absI (n : Int) : Int := if n < 0 then -n else n
theorem absI_eq (n : Int) : absI n = (n.natAbs : Int) := by
  unfold absI
  split <;> omega
/-- how far two settings are apart -/
def dist : List Int → List Int → Int
  | a :: r, b :: q => absI (a - b) + dist r q
  | _, _ => 0
theorem dist_self : ∀ l : List Int, dist l l = 0
  | [] => rfl
  | a :: r => by
    show absI (a - a) + dist r r = 0
    rw [dist_self r, Int.sub_self]
    rfl
theorem dist_comm : ∀ a b : List Int, dist a b = dist b a
  | [], [] => rfl
  | [], _ :: _ => rfl
  | _ :: _, [] => rfl
  | x :: a, y :: b => by
    show absI (x - y) + dist a b = absI (y - x) + dist b a
    rw [dist_comm a b, absI_eq, absI_eq]
    omega
theorem dist_append : ∀ {a b c d : List Int}, a.length = b.length → dist (a ++ c) (b ++ d) = dist a b + dist c d
  | [], [], c, d, _ => by
    show dist c d = 0 + dist c d
    omega
  | [], _ :: _, _, _, h => by simp at h
  | _ :: _, [], _, _, h => by simp at h
  | x :: a, y :: b, c, d, h => by
    show absI (x - y) + dist (a ++ c) (b ++ d) = absI (x - y) + dist a b + dist c d
    rw [dist_append (a := a) (b := b) (by simpa using h)]
    omega
theorem dist_reverse : ∀ {a b : List Int}, a.length = b.length → dist a.reverse b.reverse = dist a b
  | [], [], _ => rfl
  | [], _ :: _, h => by simp at h
  | _ :: _, [], h => by simp at h
  | x :: a, y :: b, h => by
    have h2 : a.length = b.length := by simpa using h
    rw [List.reverse_cons, List.reverse_cons, dist_append (by rw [List.length_reverse, List.length_reverse]; exact h2), dist_reverse h2]
    show _ + (absI (x - y) + 0) = absI (x - y) + dist a b
    omega
theorem sof_step : ∀ {l : List Int} {n : Int}, ones l → 0 ≤ n → n + 1 < prd l → dist (sof l n) (sof l (n + 1)) = 1
  | [], n, _, h0, h1 => by
    have : prd [] = 1 := rfl
    omega
  | s :: r, n, ho, h0, h1 => by
    have hs := ones_head ho
    have hm := mod_in (n := n) hs
    have ed := Int.mul_ediv_add_emod n s
    have ez : s ≠ 0 := by omega
    show absI (mir s (n % s) (n / s) - mir s ((n + 1) % s) ((n + 1) / s)) + dist (sof r (n / s)) (sof r ((n + 1) / s)) = 1
    by_cases c : n % s + 1 < s
    · have e1 : (n + 1) / s = n / s := by
        have : n + 1 = (n % s + 1) + s * (n / s) := by omega
        rw [this, Int.add_mul_ediv_left _ _ ez, Int.ediv_eq_zero_of_lt (by omega) c]
        omega
      have e2 : (n + 1) % s = n % s + 1 := by
        have : n + 1 = (n % s + 1) + s * (n / s) := by omega
        rw [this, Int.add_mul_emod_self_left, Int.emod_eq_of_lt (by omega) c]
      rw [e1, e2, dist_self]
      rcases mir_cases s (n % s) (n / s) with ⟨p, e⟩ | ⟨p, e⟩
      · rcases mir_cases s (n % s + 1) (n / s) with ⟨p2, f⟩ | ⟨p2, f⟩
        · rw [e, f, absI_eq]; omega
        · omega
      · rcases mir_cases s (n % s + 1) (n / s) with ⟨p2, f⟩ | ⟨p2, f⟩
        · omega
        · rw [e, f, absI_eq]; omega
    · have em : n % s = s - 1 := by omega
      have e1 : (n + 1) / s = n / s + 1 := by
        have : n + 1 = s * (n / s + 1) := by
          rw [Int.mul_add, Int.mul_one]
          omega
        rw [this, Int.mul_ediv_cancel_left _ ez]
      have e2 : (n + 1) % s = 0 := by
        have : n + 1 = s * (n / s + 1) := by
          rw [Int.mul_add, Int.mul_one]
          omega
        rw [this, Int.mul_emod_right]
      have hb : n / s + 1 < prd r := by
        have := div_lt hs h1
        omega
      have ih := sof_step (l := r) (n := n / s) (ones_tail ho) (Int.ediv_nonneg h0 (by omega)) hb
      rw [e1, e2, ih, em]
      have z : mir s (s - 1) (n / s) = mir s 0 (n / s + 1) := by
        rcases mir_cases s (s - 1) (n / s) with ⟨p, e⟩ | ⟨p, e⟩
        · rcases mir_cases s 0 (n / s + 1) with ⟨p2, f⟩ | ⟨p2, f⟩
          · omega
          · rw [e, f]; omega
        · rcases mir_cases s 0 (n / s + 1) with ⟨p2, f⟩ | ⟨p2, f⟩
          · rw [e, f]; omega
          · omega
      rw [z, Int.sub_self]
      rfl
end Ww
/-! what every proof over the wheels leans on: a def at its place in the text (Df), a def that keeps a promise (Ok), its call as a rule (pe_ok), the built-ins (Bi) -/
namespace Ww
open PySem PySem.Spec PyProof.Rows L2
/-- the def x of the text st, as the top has left it -/
structure At (K : PySem.W.Frag) (mg : Str → Option Value) (x : Str) (st : Stmt) (ps : List Str) (f : Addr) (fd : FuncData) : Prop where
  F : Fun K x x st f fd
  g : mg x = some (.ref f)
  b : Binds K fd ps []
def Df (K : PySem.W.Frag) (mg : Str → Option Value) (x : Str) (st : Stmt) (ps : List Str) : Prop := ∃ f fd, At K mg x st ps f fd
/-- the def x keeps the promise sp, whatever CX lets out -/
structure OkC (P : Program) (w : World) (K : PySem.W.Frag) (mg : Str → Option Value) (base : Heap) (CX : CXT) (x : Str) (ps : List Str) (k : Nat) (sp : Sp) : Prop where
  ex : ∃ (f : Addr) (fd : FuncData), mg x = some (.ref f) ∧ PySem.W.keepIn K (.ref f) = true ∧ Binds K fd ps [] ∧ FnOk P w K mg base CX k f fd ps sp
abbrev Ok (P : Program) (w : World) (K : PySem.W.Frag) (mg : Str → Option Value) (base : Heap) (x : Str) (ps : List Str) (k : Nat) (sp : Sp) : Prop := OkC P w K mg base CX0 x ps k sp
theorem pe_ok {X : Cx} {x : Str} {ps : List Str} {k j : Nat} {sp : Sp} {e : Expr} {es : List Expr} {t : TA} {p pos : Pos} (C : Ok X.prog X.w X.K X.mg X.base x ps k sp) (hr : Room j X.A) (hk : k ≤ j) (ha : PA X (e :: es) t) (hg : Gl X x := by rfl)
    (hdb : (x == ("__debug__" : Str)) = false := by decide) (he : starEach (e :: es) X.env = (false, eval e X.env) :: starEach es X.env := by rfl) (hpl : (backTo pos (starEach es X.env)).any (·.1) = false := by rfl) :
    PE X (.Call (.Name x p) (e :: es) [] pos) (tCall sp [] E0 t) := by
  obtain ⟨f, fd, g, kp, b, F⟩ := C.ex
  exact pe_call F (hr.mono hk) hg g kp b .nil pass0 ha hdb he hpl
theorem At.ok {P : Program} {w : World} {K : PySem.W.Frag} {mg : Str → Option Value} {base : Heap} {x : Str} {st : Stmt} {N ps : List Str} {k : Nat} {sp : Sp} {f : Addr} {fd : FuncData} (D : At K mg x st ps f fd) (S : FnScope N ps (defScope st)) (len : ∀ vs H Q E, sp vs H Q E → vs.length = ps.length)
    (hbody : ∀ (cdv : Value) (A : Around) (outer : List Env) (s : Shared) (H : Hp) (vs : List V) (Q : VK) (E : XK), Room k (A.deeper (envOfC x (defScope st) s.heap.objs.size f cdv)) → sp vs H Q E →
      ∃ t, PSs (cxOf CX0 P w K mg base N x (defScope st) f cdv A outer s H E).nox (defBody st) t ∧ t { nx := fun _ H' => Q .non H', rt := Q } (start N vs) H) : FnOk P w K mg base CX0 (k + 1) f fd ps sp := D.F.ok S len hbody
theorem Df.ok {P : Program} {w : World} {K : PySem.W.Frag} {mg : Str → Option Value} {base : Heap} {x : Str} {st : Stmt} {N ps : List Str} {k : Nat} {sp : Sp} (D : Df K mg x st ps) (S : FnScope N ps (defScope st)) (len : ∀ vs H Q E, sp vs H Q E → vs.length = ps.length)
    (hbody : ∀ (f : Addr) (cdv : Value) (A : Around) (outer : List Env) (s : Shared) (H : Hp) (vs : List V) (Q : VK) (E : XK), Room k (A.deeper (envOfC x (defScope st) s.heap.objs.size f cdv)) → sp vs H Q E →
      ∃ t, PSs (cxOf CX0 P w K mg base N x (defScope st) f cdv A outer s H E).nox (defBody st) t ∧ t { nx := fun _ H' => Q .non H', rt := Q } (start N vs) H) : Ok P w K mg base x ps (k + 1) sp := by
  obtain ⟨f, fd, F, g, b⟩ := D
  exact ⟨f, fd, g, F.kp, b, F.ok S len fun cdv A outer s H vs Q E hr h => hbody f cdv A outer s H vs Q E hr h⟩
theorem OkC.mono {P : Program} {w : World} {K : PySem.W.Frag} {mg : Str → Option Value} {base : Heap} {CX : CXT} {x : Str} {ps : List Str} {k j : Nat} {sp : Sp} (C : OkC P w K mg base CX x ps k sp) (h : k ≤ j) : OkC P w K mg base CX x ps j sp := by
  obtain ⟨f, fd, g, kp, b, F⟩ := C.ex
  exact ⟨f, fd, g, kp, b, F.mono h⟩
/-- the built-ins stand -/
structure Bi (mg : Str → Option Value) : Prop where
  len : mg "len" = none
  range : mg "range" = none
  zip : mg "zip" = none
  reversed : mg "reversed" = none
  divmod : mg "divmod" = none
  enumerate : mg "enumerate" = none
  any : mg "any" = none
  all : mg "all" = none
  sum : mg "sum" = none
  abs : mg "abs" = none
  min : mg "min" = none
  list : mg "list" = none
  int : mg "int" = none
  bool : mg "bool" = none
  str : mg "str" = none
  tuple : mg "tuple" = none
  isinstance : mg "isinstance" = none
  sorted : mg "sorted" = none
/-! ### what stays: objects as they stand, a code object's table as a table (it may grow) -/
/-- of an object o that stood: what stands there now -/
def St : HO → Option HO → Prop
  | .tbl ps, v => ∃ ps' : Array Value, v = some (.tbl ps') ∧ (TriplesOk ps.toList → TriplesOk ps'.toList)
  | o, v => v = some o
theorem St.self {o : HO} {v : Option HO} (e : v = some o) : St o v := by
  cases o <;> first | exact e | exact ⟨_, e, fun h => h⟩
theorem St.some {o : HO} {v : Option HO} (h : St o v) : ∃ u, v = some u := by
  cases o <;> first | exact ⟨_, h⟩ | exact ⟨_, h.choose_spec.1⟩
def Same (H H' : Hp) : Prop := ∀ b o, H b = some o → St o (H' b)
theorem Same.refl (H : Hp) : Same H H := fun _ _ h => .self h
theorem Same.of {H H' : Hp} (h : L2.Same H H') : Same H H' := fun b o e => .self (h b o e)
theorem Same.trans {H H1 H2 : Hp} (a : Same H H1) (b : Same H1 H2) : Same H H2 := fun c o e => by
  have h := a c o e
  cases o with
  | tbl ps =>
    obtain ⟨p1, e1, t1⟩ := h
    obtain ⟨p2, e2, t2⟩ := b c _ e1
    exact ⟨p2, e2, fun t => t2 (t1 t)⟩
  | _ => exact b c _ h
theorem Same.free {H H' : Hp} (s : Same H H') {l : Addr} (h : H' l = none) : H l = none := by
  cases e : H l with
  | none => rfl
  | some o =>
    obtain ⟨u, hu⟩ := (s l o e).some
    rw [h] at hu
    cases hu
theorem Same.ne {H H' : Hp} (s : Same H H') {b p : Addr} {o : HO} (e : H b = some o) (n : H' p = none) : b ≠ p := ne_of_none e (s.free n)
theorem Same.seq {K : PySem.W.Frag} {H H' : Hp} {a : Addr} {xs : List V} (s : Same H H') (h : SqL K H a xs) : SqL K H' a xs := by
  rcases h with (h | ⟨o, h⟩) | h
  · exact .inl (.inl (s _ _ h))
  · exact .inl (.inr ⟨o, s _ _ h⟩)
  · exact .inr h
theorem same_upd {H : Hp} {p : Addr} {o : HO} (h : H p = none) : Same H (upd H p o) := fun b x e => by
  rw [upd_ne (ne_of_none e h)]
  exact .self e
/-- what came after may change -/
theorem Same.put {H H' : Hp} {p : Addr} {o : HO} (s : Same H H') (h : H p = none) : Same H (upd H' p o) := fun b x e => by
  rw [upd_ne (ne_of_none e h)]
  exact s _ _ e
theorem map_int_at {ns : List Int} {i : Nat} {y : V} (h : (ns.map V.int)[i]? = some y) : ∃ z, ns[i]? = some z ∧ y = V.int z := by
  rw [List.getElem?_map] at h
  cases e : ns[i]? with
  | none => rw [e] at h; cases h
  | some z => rw [e] at h; exact ⟨z, rfl, (Option.some.inj h).symm⟩
theorem at_map_int {ns : List Int} {i : Nat} {z : Int} (h : ns[i]? = some z) : (ns.map V.int)[i]? = some (V.int z) := by
  rw [List.getElem?_map, h]
  rfl
theorem take_more {α : Type} : ∀ {l : List α} {i : Nat} {x : α}, l[i]? = some x → l.take (i + 1) = l.take i ++ [x]
  | [], i, x, h => by simp at h
  | a :: l, 0, x, h => by
    have e : a = x := Option.some.inj h
    subst e
    rfl
  | a :: l, i + 1, x, h => by
    have ih := take_more (l := l) (i := i) (x := x) h
    show a :: l.take (i + 1) = a :: l.take i ++ [x]
    rw [ih]
    rfl
theorem lt_line {n : Nat} (h : n ≤ 100000) : n < sizeLine := Nat.lt_of_le_of_lt h (by decide)
theorem le_line {n : Nat} (h : n ≤ 100000) : n ≤ sizeLine := Nat.le_of_lt (lt_line h)
/-! the layer's rules with the written part told by name (so that they serve within comprehensions) -/
section
variable {X : Cx}
theorem ixL (K : PySem.W.Frag) (h : X.K = K := by rfl) : IxR X (rIxL K) := by subst h; exact ix_list
theorem ixT (K : PySem.W.Frag) (h : X.K = K := by rfl) : IxR X (rIxT K) := by subst h; exact ix_tup
theorem isiK (K : PySem.W.Frag) (h : X.K = K := by rfl) : CallR X (.builtin "isinstance") (rIsi K) := by subst h; exact call_isi
theorem lenK (K : PySem.W.Frag) (h : X.K = K := by rfl) : CallR X (.builtin "len") (fun xs H Q => ∃ p ys, xs = [.ref p] ∧ (SqL K H p ys ∨ SqT K H p ys) ∧ Q (.int ys.length) H) := by subst h; exact call_len_seq
theorem listK (K : PySem.W.Frag) (h : X.K = K := by rfl) : CallR X (.type "list") (fun xs H Q => ∃ p ys, xs = [.ref p] ∧ (SqL K H p ys ∨ SqT K H p ys) ∧ ∀ l, H l = none → Q (.ref l) (upd H l (.lst ys))) := by subst h; exact call_list_of
theorem anyK (K : PySem.W.Frag) (hc : X.calm = true) (h : X.K = K := by rfl) : CallR X (.builtin "any") (rAny K) := by subst h; exact cr_any hc
theorem allK (K : PySem.W.Frag) (hc : X.calm = true) (h : X.K = K := by rfl) : CallR X (.builtin "all") (rAll K) := by subst h; exact cr_all hc
theorem sumK (K : PySem.W.Frag) (hc : X.calm = true) (h : X.K = K := by rfl) : CallR X (.builtin "sum") (rSum K) := by subst h; exact cr_sum hc
theorem slL (K : PySem.W.Frag) (h : X.K = K := by rfl) : SlR X (rSlL K) := by subst h; exact sl_list
theorem inK (K : PySem.W.Frag) (h : X.K = K := by rfl) : OpR X (compareOp .In) (rIn K false) := by subst h; exact op_in_seq
theorem notInK (K : PySem.W.Frag) (h : X.K = K := by rfl) : OpR X (compareOp .NotIn) (rIn K true) := by subst h; exact op_notIn_seq
theorem eqDK (K : PySem.W.Frag) (hu : X.A.units + 64 < cLine) (h : X.K = K := by rfl) : OpR X (compareOp .Eq) (rEqD K) := by subst h; exact op_eqD hu
theorem neDK (K : PySem.W.Frag) (hu : X.A.units + 64 < cLine) (h : X.K = K := by rfl) : OpR X (compareOp .NotEq) (rNeD K) := by subst h; exact op_neD hu
end
/-- isinstance(x, T), T a built-in type -/
theorem isi_ty {K : PySem.W.Frag} {H : Hp} {x : V} {t T : String} {b : Bool} {Q : VK} (ty : TyX K H x (.type t)) (h : kitB t T = some b) (q : Q (.bl b) H) : rIsi K [x, .ty T] H Q :=
  ⟨x, .ty T, .type t, .type T, b, rfl, .ty T, ty, kit_ty h, q⟩
end Ww
namespace Ww
open PySem PySem.Spec PyProof.Rows L2
def topS (i : Nat) : Stmt := PySem.Challenge.pw_wheelways_k01_whole_forth.main.body.getD i (.Pass ⟨0, 0, 0, 0⟩)
abbrev s_is_whole : Stmt := topS 6
theorem sc_is_whole : FnScope ["thing"] ["thing"] (defScope s_is_whole) := ⟨rfl, rfl, rfl, by decide +kernel, rfl, by decide +kernel, by decide +kernel⟩
abbrev s_check_wheels : Stmt := topS 7
theorem sc_check_wheels : FnScope ["wheels", "size"] ["wheels"] (defScope s_check_wheels) := ⟨rfl, rfl, rfl, by decide +kernel, rfl, by decide +kernel, by decide +kernel⟩
abbrev s_is_setting : Stmt := topS 8
theorem sc_is_setting : FnScope ["wheels", "setting", "size", "place"] ["wheels", "setting"] (defScope s_is_setting) := ⟨rfl, rfl, rfl, by decide +kernel, rfl, by decide +kernel, by decide +kernel⟩
abbrev s_check_setting : Stmt := topS 9
theorem sc_check_setting : FnScope ["wheels", "setting"] ["wheels", "setting"] (defScope s_check_setting) := ⟨rfl, rfl, rfl, by decide +kernel, rfl, by decide +kernel, by decide +kernel⟩
abbrev s_check_number : Stmt := topS 10
theorem sc_check_number : FnScope ["number", "many"] ["number", "many"] (defScope s_check_number) := ⟨rfl, rfl, rfl, by decide +kernel, rfl, by decide +kernel, by decide +kernel⟩
abbrev s_settings : Stmt := topS 12
theorem sc_settings : FnScope ["wheels", "many", "size"] ["wheels"] (defScope s_settings) := ⟨rfl, rfl, rfl, by decide +kernel, rfl, by decide +kernel, by decide +kernel⟩
abbrev s_setting_of : Stmt := topS 14
theorem sc_setting_of : FnScope ["wheels", "number", "many", "backwards", "ahead", "size", "turned"] ["wheels", "number"] (defScope s_setting_of) := ⟨rfl, rfl, rfl, by decide +kernel, rfl, by decide +kernel, by decide +kernel⟩
abbrev s_number_of : Stmt := topS 15
theorem sc_number_of : FnScope ["wheels", "setting", "number", "size", "place"] ["wheels", "setting"] (defScope s_number_of) := ⟨rfl, rfl, rfl, by decide +kernel, rfl, by decide +kernel, by decide +kernel⟩
abbrev s_mirrored : Stmt := topS 16
theorem sc_mirrored : FnScope ["size", "place", "ahead"] ["size", "place", "ahead"] (defScope s_mirrored) := ⟨rfl, rfl, rfl, by decide +kernel, rfl, by decide +kernel, by decide +kernel⟩
abbrev s_law_cell_at : Stmt := topS 18
theorem sc_law_cell_at : FnScope ["_law_script", "_law_k"] ["_law_script", "_law_k"] (defScope s_law_cell_at) := ⟨rfl, rfl, rfl, by decide +kernel, rfl, by decide +kernel, by decide +kernel⟩
abbrev s_law_draw : Stmt := topS 19
theorem sc_law_draw : FnScope ["_law_cell", "_law_k", "_law_many", "_law_primes"] ["_law_cell", "_law_k", "_law_many"] (defScope s_law_draw) := ⟨rfl, rfl, rfl, by decide +kernel, rfl, by decide +kernel, by decide +kernel⟩
abbrev s_law_wheels : Stmt := topS 20
theorem sc_law_wheels : FnScope ["_law_script", "_law_kind", "_law_found", "_law_k", "_law_size"] ["_law_script"] (defScope s_law_wheels) := ⟨rfl, rfl, rfl, by decide +kernel, rfl, by decide +kernel, by decide +kernel⟩
abbrev s_law_far : Stmt := topS 21
theorem sc_law_far : FnScope ["_law_script", "_law_by", "_law_most", "_law_found", "_law_k"] ["_law_script", "_law_by", "_law_most"] (defScope s_law_far) := ⟨rfl, rfl, rfl, by decide +kernel, rfl, by decide +kernel, by decide +kernel⟩
abbrev s_law_setting : Stmt := topS 22
theorem sc_law_setting : FnScope ["_law_script", "_law_wheels_here", "_law_by", "_law_kind", "_law_found", "_law_k", "_law_size", "_law_number"] ["_law_script", "_law_wheels_here", "_law_by"] (defScope s_law_setting) := ⟨rfl, rfl, rfl, by decide +kernel, rfl, by decide +kernel, by decide +kernel⟩
abbrev s_law_count : Stmt := topS 23
theorem sc_law_count : FnScope ["_law_wheels_here", "_law_found", "_law_size"] ["_law_wheels_here"] (defScope s_law_count) := ⟨rfl, rfl, rfl, by decide +kernel, rfl, by decide +kernel, by decide +kernel⟩
abbrev s_law_is_setting : Stmt := topS 24
theorem sc_law_is_setting : FnScope ["_law_wheels_here", "_law_found", "_law_one", "_law_k"] ["_law_wheels_here", "_law_found"] (defScope s_law_is_setting) := ⟨rfl, rfl, rfl, by decide +kernel, rfl, by decide +kernel, by decide +kernel⟩
abbrev s_law_step : Stmt := topS 25
theorem sc_law_step : FnScope ["_law_one", "_law_other", "_law_k"] ["_law_one", "_law_other"] (defScope s_law_step) := ⟨rfl, rfl, rfl, by decide +kernel, rfl, by decide +kernel, by decide +kernel⟩
abbrev s_law_whole : Stmt := topS 26
theorem sc_law_whole : FnScope ["_law_number"] ["_law_number"] (defScope s_law_whole) := ⟨rfl, rfl, rfl, by decide +kernel, rfl, by decide +kernel, by decide +kernel⟩
abbrev s_law : Stmt := topS 27
theorem sc_law : FnScope ["_law_script", "_law_wheels_here", "_law_whole_here", "_law_handed", "_law_told", "_law_numbers", "_law_by", "_law_number", "_law_found", "_law_kept", "_law_setting_here", "_law_asked"] ["_law_script"] (defScope s_law) := ⟨rfl, rfl, rfl, by decide +kernel, rfl, by decide +kernel, by decide +kernel⟩
end Ww
/-! loops over enumerate and reversed, what a list's type is, products of many sizes -/
namespace Ww
open PySem PySem.Spec PyProof.Rows L2
theorem for_enumL {K : PySem.W.Frag} {a : Addr} {xs : List V} {g : TG} {tb : TS} {D : Ends} {σ : L2.St} {H : Hp} (Pv : Nat → L2.St → Hp → Prop) (h0 : Pv 0 σ H) (hq : ∀ i σ H, Pv i σ H → SqL K H a xs)
    (hs : ∀ (i : Nat) (x : V) (T : Addr) (σ : L2.St) (H : Hp), xs[i]? = some x → Pv i σ H → H T = none → g (.ref T) σ (upd H T (.tup [.int (i : Nat), x])) fun σ2 H2 => tb { D with nx := Pv (i + 1), ct := Pv (i + 1), bk := D.nx } σ2 H2) (hd : ∀ σ H, Pv xs.length σ H → D.nx σ H) :
    ∃ W : Nat → Nat → L2.St → Hp → Prop, (∃ m, W 0 m σ H) ∧ ∀ i m σ H, W i m σ H →
      ((Ite K a).stop i H ∧ D.nx σ H) ∨ ((Ite K a).go i H ∧ ∃ N : L2.St → Hp → Prop, (∀ σ' H', N σ' H' → ∃ m', m' < m ∧ W (i + 1) m' σ' H') ∧ ∀ v H', (Ite K a).yld i H v H' → g v σ H' fun σ2 H2 => tb { D with nx := N, ct := N, bk := D.nx } σ2 H2) := by
  refine ⟨fun i m σ H => i + m = xs.length ∧ Pv i σ H, ⟨xs.length, by omega, h0⟩, fun i m σ H h => ?_⟩
  obtain ⟨e, p⟩ := h
  have hx := hq i σ H p
  by_cases c : i < xs.length
  · have g1 : xs[i]? = some xs[i] := List.getElem?_eq_getElem c
    refine .inr ⟨⟨xs, xs[i], hx, g1⟩, Pv (i + 1), fun σ' H' n => ⟨m - 1, by omega, by omega, n⟩, fun v H' y => ?_⟩
    obtain ⟨T, z, rfl, nT, rfl, fz⟩ := y
    have ez : z = xs[i] := Option.some.inj ((fz _ hx).symm.trans g1)
    subst ez
    exact hs i _ T σ H g1 p nT
  · have ei : i = xs.length := by omega
    subst ei
    exact .inl ⟨⟨xs, hx, Nat.le_refl _⟩, hd σ H p⟩
theorem for_revL {K : PySem.W.Frag} {a : Addr} {xs : List V} {g : TG} {tb : TS} {D : Ends} {σ : L2.St} {H : Hp} (Pv : Nat → L2.St → Hp → Prop) (h0 : Pv 0 σ H) (hq : ∀ i σ H, Pv i σ H → SqL K H a xs)
    (hs : ∀ (i : Nat) (x : V) (σ : L2.St) (H : Hp), xs.reverse[i]? = some x → Pv i σ H → g x σ H fun σ2 H2 => tb { D with nx := Pv (i + 1), ct := Pv (i + 1), bk := D.nx } σ2 H2) (hd : ∀ σ H, Pv xs.length σ H → D.nx σ H) :
    ∃ W : Nat → Nat → L2.St → Hp → Prop, (∃ m, W 0 m σ H) ∧ ∀ i m σ H, W i m σ H →
      ((Itv K a xs.length).stop i H ∧ D.nx σ H) ∨ ((Itv K a xs.length).go i H ∧ ∃ N : L2.St → Hp → Prop, (∀ σ' H', N σ' H' → ∃ m', m' < m ∧ W (i + 1) m' σ' H') ∧ ∀ v H', (Itv K a xs.length).yld i H v H' → g v σ H' fun σ2 H2 => tb { D with nx := N, ct := N, bk := D.nx } σ2 H2) := by
  refine ⟨fun i m σ H => i + m = xs.length ∧ Pv i σ H, ⟨xs.length, by omega, h0⟩, fun i m σ H h => ?_⟩
  obtain ⟨e, p⟩ := h
  have hx := hq i σ H p
  by_cases c : i < xs.length
  · have g1 : xs[xs.length - 1 - i]? = some xs[xs.length - 1 - i] := List.getElem?_eq_getElem (by omega)
    have g2 : xs.reverse[i]? = some xs[xs.length - 1 - i] := by rw [List.getElem?_reverse c, g1]
    refine .inr ⟨⟨c, xs, _, hx, g1⟩, Pv (i + 1), fun σ' H' n => ⟨m - 1, by omega, by omega, n⟩, fun v H' y => ?_⟩
    obtain ⟨rfl, fz⟩ := y
    have ez : v = xs[xs.length - 1 - i] := Option.some.inj ((fz _ hx).symm.trans g1)
    subst ez
    exact hs i _ σ _ g2 p
  · have ei : i = xs.length := by omega
    subst ei
    exact .inl ⟨Nat.le_refl _, hd σ H p⟩
theorem tyx_list {K : PySem.W.Frag} {H : Hp} {a : Addr} {xs : List V} (h : SqL K H a xs) : TyX K H (.ref a) (.type "list") := by
  rcases h with (h | ⟨o, h⟩) | ⟨o, its, n, e, c, _⟩
  · exact .base (.lst h)
  · exact .base (.frz h)
  · exact .kList e c
theorem dec_int1 (x y : Int) : decide (V.int x = V.int y) = decide (x = y) := by
  by_cases c : x = y
  · subst c
    rw [decide_eq_true rfl, decide_eq_true rfl]
  · rw [decide_eq_false c, decide_eq_false fun q => c (V.int.inj q)]
/-! ### lists of ints compared -/
theorem dpAll_ints {K : PySem.W.Frag} {H : Hp} : ∀ ns : List Int, DpAll K H (ns.map V.int) (ns.map PyData.int)
  | [] => .nil
  | n :: r => .cons (.int n) (dpAll_ints r)
theorem dp_ints {K : PySem.W.Frag} {H : Hp} {a : Addr} {ns : List Int} (h : SqL K H a (ns.map V.int)) : Dp K H (.ref a) (.list (ns.map PyData.int)) := .lst h (dpAll_ints ns)
theorem eqvAll_ints : ∀ xs ys : List Int, PyData.eqvAll (xs.map PyData.int) (ys.map PyData.int) = decide (xs = ys)
  | [], [] => by simp [PyData.eqvAll]
  | [], _ :: _ => by simp [PyData.eqvAll]
  | _ :: _, [] => by simp [PyData.eqvAll]
  | x :: xs, y :: ys => by
    simp only [List.map_cons, PyData.eqvAll, PyData.eqv, eqvAll_ints xs ys]
    by_cases h : x = y <;> by_cases h2 : xs = ys <;> simp [h, h2]
theorem eqv_ints (xs ys : List Int) : PyData.eqv (.list (xs.map PyData.int)) (.list (ys.map PyData.int)) = decide (xs = ys) := by
  simp only [PyData.eqv]
  exact eqvAll_ints xs ys
def rEqI (K : PySem.W.Frag) : R2 := fun x y H Q => ∃ (a b : Addr) (xs ys : List Int), x = .ref a ∧ y = .ref b ∧ SqL K H a (xs.map V.int) ∧ SqL K H b (ys.map V.int) ∧ Q (.bl (decide (xs = ys))) H
def rNeI (K : PySem.W.Frag) : R2 := fun x y H Q => ∃ (a b : Addr) (xs ys : List Int), x = .ref a ∧ y = .ref b ∧ SqL K H a (xs.map V.int) ∧ SqL K H b (ys.map V.int) ∧ Q (.bl (!decide (xs = ys))) H
theorem eqIK {X : Cx} (K : PySem.W.Frag) (hu : X.A.units + 64 < cLine) (h : X.K = K := by rfl) : OpR X (compareOp .Eq) (rEqI K) := fun pins s σ H x y v u Q I rx ry q => by
  obtain ⟨a, b, xs, ys, rfl, rfl, h1, h2, q⟩ := q
  refine eqDK K hu h pins s σ H _ _ v u Q I rx ry ⟨_, _, dp_ints h1, dp_ints h2, PySem.W.shaped_ints xs, PySem.W.shaped_ints ys, ?_⟩
  rw [eqv_ints]
  exact q
theorem neIK {X : Cx} (K : PySem.W.Frag) (hu : X.A.units + 64 < cLine) (h : X.K = K := by rfl) : OpR X (compareOp .NotEq) (rNeI K) := fun pins s σ H x y v u Q I rx ry q => by
  obtain ⟨a, b, xs, ys, rfl, rfl, h1, h2, q⟩ := q
  refine neDK K hu h pins s σ H _ _ v u Q I rx ry ⟨_, _, dp_ints h1, dp_ints h2, PySem.W.shaped_ints xs, PySem.W.shaped_ints ys, ?_⟩
  rw [eqv_ints]
  exact q
theorem rep_flat (n : Nat) (z : Int) : (List.replicate n [V.int z]).flatten = (List.replicate n z).map V.int := by
  induction n with
  | zero => rfl
  | succ n ih => rw [List.replicate_succ, List.flatten_cons, ih, List.replicate_succ]; rfl
theorem rgV_ints (a b : Int) : ∃ ms : List Int, rgV a b = ms.map V.int ∧ ms.length = (b - a).toNat := by
  refine ⟨(List.range (b - a).toNat).map fun i => a + (i : Nat), ?_, by rw [List.length_map, List.length_range]⟩
  unfold rgV
  rw [List.map_map]
  rfl
/-! ### sizes -/
def big : Int := 10 ^ 59
theorem big_eq : (10 : Int) ^ (59 : Int).toNat = big := rfl
theorem big_ge : 1000 ≤ big := by decide +kernel
theorem big_bits : big.natAbs < 2 ^ 200 := by decide +kernel
def sizes (ws : List Int) : Prop := ∀ s ∈ ws, 1 ≤ s ∧ s ≤ big
theorem sizes_snoc {ws : List Int} {s : Int} (h : sizes ws) (h1 : 1 ≤ s) (h2 : s ≤ big) : sizes (ws ++ [s]) := fun x hx => by
  rcases List.mem_append.mp hx with e | e
  · exact h x e
  · rw [List.mem_singleton.mp e]
    exact ⟨h1, h2⟩
theorem sizes.ones {ws : List Int} (h : sizes ws) : ones ws := fun s hs => (h s hs).1
theorem sizes.reverse {ws : List Int} (h : sizes ws) : sizes ws.reverse := fun s hs => h s (List.mem_reverse.mp hs)
theorem sizes.take {ws : List Int} (h : sizes ws) (i : Nat) : sizes (ws.take i) := fun s hs => h s (List.mem_of_mem_take hs)
theorem sizes.at {ws : List Int} (h : sizes ws) {i : Nat} {s : Int} (e : ws[i]? = some s) : 1 ≤ s ∧ s ≤ big := h s (List.mem_of_getElem? e)
theorem size_bits {s : Int} (h : 1 ≤ s) (h2 : s ≤ big) : s.natAbs < 2 ^ 200 := wide_le (by omega) h2 big_bits
theorem prd_bits : ∀ {l : List Int}, sizes l → (prd l).natAbs < 2 ^ (200 * l.length + 1)
  | [], _ => by decide
  | s :: r, h => by
    have h1 := prd_bits (l := r) fun x hx => h x (List.mem_cons_of_mem _ hx)
    have h2 := h s List.mem_cons_self
    have h3 := wide_lt h1 (size_bits h2.1 h2.2)
    have e : 200 * (s :: r).length + 1 = 200 * r.length + 1 + 200 := by rw [List.length_cons]; omega
    rw [e]
    exact h3
theorem prd_snoc {ws : List Int} {i : Nat} {s : Int} (e : ws[i]? = some s) : prd (ws.take (i + 1)).reverse = prd (ws.take i).reverse * s := by
  rw [take_more e, List.reverse_append]
  rfl
theorem cut_all (xs : List V) {k : Nat} (h : xs.length ≤ k) : cutV xs none (some (k : Int)) = xs := by
  unfold cutV
  rw [HT.sIx_none, HT.sIx_nat, List.drop_zero, Nat.min_eq_right h, Nat.sub_zero, List.take_length]
end Ww
namespace Ww
open PySem PySem.Spec PyProof.Rows L2
section
variable {P : Program} {w : World} {K : PySem.W.Frag} {mg : Str → Option Value} {base : Heap}
/-! ### _law_cell_at: some number -/
def sp_cell_at (K : PySem.W.Frag) : Sp := fun vs H Q _ => ∃ (a : Addr) (ns : List Int) (k : Nat), vs = [.ref a, .int k] ∧ SqL K H a (ns.map V.int) ∧ ∀ z : Int, Q (.int z) H
theorem ok_cell_at (D : Df K mg "_law_cell_at" s_law_cell_at ["_law_script", "_law_k"]) (B : Bi mg) : Ok P w K mg base "_law_cell_at" ["_law_script", "_law_k"] 1 (sp_cell_at K) := by
  refine D.ok sc_law_cell_at (fun vs H Q E h => ?_) (fun f cdv A outer s H vs Q E hr h => ?_)
  · obtain ⟨a, ns, k, rfl, _⟩ := h
    rfl
  · obtain ⟨a, ns, k, rfl, hS, q⟩ := h
    refine ⟨_, (pss_cons (ps_if (pt_cmpR op_lt (pv 1) (pe_callB (lenK K) (by rfl) B.len PySem.boot_len (pa_cons (pv 0) pa_nil)) (nomark _))
        (pss_one (ps_ret (pe_ix (ixL K) (pv 0) (pv 1) (fun _ _ => rfl))))
        pss_nil)
      (pss_one (ps_ret pe_int))), ?_⟩
    walk_at "w"
    refine ⟨a, _, rfl, .inl hS, ?_⟩
    walk_at "w"
    refine ite2 (fun c => ?_) (fun _ => q _)
    have c2 : k < ns.length := by
      have := of_decide_eq_true c
      rw [List.length_map] at this
      omega
    walk_at "w"
    exact ⟨a, _, _, _, rfl, rfl, hS, atI_nat (at_map_int (List.getElem?_eq_getElem c2)), q _⟩
/-! ### _law_draw: some number from 0 to one below the most -/
def primes : List Int := [1000003, 1000033, 1000037, 1000039, 1000081, 1000099, 1000117, 1000121, 1000133, 1000151, 1000159, 1000171, 1000183, 1000187, 1000193, 1000199]
theorem primes_pos : ∀ z ∈ primes, 0 < z := by decide
def sp_draw : Sp := fun vs H Q _ => ∃ c k m : Int, vs = [.int c, .int k, .int m] ∧ 0 < m ∧ ∀ (z : Int) (H' : Hp), 0 ≤ z → z < m → Same H H' → Q (.int z) H'
theorem ok_draw (D : Df K mg "_law_draw" s_law_draw ["_law_cell", "_law_k", "_law_many"]) (B : Bi mg) : Ok P w K mg base "_law_draw" ["_law_cell", "_law_k", "_law_many"] 1 sp_draw := by
  refine D.ok sc_law_draw (fun vs H Q E h => ?_) (fun f cdv A outer s H vs Q E hr h => ?_)
  · obtain ⟨c, k, m, rfl, _⟩ := h
    rfl
  · obtain ⟨c, k, m, rfl, hm, q⟩ := h
    refine ⟨_, (pss_cons (ps_set (i := 3) sc_law_draw.nd rfl (.inl rfl) (pe_tup (pa_cons pe_int (pa_cons pe_int (pa_cons pe_int (pa_cons pe_int (pa_cons pe_int (pa_cons pe_int (pa_cons pe_int (pa_cons pe_int (pa_cons pe_int (pa_cons pe_int (pa_cons pe_int (pa_cons pe_int (pa_cons pe_int (pa_cons pe_int (pa_cons pe_int (pa_cons pe_int pa_nil))))))))))))))))))
      (pss_one (ps_ret (pe_op op_mod (pe_op op_mod (pe_op op_add (pe_op op_mul (pv 0) pe_int) (pe_op op_mul (pv 1) pe_int)) (pe_ix (ixT K) (pv 3) (pe_op op_mod (pv 1) pe_int) (fun _ _ => rfl))) (pv 2))))), ?_⟩
    refine ⟨by show 16 ≤ sizeLine; decide, fun p np => ?_⟩
    refine ⟨_, rfl, _, _, rfl, rfl, .inr ⟨by decide, by decide⟩, _, rfl, _, _, rfl, rfl, .inr ⟨by decide, by decide⟩, _, _, rfl, rfl, _, rfl, _, rfl, _, _, rfl, rfl, by show (0 : Int) < 16; decide, ?_⟩
    have h0 : 0 ≤ k % 16 := Int.emod_nonneg _ (by decide)
    have h1 : k % 16 < 16 := Int.emod_lt_of_pos _ (by decide)
    obtain ⟨j, ej⟩ : ∃ j : Nat, k % 16 = (j : Int) := ⟨(k % 16).toNat, by omega⟩
    have hj : j < primes.length := by show j < 16; omega
    have hp : 0 < primes[j] := primes_pos _ (List.getElem_mem hj)
    have hi : (primes.map V.int)[j]? = some (V.int primes[j]) := at_map_int (List.getElem?_eq_getElem hj)
    refine ⟨p, primes.map V.int, _, _, rfl, rfl, SqT.of upd_same, at_of ej hi, _, _, rfl, rfl, hp, _, rfl, _, _, rfl, rfl, hm, ?_⟩
    exact q _ _ (Int.emod_nonneg _ (by omega)) (Int.emod_lt_of_pos _ hm) (same_upd np)
/-! ### _law_wheels: some sizes, one for each number -/
def kinds : List Int := [4, 2, 9, 40, 3, 1]
theorem kinds_in : ∀ z ∈ kinds, 0 < z ∧ z ≤ 40 := by decide
def sp_wheels (K : PySem.W.Frag) : Sp := fun vs H Q _ => ∃ (a : Addr) (ns : List Int), vs = [.ref a] ∧ SqL K H a (ns.map V.int) ∧ ns.length ≤ 63 ∧
  ∀ (ws : List Int) (p : Addr) (H' : Hp), sizes ws → ws.length = ns.length → Same H H' → H p = none → H' p = some (.lst (ws.map V.int)) → Q (.ref p) H'
theorem ok_wheels (D : Df K mg "_law_wheels" s_law_wheels ["_law_script"]) (B : Bi mg) (G_law_cell_at : Ok P w K mg base "_law_cell_at" ["_law_script", "_law_k"] 1 (sp_cell_at K))
    (G_law_draw : Ok P w K mg base "_law_draw" ["_law_cell", "_law_k", "_law_many"] 1 sp_draw) : Ok P w K mg base "_law_wheels" ["_law_script"] 2 (sp_wheels K) := by
  refine D.ok sc_law_wheels (fun vs H Q E h => ?_) (fun f cdv A outer s H vs Q E hr h => ?_)
  · obtain ⟨a, ns, rfl, _⟩ := h
    rfl
  · obtain ⟨a, ns, rfl, hS, hlen, q⟩ := h
    refine ⟨_, (pss_cons (ps_set (i := 0) sc_law_wheels.nd rfl (.inl rfl) (pe_slice (slL K) (pv 0) po_none (po_some pe_int)))
      (pss_cons (ps_set (i := 1) sc_law_wheels.nd rfl (.inl rfl) (pe_ok G_law_draw hr (by decide) (pa_cons (pe_ok G_law_cell_at hr (by decide) (pa_cons (pv 0) (pa_cons pe_int pa_nil))) (pa_cons pe_int (pa_cons pe_int pa_nil)))))
      (pss_cons (ps_set (i := 2) sc_law_wheels.nd rfl (.inl rfl) (pe_lst pa_nil))
      (pss_cons (ps_for PassesOwn.never rfl (pi_range1 (by rfl) B.range (pa_cons (pe_callB (lenK K) (by rfl) B.len PySem.boot_len (pa_cons (pv 0) pa_nil)) pa_nil)) (pg_name (i := 3) sc_law_wheels.nd rfl (.inl rfl))
        (pss_cons (ps_set (i := 4) sc_law_wheels.nd rfl (.inl rfl) (pe_op op_add pe_int (pe_ok G_law_draw hr (by decide) (pa_cons (pe_ix (ixL K) (pv 0) (pv 3) (fun _ _ => rfl)) (pa_cons (pe_op op_add (pe_op op_mod (pv 3) pe_int) pe_int) (pa_cons (pe_ix (ixT K) (pe_tup (pa_cons pe_int (pa_cons pe_int (pa_cons pe_int (pa_cons pe_int (pa_cons pe_int (pa_cons pe_int pa_nil))))))) (pv 1) (fun _ _ => rfl)) pa_nil))))))
        (pss_cons (ps_if (pt_cmpR op_eq (pv 1) pe_int (nomark _))
          (pss_one (ps_set (i := 4) sc_law_wheels.nd rfl (.inl rfl) (pe_op op_add (pe_op op_mul (pe_op op_fdiv (pv 4) pe_int) pe_int) pe_int)))
          pss_nil)
        (pss_cons (ps_if (PW.pt (pw_and (pt_cmpR op_eq (pv 1) pe_int (nomark _)) (pw_and1 (pt_cmpR op_gt (pv 3) pe_int (nomark _)))))
          (pss_one (ps_set (i := 4) sc_law_wheels.nd rfl (.inl rfl) pe_int))
          pss_nil)
        (pss_cons (ps_if (pt_cmpR op_eq (pv 1) pe_int (nomark _))
          (pss_one (ps_set (i := 4) sc_law_wheels.nd rfl (.inl rfl) (pe_op op_add pe_int (pe_op op_mod (pe_op op_fdiv (pe_ix (ixL K) (pv 0) (pv 3) (fun _ _ => rfl)) pe_int) (pe_op op_pow pe_int pe_int)))))
          pss_nil)
        (pss_one (ps_expr (pe_bm PySem.F.plainAttrs_list PySem.F.slot_list_append PySem.F.type_list_append mt_append (pv 2) (pa_cons (pv 4) pa_nil)))))))))
      (pss_one (ps_ret (pv 2))))))), ?_⟩
    -- _law_script = _law_script[:63]
    refine ⟨_, rfl, _, rfl, a, _, rfl, hS, fun c nc => ?_⟩
    have e63 : cutV (ns.map V.int) none (some 63) = ns.map V.int := cut_all _ (k := 63) (by rw [List.length_map]; exact hlen)
    rw [e63]
    have sc : Same H (upd H c (.lst (ns.map V.int))) := same_upd nc
    -- kind
    refine ⟨_, rfl, c, ns, 0, rfl, SqL.of upd_same, fun cl => ?_⟩
    refine ⟨_, _, _, rfl, (by decide), fun kd H1 k0 k1 s1 => ?_⟩
    have hC : SqL K H1 c (ns.map V.int) := s1.seq (SqL.of upd_same)
    -- found = []
    refine ⟨Nat.zero_le _, fun o no => ?_⟩
    have sH : Same H H1 := sc.trans s1
    -- the loop
    refine ⟨_, rfl, c, _, rfl, .inl ((same_upd no).seq hC), _, rfl, (by omega), (by rw [List.length_map]; omega), ?_⟩
    refine for_range (lo := 0) (fun i σ H3 => ∃ (ws : List Int) (y3 y4 : Option V), σ = [some (.ref c), some (.int kd), some (.ref o), y3, y4] ∧ ws.length = i ∧ sizes ws ∧ Same H1 H3 ∧ H3 o = some (.lst (ws.map V.int)))
      ⟨[], none, none, rfl, rfl, (fun _ h => by cases h), same_upd no, upd_same⟩ ?_ ?_
    · rintro i σ H3 hi ⟨ws, y3, y4, rfl, ew, hw, s3, eo⟩
      rw [List.length_map, Int.toNat_natCast] at hi
      have hC3 : SqL K H3 c (ns.map V.int) := s3.seq hC
      have g : (ns.map V.int)[i]? = some (.int ns[i]) := at_map_int (List.getElem?_eq_getElem hi)
      -- size = 1 + draw(..)
      refine ⟨_, rfl, _, rfl, c, _, _, _, rfl, rfl, hC3, at_of (j := i) (by omega) g, _, rfl, _, _, rfl, rfl, (by show (0 : Int) < 5; decide), _, _, rfl, rfl, (by show 6 ≤ sizeLine; decide), fun t nt => ?_⟩
      obtain ⟨j, ej⟩ : ∃ j : Nat, kd = (j : Int) := ⟨kd.toNat, by omega⟩
      have hj : j < kinds.length := by show j < 6; omega
      have hp := kinds_in _ (List.getElem_mem hj)
      have hk : (kinds.map V.int)[j]? = some (V.int kinds[j]) := at_map_int (List.getElem?_eq_getElem hj)
      refine ⟨_, rfl, t, kinds.map V.int, _, _, rfl, rfl, SqT.of upd_same, at_of ej hk, _, _, _, rfl, hp.1, fun z H4 z0 z1 s4 => ?_⟩
      have st : Same H3 H4 := (same_upd nt).trans s4
      have eo4 : H4 o = some (.lst (ws.map V.int)) := st _ _ eo
      have hC4 : SqL K H4 c (ns.map V.int) := st.seq hC3
      have bg := big_ge
      refine ⟨_, _, rfl, rfl, ?_⟩
      have fin : ∀ sz : Int, 1 ≤ sz → sz ≤ big → ∃ (ws' : List Int) (y3 y4 : Option V), [some (.ref c), some (.int kd), some (.ref o), some (.int (0 + (i : Int))), some (.int sz)] = [some (.ref c), some (.int kd), some (.ref o), y3, y4] ∧ ws'.length = i + 1 ∧ sizes ws' ∧ Same H1 (upd H4 o (.lst (ws.map V.int ++ [.int sz]))) ∧ (upd H4 o (.lst (ws.map V.int ++ [.int sz]))) o = some (.lst (ws'.map V.int)) := by
        intro sz h1 h2
        refine ⟨ws ++ [sz], _, _, rfl, by rw [List.length_append, ew]; rfl, sizes_snoc hw h1 h2, fun b u e => ?_, by rw [upd_same, List.map_append]; rfl⟩
        rw [upd_ne (ne_of_none e no)]
        exact (s3.trans st) _ _ e
      have hz : ∀ sz : Int, (ws.map V.int).length < sizeLine := fun _ => by rw [List.length_map]; exact lt_line (by omega)
      -- kind == 2
      refine ⟨_, rfl, rfl, _, rfl, ite2 (fun c2 => ?_) (fun _ => ?_)⟩
      all_goals first
        | (refine ⟨_, rfl, _, _, rfl, rfl, ⟨by decide, by decide⟩, _, _, rfl, rfl, .inr ⟨by decide, by decide⟩, _, _, rfl, rfl, ?_⟩
           have b1 : 1 ≤ (1 + z) / 2 * 2 + 1 := by omega
           have b2 : (1 + z) / 2 * 2 + 1 ≤ big := by omega)
        | (have b1 : 1 ≤ 1 + z := by omega
           have b2 : 1 + z ≤ big := by omega)
      -- kind == 4 and k > 2
      all_goals refine ⟨_, rfl, rfl, _, rfl, ite2 (fun c4 => ?_) (fun _ => iteF ?_)⟩
      all_goals try (refine ⟨_, rfl, _, _, rfl, rfl, _, rfl, ite2 (fun _ => ?_) (fun _ => ?_)⟩)
      -- kind == 5
      all_goals refine ⟨_, rfl, rfl, _, rfl, ite2 (fun c5 => ?_) (fun _ => ?_)⟩
      all_goals first
        | exact ⟨_, rfl, .inl ⟨rfl, _, SqL.of eo4⟩, _, rfl, o, _, _, rfl, rfl, eo4, hz 0, fin _ b1 b2⟩
        | exact ⟨_, rfl, .inl ⟨rfl, _, SqL.of eo4⟩, _, rfl, o, _, _, rfl, rfl, eo4, hz 0, fin 1 (by decide) (by omega)⟩
        | (refine ⟨_, rfl, _, rfl, c, _, _, _, rfl, rfl, hC4, at_of (j := i) (by omega) g, _, _, rfl, rfl, ⟨by decide, by decide⟩, _, _, rfl, rfl, ⟨by decide, by decide, by decide⟩, _, _, rfl, rfl, (by show 0 < big; omega), _, _, rfl, rfl, ?_⟩
           have hb0 : 0 < big := by omega
           have m0 := Int.emod_nonneg (ns[i] / 7) (show big ≠ 0 by omega)
           have m1 := Int.emod_lt_of_pos (ns[i] / 7) hb0
           exact ⟨_, rfl, .inl ⟨rfl, _, SqL.of eo4⟩, _, rfl, o, _, _, rfl, rfl, eo4, hz 0, fin (1 + ns[i] / 7 % big) (by omega) (by omega)⟩)
    · rintro σ H3 ⟨ws, y3, y4, rfl, ew, hw, s3, eo⟩
      rw [List.length_map, Int.toNat_natCast] at ew
      exact ⟨_, rfl, q ws o H3 hw ew (sH.trans s3) (sH.free no) eo⟩
end
end Ww
namespace Ww
open PySem PySem.Spec PyProof.Rows L2
section
variable {P : Program} {w : World} {K : PySem.W.Frag} {mg : Str → Option Value} {base : Heap}
/-! ### _law_setting: some setting -/
def sp_setting (K : PySem.W.Frag) : Sp := fun vs H Q _ => ∃ (a b : Addr) (ns ws : List Int) (by_ : Int), vs = [.ref a, .ref b, .int by_] ∧ SqL K H a (ns.map V.int) ∧ SqL K H b (ws.map V.int) ∧ ws.length ≤ ns.length ∧ ws.length ≤ 1000 ∧ ones ws ∧
  ∀ (st : List Int) (p : Addr) (H' : Hp), okS ws st → Same H H' → H p = none → H' p = some (.lst (st.map V.int)) → Q (.ref p) H'
theorem okS_snoc {ws st : List Int} {i : Nat} {s v : Int} (h : okS (ws.take i) st) (e : ws[i]? = some s) (h0 : 0 ≤ v) (h1 : v < s) : okS (ws.take (i + 1)) (st ++ [v]) := by
  rw [take_more e]
  exact okS_append h ⟨h0, h1, trivial⟩
theorem ok_setting (D : Df K mg "_law_setting" s_law_setting ["_law_script", "_law_wheels_here", "_law_by"]) (B : Bi mg) (G_law_cell_at : Ok P w K mg base "_law_cell_at" ["_law_script", "_law_k"] 1 (sp_cell_at K))
    (G_law_draw : Ok P w K mg base "_law_draw" ["_law_cell", "_law_k", "_law_many"] 1 sp_draw) : Ok P w K mg base "_law_setting" ["_law_script", "_law_wheels_here", "_law_by"] 2 (sp_setting K) := by
  refine D.ok sc_law_setting (fun vs H Q E h => ?_) (fun f cdv A outer s H vs Q E hr h => ?_)
  · obtain ⟨a, b, ns, ws, by_, rfl, _⟩ := h
    rfl
  · obtain ⟨a, b, ns, ws, by_, rfl, hS, hW, hle, hlen, ho, q⟩ := h
    refine ⟨_, (pss_cons (ps_set (i := 3) sc_law_setting.nd rfl (.inl rfl) (pe_ok G_law_draw hr (by decide) (pa_cons (pe_ok G_law_cell_at hr (by decide) (pa_cons (pv 0) (pa_cons pe_int pa_nil))) (pa_cons (pv 2) (pa_cons pe_int pa_nil)))))
      (pss_cons (ps_set (i := 4) sc_law_setting.nd rfl (.inl rfl) (pe_lst pa_nil))
      (pss_cons (ps_for PassesOwn.never rfl (pi_enum (by rfl) B.enumerate (pa_cons (pv 1) pa_nil)) (pg_tup rfl (pgs_cons (pg_name (i := 5) sc_law_setting.nd rfl (.inl rfl)) (pgs_cons (pg_name (i := 6) sc_law_setting.nd rfl (.inl rfl)) pgs_nil)))
        (pss_cons (ps_set (i := 7) sc_law_setting.nd rfl (.inl rfl) (pe_op op_mod (pe_op op_add (pe_op op_fdiv (pe_ix (ixL K) (pv 0) (pv 5) (fun _ _ => rfl)) pe_int) (pe_ok G_law_draw hr (by decide) (pa_cons (pe_ix (ixL K) (pv 0) (pv 5) (fun _ _ => rfl)) (pa_cons (pe_op op_add (pe_op op_mod (pv 5) pe_int) (pv 2)) (pa_cons pe_int pa_nil))))) (pv 6)))
        (pss_cons (ps_if (PW.pt (pw_and (pt_cmpR op_eq (pv 3) pe_int (nomark _)) (pw_and1 (pt_cmpR op_gt (pe_op op_mod (pv 7) pe_int) pe_int (nomark _)))))
          (pss_one (ps_set (i := 7) sc_law_setting.nd rfl (.inl rfl) (pe_op op_sub (pv 6) pe_int)))
          pss_nil)
        (pss_cons (ps_if (PW.pt (pw_and (pt_cmpR op_eq (pv 3) pe_int (nomark _)) (pw_and1 (pt_cmpR op_gt (pe_op op_mod (pv 7) pe_int) pe_int (nomark _)))))
          (pss_one (ps_set (i := 7) sc_law_setting.nd rfl (.inl rfl) pe_int))
          pss_nil)
        (pss_one (ps_expr (pe_bm PySem.F.plainAttrs_list PySem.F.slot_list_append PySem.F.type_list_append mt_append (pv 4) (pa_cons (pv 7) pa_nil))))))))
      (pss_one (ps_ret (pv 4)))))), ?_⟩
    refine ⟨_, rfl, a, ns, 1, rfl, hS, fun cl => ?_⟩
    refine ⟨_, rfl, _, _, _, rfl, (by decide), fun kd H1 k0 k1 s1 => ?_⟩
    refine ⟨Nat.zero_le _, fun o no => ?_⟩
    have s2 : Same H (upd H1 o (.lst [])) := s1.trans (same_upd no)
    refine ⟨_, rfl, b, _, rfl, s2.seq hW, ?_⟩
    refine for_enumL (K := K) (a := b) (xs := ws.map V.int) (fun i σ H3 => ∃ (st : List Int) (y5 y6 y7 : Option V), σ = [some (.ref a), some (.ref b), some (.int by_), some (.int kd), some (.ref o), y5, y6, y7] ∧ okS (ws.take i) st ∧ Same H1 H3 ∧ H3 o = some (.lst (st.map V.int)))
      ⟨[], none, none, none, rfl, trivial, same_upd no, upd_same⟩ (fun i σ H3 ⟨_, _, _, _, _, _, s3, _⟩ => (s1.trans s3).seq hW) ?_ ?_
    · rintro i x T σ H3 hx ⟨st, y5, y6, y7, rfl, hok, s3, eo⟩ nT
      obtain ⟨sz, hsz, rfl⟩ := map_int_at hx
      have hone : 1 ≤ sz := ho _ (List.mem_of_getElem? hsz)
      have hiw : i < ws.length := (List.getElem?_eq_some_iff.mp hsz).1
      have hi : i < ns.length := by omega
      have sT : Same H3 (upd H3 T (.tup [.int (i : Nat), .int sz])) := same_upd nT
      have sHT : Same H (upd H3 T (.tup [.int (i : Nat), .int sz])) := (s1.trans s3).trans sT
      have hS3 := sHT.seq hS
      have g : (ns.map V.int)[i]? = some (.int ns[i]) := at_map_int (List.getElem?_eq_getElem hi)
      refine ⟨T, [.int (i : Nat), .int sz], rfl, SqT.of upd_same, rfl, .int (i : Nat), [.int sz], rfl, .int sz, [], rfl, rfl, ?_⟩
      refine ⟨_, rfl, _, rfl, a, _, _, _, rfl, rfl, hS3, at_of (j := i) rfl g, _, _, rfl, rfl, ⟨by decide, by decide⟩, ?_⟩
      refine ⟨_, rfl, _, rfl, a, _, _, _, rfl, rfl, hS3, at_of (j := i) rfl g, _, rfl, _, _, rfl, rfl, (by show (0 : Int) < 4; decide), _, rfl, _, _, rfl, rfl, ?_⟩
      refine ⟨_, _, _, rfl, (by decide), fun z H4 z0 z1 s4 => ?_⟩
      refine ⟨_, _, rfl, rfl, _, rfl, _, _, rfl, rfl, (by show 0 < sz; omega), ?_⟩
      have eo4 : H4 o = some (.lst (st.map V.int)) := s4 _ _ (sT _ _ eo)
      have s14 : Same H1 H4 := (s3.trans sT).trans s4
      have hlst : st.length = i := by
        have := okS_len hok
        rw [List.length_take] at this
        omega
      have hz : (st.map V.int).length < sizeLine := by rw [List.length_map]; exact lt_line (by omega)
      have b0 : 0 ≤ (ns[i] / 3 + z) % sz := Int.emod_nonneg _ (by omega)
      have b1 : (ns[i] / 3 + z) % sz < sz := Int.emod_lt_of_pos _ (by omega)
      have fin : ∀ v : Int, 0 ≤ v → v < sz → ∃ (st' : List Int) (y5 y6 y7 : Option V), [some (.ref a), some (.ref b), some (.int by_), some (.int kd), some (.ref o), some (.int (i : Nat)), some (.int sz), some (.int v)] = [some (.ref a), some (.ref b), some (.int by_), some (.int kd), some (.ref o), y5, y6, y7] ∧ okS (ws.take (i + 1)) st' ∧ Same H1 (upd H4 o (.lst (st.map V.int ++ [.int v]))) ∧ (upd H4 o (.lst (st.map V.int ++ [.int v]))) o = some (.lst (st'.map V.int)) := by
        intro v h0 h1
        refine ⟨st ++ [v], _, _, _, rfl, okS_snoc hok hsz h0 h1, fun c u e => ?_, by rw [upd_same, List.map_append]; rfl⟩
        rw [upd_ne (ne_of_none e no)]
        exact s14 _ _ e
      refine ⟨_, rfl, rfl, _, rfl, ite2 (fun c1 => ?_) (fun _ => iteF ?_)⟩
      all_goals try (refine ⟨_, rfl, _, _, rfl, rfl, (by show (0 : Int) < 3; decide), _, _, rfl, rfl, _, rfl, ite2 (fun _ => ⟨_, rfl, _, _, rfl, rfl, ?_⟩) (fun _ => ?_)⟩)
      all_goals refine ⟨_, rfl, rfl, _, rfl, ite2 (fun c2 => ?_) (fun _ => iteF ?_)⟩
      all_goals try (refine ⟨_, rfl, _, _, rfl, rfl, (by show (0 : Int) < 3; decide), _, _, rfl, rfl, _, rfl, ite2 (fun _ => ?_) (fun _ => ?_)⟩)
      all_goals first
        | exact ⟨_, rfl, .inl ⟨rfl, _, SqL.of eo4⟩, _, rfl, o, _, _, rfl, rfl, eo4, hz, fin _ b0 b1⟩
        | exact ⟨_, rfl, .inl ⟨rfl, _, SqL.of eo4⟩, _, rfl, o, _, _, rfl, rfl, eo4, hz, fin (sz - 1) (by omega) (by omega)⟩
        | exact ⟨_, rfl, .inl ⟨rfl, _, SqL.of eo4⟩, _, rfl, o, _, _, rfl, rfl, eo4, hz, fin 0 (by omega) (by omega)⟩
    · rintro σ H3 ⟨st, y5, y6, y7, rfl, hok, s3, eo⟩
      rw [List.length_map, List.take_length] at hok
      exact ⟨_, rfl, q st o H3 hok (s1.trans s3) (s1.free no) eo⟩
/-! ### _law_count: the product -/
def sp_count (K : PySem.W.Frag) : Sp := fun vs H Q _ => ∃ (a : Addr) (ws : List Int), vs = [.ref a] ∧ SqL K H a (ws.map V.int) ∧ sizes ws ∧ ws.length ≤ 1000 ∧ Q (.int (prd ws)) H
theorem ok_count (D : Df K mg "_law_count" s_law_count ["_law_wheels_here"]) (B : Bi mg) : Ok P w K mg base "_law_count" ["_law_wheels_here"] 1 (sp_count K) := by
  refine D.ok sc_law_count (fun vs H Q E h => ?_) (fun f cdv A outer s H vs Q E hr h => ?_)
  · obtain ⟨a, ws, rfl, _⟩ := h
    rfl
  · obtain ⟨a, ws, rfl, hW, hs, hlen, q⟩ := h
    refine ⟨_, (pss_cons (ps_set (i := 1) sc_law_count.nd rfl (.inl rfl) pe_int)
      (pss_cons (ps_for PassesOwn.never rfl (pi_list (pv 0)) (pg_name (i := 2) sc_law_count.nd rfl (.inl rfl))
        (pss_one (ps_set (i := 1) sc_law_count.nd rfl (.inl rfl) (pe_op op_mulX (pv 1) (pv 2)))))
      (pss_one (ps_ret (pv 1))))), ?_⟩
    refine ⟨_, rfl, a, rfl, ⟨_, hW⟩, for_list (K := K) (a := a) (xs := ws.map V.int) (fun i σ H3 => ∃ y2 : Option V, σ = [some (.ref a), some (.int (prd (ws.take i).reverse)), y2] ∧ H3 = H)
      ⟨none, rfl, rfl⟩ (fun i σ H3 _ ⟨_, _, e⟩ => by rw [e]; exact hW) ?_ ?_⟩
    · rintro i x σ H3 hx ⟨y2, rfl, rfl⟩
      obtain ⟨sz, hsz, rfl⟩ := map_int_at hx
      have hi : i < ws.length := (List.getElem?_eq_some_iff.mp hsz).1
      have b1 := prd_bits (l := (ws.take i).reverse) (hs.take i).reverse
      have b2 := size_bits (hs.at hsz).1 (hs.at hsz).2
      refine ⟨_, rfl, _, rfl, _, _, rfl, rfl, mulx_ok b1 b2 ?_, some (.int sz), ?_, rfl⟩
      · rw [List.length_reverse, List.length_take]
        omega
      · rw [prd_snoc hsz]
        rfl
    · rintro σ H3 ⟨y2, rfl, rfl⟩
      refine ⟨_, rfl, ?_⟩
      rw [List.length_map, List.take_length, prd_reverse]
      exact q
/-! ### _law_is_setting -/
def chk (ws fs : List Int) (i : Nat) : List Bool := (List.range i).map fun k => decide (0 ≤ fs.getD k 0) && decide (fs.getD k 0 < ws.getD k 0)
def isB (ws fs : List Int) : Bool := decide (fs.length = ws.length) && (chk ws fs ws.length).all id
theorem isB_of {ws fs : List Int} (h : okS ws fs) : isB ws fs = true := by
  have e := okS_len h
  unfold isB
  rw [decide_eq_true e, Bool.true_and, List.all_eq_true]
  intro b hb
  unfold chk at hb
  rw [List.mem_map] at hb
  obtain ⟨k, hk, rfl⟩ := hb
  have hk2 := List.mem_range.mp hk
  have g1 : ws[k]? = some ws[k] := List.getElem?_eq_getElem hk2
  have g2 : fs[k]? = some (fs[k]'(by omega)) := List.getElem?_eq_getElem (by omega)
  have z := okS_at h g1 g2
  rw [List.getD_eq_getElem?_getD, List.getD_eq_getElem?_getD, g1, g2]
  show (decide (0 ≤ fs[k]'(by omega)) && decide (fs[k]'(by omega) < ws[k])) = true
  rw [decide_eq_true z.1, decide_eq_true z.2]
  rfl
theorem of_isB {ws fs : List Int} (h : isB ws fs = true) : okS ws fs := by
  unfold isB at h
  rw [Bool.and_eq_true] at h
  have e := of_decide_eq_true h.1
  refine okS_of e fun i s p e1 e2 => ?_
  have hi : i < ws.length := (List.getElem?_eq_some_iff.mp e1).1
  have h2 := List.all_eq_true.mp h.2 _ (List.mem_map.mpr ⟨i, List.mem_range.mpr hi, rfl⟩)
  rw [List.getD_eq_getElem?_getD, List.getD_eq_getElem?_getD, e1, e2] at h2
  have h3 : (decide (0 ≤ p) && decide (p < s)) = true := h2
  rw [Bool.and_eq_true] at h3
  exact ⟨of_decide_eq_true h3.1, of_decide_eq_true h3.2⟩
def sp_is_setting (K : PySem.W.Frag) : Sp := fun vs H Q _ => ∃ (a b : Addr) (ws fs : List Int), vs = [.ref a, .ref b] ∧ SqL K H a (ws.map V.int) ∧ SqL K H b (fs.map V.int) ∧ ws.length ≤ 1000 ∧ fs.length ≤ 1000 ∧
  ∀ H' : Hp, Same H H' → Q (.bl (isB ws fs)) H'
theorem any_rep (n : Nat) : (List.replicate n false).any id = false := by
  induction n with
  | zero => rfl
  | succ n ih => rw [List.replicate_succ, List.any_cons, ih]; rfl
theorem ok_is_setting (D : Df K mg "_law_is_setting" s_law_is_setting ["_law_wheels_here", "_law_found"]) (B : Bi mg) : Ok P w K mg base "_law_is_setting" ["_law_wheels_here", "_law_found"] 1 (sp_is_setting K) := by
  refine D.ok sc_law_is_setting (fun vs H Q E h => ?_) (fun f cdv A outer s H vs Q E hr h => ?_)
  · obtain ⟨a, b, ws, fs, rfl, _⟩ := h
    rfl
  · obtain ⟨a, b, ws, fs, rfl, hW, hF, lw, lf, q⟩ := h
    refine ⟨_, (pss_cons (ps_if (PW.pt (pw_or (pt_not (pt_val (pe_callB (isiK K) (by rfl) B.isinstance (by decide +kernel) (pa_cons (pv 1) (pa_cons (pe_bltn (v := .ty "list") (by rfl) B.list boot_list rfl) pa_nil))))) (pw_or1 (pt_cmpR op_ne (pe_callB (lenK K) (by rfl) B.len PySem.boot_len (pa_cons (pv 1) pa_nil)) (pe_callB (lenK K) (by rfl) B.len PySem.boot_len (pa_cons (pv 0) pa_nil)) (nomark _)))))
        (pss_one (ps_ret pe_bl))
        pss_nil)
      (pss_cons (ps_if (pt_val (pe_callB (anyK K rfl) (by rfl) B.any (by decide +kernel) (pa_cons (pe_lc (own := [("_law_one", 2)]) (g := gName 2) (tt := tYes) rfl sc_law_is_setting.nd (pi_list (pv 1)) (blkOk_by (own := [("_law_one", 2)]) (N := ["_law_wheels_here", "_law_found", "_law_one", "_law_k"]) (sc := defScope s_law_is_setting) (by decide +kernel)) (fun _ _ _ _ _ => pg_name (i := 2) sc_law_is_setting.nd rfl (.inl rfl)) (fun _ _ _ _ _ => pts_nil) (fun _ _ _ _ _ => (pe_or (pe_callB (isiK K) (by rfl) B.isinstance (by decide +kernel) (pa_cons (pv 2) (pa_cons (pe_bltn (v := .ty "bool") (by rfl) B.bool boot_bool rfl) pa_nil))) (pe_one (pe_not (pe_callB (isiK K) (by rfl) B.isinstance (by decide +kernel) (pa_cons (pv 2) (pa_cons (pe_bltn (v := .ty "int") (by rfl) B.int boot_int rfl) pa_nil)))))))) pa_nil)))
        (pss_one (ps_ret pe_bl))
        pss_nil)
      (pss_one (ps_ret (pe_callB (allK K rfl) (by rfl) B.all (by decide +kernel) (pa_cons (pe_lc (own := [("_law_k", 3)]) (g := gName 3) (tt := tYes) rfl sc_law_is_setting.nd (pi_range1 (by rfl) B.range (pa_cons (pe_callB (lenK K) (by rfl) B.len PySem.boot_len (pa_cons (pv 0) pa_nil)) pa_nil)) (blkOk_by (own := [("_law_k", 3)]) (N := ["_law_wheels_here", "_law_found", "_law_one", "_law_k"]) (sc := defScope s_law_is_setting) (by decide +kernel)) (fun _ _ _ _ _ => pg_name (i := 3) sc_law_is_setting.nd rfl (.inl rfl)) (fun _ _ _ _ _ => pts_nil) (fun _ _ _ _ _ => (pe_chain op_le op_lt pe_int (pe_ix (ixL K) (pv 1) (pv 3) (fun _ _ => rfl)) (pe_ix (ixL K) (pv 0) (pv 3) (fun _ _ => rfl))))) pa_nil)))))), ?_⟩
    refine ⟨_, rfl, _, _, _, _, true, rfl, .ty "list", tyx_list hF, kit_ty (by decide +kernel), _, rfl, iteF ?_⟩
    refine ⟨_, rfl, b, _, rfl, .inl hF, _, rfl, a, _, rfl, .inl hW, rfl, _, rfl, ?_⟩
    rw [List.length_map, List.length_map, dec_int1]
    by_cases el : fs.length = ws.length
    · have el2 : (fs.length : Int) = (ws.length : Int) := by omega
      rw [decide_eq_true el2]
      refine iteF ?_
      -- any([isinstance(one, bool) or not isinstance(one, int) for one in found])
      refine ⟨_, rfl, b, rfl, ⟨_, hF⟩, fun D nD => ?_⟩
      refine lc_list (K := K) (a := b) (xs := fs.map V.int) (fun i H3 => Same H H3 ∧ H3 D = some (.lst ((List.replicate i false).map V.bl))) ⟨same_upd nD, upd_same⟩ (fun i H3 _ h => h.1.seq hF) ?_ ?_
      · rintro i x H3 hx ⟨s3, eD⟩
        obtain ⟨z, hz, rfl⟩ := map_int_at hx
        have hi : i < fs.length := (List.getElem?_eq_some_iff.mp hz).1
        refine ⟨rfl, _, rfl, _, _, _, _, false, rfl, .ty "bool", .base (.int _), kit_ty (by decide +kernel), _, rfl, iteF ?_⟩
        refine ⟨_, rfl, _, _, _, _, true, rfl, .ty "int", .base (.int _), kit_ty (by decide +kernel), _, rfl, ?_⟩
        refine ⟨_, eD, ?_, ?_, ?_⟩
        · rw [List.length_map, List.length_replicate]; exact lt_line (by omega)
        · intro c u e
          rw [upd_ne (ne_of_none e nD)]
          exact s3 _ _ e
        · rw [upd_same, List.replicate_succ', List.map_append]
          rfl
      · rintro H3 ⟨s3, eD⟩
        refine ⟨D, _, rfl, SqL.of eD, _, rfl, ?_⟩
        rw [any_rep]
        refine iteF ?_
        -- all([0 <= found[k] < wheels[k] for k in range(len(wheels))])
        refine ⟨_, rfl, a, _, rfl, .inl (s3.seq hW), _, rfl, (by omega), (by rw [List.length_map]; omega), fun D2 nD2 => ?_⟩
        refine lc_range (lo := 0) (fun i H4 => Same H H4 ∧ H4 D2 = some (.lst ((chk ws fs i).map V.bl))) ⟨s3.trans (same_upd nD2), upd_same⟩ ?_ ?_
        · rintro i H4 hi ⟨s4, eD2⟩
          rw [List.length_map, Int.toNat_natCast] at hi
          have g1 : (ws.map V.int)[i]? = some (.int ws[i]) := at_map_int (List.getElem?_eq_getElem hi)
          have g2 : (fs.map V.int)[i]? = some (.int (fs[i]'(by omega))) := at_map_int (List.getElem?_eq_getElem (by omega))
          have ec : chk ws fs (i + 1) = chk ws fs i ++ [decide (0 ≤ fs[i]'(by omega)) && decide (fs[i]'(by omega) < ws[i])] := by
            unfold chk
            rw [List.range_succ, List.map_append, List.map_singleton, List.getD_eq_getElem?_getD, List.getD_eq_getElem?_getD, List.getElem?_eq_getElem hi, List.getElem?_eq_getElem (show i < fs.length by omega)]
            rfl
          have fin : ∀ c : Bool, c = (decide (0 ≤ fs[i]'(by omega)) && decide (fs[i]'(by omega) < ws[i])) → ∃ acc, H4 D2 = some (.lst acc) ∧ acc.length < sizeLine ∧ Same H (upd H4 D2 (.lst (acc ++ [.bl c]))) ∧ (upd H4 D2 (.lst (acc ++ [.bl c]))) D2 = some (.lst ((chk ws fs (i + 1)).map V.bl)) := by
            intro c hc
            refine ⟨_, eD2, ?_, ?_, ?_⟩
            · unfold chk
              rw [List.length_map, List.length_map, List.length_range]; exact lt_line (by omega)
            · intro c u e
              rw [upd_ne (s3.ne e nD2)]
              exact s4 _ _ e
            · rw [upd_same, ec, List.map_append, hc]
              rfl
          refine ⟨rfl, _, rfl, _, rfl, b, _, _, _, rfl, rfl, s4.seq hF, at_of (j := i) (by omega) g2, _, _, rfl, rfl, _, rfl, ite2 (fun c => ?_) (fun c => ?_)⟩
          · have c2 := of_decide_eq_true c
            refine ⟨_, rfl, _, rfl, a, _, _, _, rfl, rfl, s4.seq hW, at_of (j := i) (by omega) g1, _, _, rfl, rfl, fin _ ?_⟩
            rw [decide_eq_true c2]
            rfl
          · refine fin _ ?_
            have c2 : ¬ 0 ≤ fs[i]'(by omega) := fun z => c (decide_eq_true z)
            rw [decide_eq_false c2]
            rfl
        · rintro H4 ⟨s4, eD2⟩
          rw [List.length_map, Int.toNat_natCast] at eD2
          refine ⟨D2, _, rfl, SqL.of eD2, ?_⟩
          have e : isB ws fs = (chk ws fs ws.length).all id := by
            unfold isB
            rw [decide_eq_true el]
            rfl
          rw [← e]
          exact q H4 s4
    · have el2 : ¬ (fs.length : Int) = (ws.length : Int) := by omega
      rw [decide_eq_false el2]
      refine iteT ?_
      have e : isB ws fs = false := by
        unfold isB
        rw [decide_eq_false el]
        rfl
      have := q H (Same.refl H)
      rw [e] at this
      exact this
end
end Ww
namespace Ww
open PySem PySem.Spec PyProof.Rows L2
section
variable {P : Program} {w : World} {K : PySem.W.Frag} {mg : Str → Option Value} {base : Heap}
/-! ### _law_step -/
def gaps (xs ys : List Int) (i : Nat) : List Int := (List.range i).map fun k => absI (xs.getD k 0 - ys.getD k 0)
theorem gaps_snoc (xs ys : List Int) (i : Nat) : gaps xs ys (i + 1) = gaps xs ys i ++ [absI (xs.getD i 0 - ys.getD i 0)] := by
  unfold gaps
  rw [List.range_succ, List.map_append]
  rfl
theorem gaps_sum : ∀ {xs ys : List Int}, xs.length = ys.length → (gaps xs ys xs.length).sum = dist xs ys
  | [], [], _ => rfl
  | [], _ :: _, h => by simp at h
  | _ :: _, [], h => by simp at h
  | x :: xs, y :: ys, h => by
    have ih := gaps_sum (xs := xs) (ys := ys) (by simpa using h)
    show (gaps (x :: xs) (y :: ys) (xs.length + 1)).sum = absI (x - y) + dist xs ys
    rw [← ih]
    unfold gaps
    rw [List.range_succ_eq_map, List.map_cons, List.map_map, List.sum_cons]
    rfl
def sp_step (K : PySem.W.Frag) : Sp := fun vs H Q _ => ∃ (a b : Addr) (xs ys : List Int), vs = [.ref a, .ref b] ∧ SqL K H a (xs.map V.int) ∧ SqL K H b (ys.map V.int) ∧ xs.length = ys.length ∧ xs.length ≤ 1000 ∧
  ∀ H' : Hp, Same H H' → Q (.bl (decide (dist xs ys = 1))) H'
theorem ok_step (D : Df K mg "_law_step" s_law_step ["_law_one", "_law_other"]) (B : Bi mg) : Ok P w K mg base "_law_step" ["_law_one", "_law_other"] 1 (sp_step K) := by
  refine D.ok sc_law_step (fun vs H Q E h => ?_) (fun f cdv A outer s H vs Q E hr h => ?_)
  · obtain ⟨a, b, xs, ys, rfl, _⟩ := h
    rfl
  · obtain ⟨a, b, xs, ys, rfl, hX, hY, el, hl, q⟩ := h
    refine ⟨_, (pss_one (ps_ret (pe_cmpR op_eq (pe_callB (sumK K rfl) (by rfl) B.sum (by decide +kernel) (pa_cons (pe_lc (own := [("_law_k", 2)]) (g := gName 2) (tt := tYes) rfl sc_law_step.nd (pi_range1 (by rfl) B.range (pa_cons (pe_callB (lenK K) (by rfl) B.len PySem.boot_len (pa_cons (pv 0) pa_nil)) pa_nil)) (blkOk_by (own := [("_law_k", 2)]) (N := ["_law_one", "_law_other", "_law_k"]) (sc := defScope s_law_step) (by decide +kernel)) (fun _ _ _ _ _ => pg_name (i := 2) sc_law_step.nd rfl (.inl rfl)) (fun _ _ _ _ _ => pts_nil) (fun _ _ _ _ _ => (pe_callB call_abs (by rfl) B.abs (by decide +kernel) (pa_cons (pe_op op_sub (pe_ix (ixL K) (pv 0) (pv 2) (fun _ _ => rfl)) (pe_ix (ixL K) (pv 1) (pv 2) (fun _ _ => rfl))) pa_nil)))) pa_nil)) pe_int (nomark _)))), ?_⟩
    refine ⟨_, rfl, a, _, rfl, .inl hX, _, rfl, (by omega), (by rw [List.length_map]; omega), fun D nD => ?_⟩
    refine lc_range (lo := 0) (fun i H4 => Same H H4 ∧ H4 D = some (.lst ((gaps xs ys i).map V.int))) ⟨same_upd nD, upd_same⟩ ?_ ?_
    · rintro i H4 hi ⟨s4, eD⟩
      rw [List.length_map, Int.toNat_natCast] at hi
      have g1 : (xs.map V.int)[i]? = some (.int xs[i]) := at_map_int (List.getElem?_eq_getElem hi)
      have g2 : (ys.map V.int)[i]? = some (.int (ys[i]'(by omega))) := at_map_int (List.getElem?_eq_getElem (by omega))
      refine ⟨rfl, _, rfl, _, rfl, a, _, _, _, rfl, rfl, s4.seq hX, at_of (j := i) (by omega) g1, _, rfl, _, rfl, b, _, _, _, rfl, rfl, s4.seq hY, at_of (j := i) (by omega) g2, _, _, rfl, rfl, _, rfl, _, eD, ?_, ?_, ?_⟩
      · unfold gaps
        rw [List.length_map, List.length_map, List.length_range]; exact lt_line (by omega)
      · intro c u e
        rw [upd_ne (ne_of_none e nD)]
        exact s4 _ _ e
      · rw [upd_same, gaps_snoc, List.map_append, List.getD_eq_getElem?_getD, List.getD_eq_getElem?_getD, List.getElem?_eq_getElem hi, List.getElem?_eq_getElem (show i < ys.length by omega)]
        rfl
    · rintro H4 ⟨s4, eD⟩
      rw [List.length_map, Int.toNat_natCast] at eD
      refine ⟨D, _, rfl, SqL.of eD, rfl, ?_⟩
      rw [gaps_sum el, dec_int1]
      exact q H4 s4
/-! ### _law_whole -/
def sp_whole : Sp := fun vs H Q _ => ∃ z : Int, vs = [.int z] ∧ Q (.bl true) H
theorem ok_whole (D : Df K mg "_law_whole" s_law_whole ["_law_number"]) (B : Bi mg) : Ok P w K mg base "_law_whole" ["_law_number"] 1 sp_whole := by
  refine D.ok sc_law_whole (fun vs H Q E h => ?_) (fun f cdv A outer s H vs Q E hr h => ?_)
  · obtain ⟨z, rfl, _⟩ := h
    rfl
  · obtain ⟨z, rfl, q⟩ := h
    refine ⟨_, (pss_one (ps_ret (pe_and (pe_callB (isiK K) (by rfl) B.isinstance (by decide +kernel) (pa_cons (pv 0) (pa_cons (pe_bltn (v := .ty "int") (by rfl) B.int boot_int rfl) pa_nil))) (pe_one (pe_not (pe_callB (isiK K) (by rfl) B.isinstance (by decide +kernel) (pa_cons (pv 0) (pa_cons (pe_bltn (v := .ty "bool") (by rfl) B.bool boot_bool rfl) pa_nil)))))))), ?_⟩
    refine ⟨_, rfl, _, _, _, _, true, rfl, .ty "int", .base (.int _), kit_ty (by decide +kernel), _, rfl, iteT ?_⟩
    exact ⟨_, rfl, _, _, _, _, false, rfl, .ty "bool", .base (.int _), kit_ty (by decide +kernel), _, rfl, q⟩
end
end Ww
namespace Ww
open PySem PySem.Spec PyProof.Rows L2
section
variable {P : Program} {w : World} {K : PySem.W.Frag} {mg : Str → Option Value} {base : Heap}
/-! ### _law_far: some number below the most -/
def sp_far (K : PySem.W.Frag) : Sp := fun vs H Q _ => ∃ (a : Addr) (ns : List Int) (by_ most : Int), vs = [.ref a, .int by_, .int most] ∧ SqL K H a (ns.map V.int) ∧ ns.length ≤ 1000 ∧ 0 < most ∧
  ∀ (z : Int) (H' : Hp), 0 ≤ z → z < most → Same H H' → Q (.int z) H'
theorem ok_far (D : Df K mg "_law_far" s_law_far ["_law_script", "_law_by", "_law_most"]) (B : Bi mg) (G_law_draw : Ok P w K mg base "_law_draw" ["_law_cell", "_law_k", "_law_many"] 1 sp_draw) :
    Ok P w K mg base "_law_far" ["_law_script", "_law_by", "_law_most"] 2 (sp_far K) := by
  refine D.ok sc_law_far (fun vs H Q E h => ?_) (fun f cdv A outer s H vs Q E hr h => ?_)
  · obtain ⟨a, ns, by_, most, rfl, _⟩ := h
    rfl
  · obtain ⟨a, ns, by_, most, rfl, hS, hlen, hm, q⟩ := h
    refine ⟨_, (pss_cons (ps_set (i := 3) sc_law_far.nd rfl (.inl rfl) pe_int)
      (pss_cons (ps_for PassesOwn.never rfl (pi_range1 (by rfl) B.range (pa_cons (pe_callB (lenK K) (by rfl) B.len PySem.boot_len (pa_cons (pv 0) pa_nil)) pa_nil)) (pg_name (i := 4) sc_law_far.nd rfl (.inl rfl))
        (pss_one (ps_set (i := 3) sc_law_far.nd rfl (.inl rfl) (pe_op op_add (pe_op op_add (pe_op op_mul (pv 3) pe_int) (pe_op op_fdiv (pe_ix (ixL K) (pv 0) (pv 4) (fun _ _ => rfl)) pe_int)) (pe_ok G_law_draw hr (by decide) (pa_cons (pe_ix (ixL K) (pv 0) (pv 4) (fun _ _ => rfl)) (pa_cons (pe_op op_add (pe_op op_mod (pv 4) pe_int) (pv 1)) (pa_cons pe_int pa_nil))))))))
      (pss_one (ps_ret (pe_op op_mod (pv 3) (pv 2)))))), ?_⟩
    refine ⟨_, rfl, a, _, rfl, .inl hS, _, rfl, (by omega), (by rw [List.length_map]; omega), ?_⟩
    refine for_range (lo := 0) (fun i σ H3 => ∃ (x : Int) (y4 : Option V), σ = [some (.ref a), some (.int by_), some (.int most), some (.int x), y4] ∧ Same H H3)
      ⟨0, none, rfl, Same.refl H⟩ ?_ ?_
    · rintro i σ H3 hi ⟨x, y4, rfl, s3⟩
      rw [List.length_map, Int.toNat_natCast] at hi
      have hS3 : SqL K H3 a (ns.map V.int) := s3.seq hS
      have g : (ns.map V.int)[i]? = some (.int ns[i]) := at_map_int (List.getElem?_eq_getElem hi)
      refine ⟨_, rfl, _, _, rfl, rfl, .inr ⟨by decide, by decide⟩, _, rfl, _, rfl, a, _, _, _, rfl, rfl, hS3, at_of (j := i) (by omega) g, _, _, rfl, rfl, ⟨by decide, by decide⟩, _, _, rfl, rfl, ?_⟩
      refine ⟨_, rfl, _, rfl, a, _, _, _, rfl, rfl, hS3, at_of (j := i) (by omega) g, _, rfl, _, _, rfl, rfl, (by show (0 : Int) < 3; decide), _, rfl, _, _, rfl, rfl, ?_⟩
      refine ⟨_, _, _, rfl, (by decide), fun z H4 z0 z1 s4 => ?_⟩
      exact ⟨_, _, rfl, rfl, _, _, rfl, s3.trans s4⟩
    · rintro σ H3 ⟨x, y4, rfl, s3⟩
      refine ⟨_, rfl, _, rfl, _, _, rfl, rfl, hm, ?_⟩
      exact q _ _ (Int.emod_nonneg _ (by omega)) (Int.emod_lt_of_pos _ hm) s3
end
end Ww
namespace Ww
open PySem PySem.Spec PyProof.Rows L2
section
variable {P : Program} {w : World} {K : PySem.W.Frag} {mg : Str → Option Value} {base : Heap}
/-! ### is_whole -/
def sp_is_whole : Sp := fun vs H Q _ => ∃ z : Int, vs = [.int z] ∧ Q (.bl true) H
theorem ok_is_whole (D : Df K mg "is_whole" s_is_whole ["thing"]) (B : Bi mg) : Ok P w K mg base "is_whole" ["thing"] 1 sp_is_whole := by
  refine D.ok sc_is_whole (fun vs H Q E h => ?_) (fun f cdv A outer s H vs Q E hr h => ?_)
  · obtain ⟨z, rfl, _⟩ := h
    rfl
  · obtain ⟨z, rfl, q⟩ := h
    refine ⟨_, (pss_one (ps_ret (pe_and (pe_callB (isiK K) (by rfl) B.isinstance (by decide +kernel) (pa_cons (pv 0) (pa_cons (pe_bltn (v := .ty "int") (by rfl) B.int boot_int rfl) pa_nil))) (pe_one (pe_not (pe_callB (isiK K) (by rfl) B.isinstance (by decide +kernel) (pa_cons (pv 0) (pa_cons (pe_bltn (v := .ty "bool") (by rfl) B.bool boot_bool rfl) pa_nil)))))))), ?_⟩
    refine ⟨_, rfl, _, _, _, _, true, rfl, .ty "int", .base (.int _), kit_ty (by decide +kernel), _, rfl, iteT ?_⟩
    exact ⟨_, rfl, _, _, _, _, false, rfl, .ty "bool", .base (.int _), kit_ty (by decide +kernel), _, rfl, q⟩
end
end Ww
namespace Ww
open PySem PySem.Spec PyProof.Rows L2
section
variable {P : Program} {w : World} {K : PySem.W.Frag} {mg : Str → Option Value} {base : Heap}
/-! ### the checks, of what passes them -/
def sp_check_wheels (K : PySem.W.Frag) : Sp := fun vs H Q _ => ∃ (a : Addr) (ws : List Int), vs = [.ref a] ∧ SqL K H a (ws.map V.int) ∧ ones ws ∧ Q .non H
theorem ok_check_wheels (D : Df K mg "check_wheels" s_check_wheels ["wheels"]) (B : Bi mg) (G_is_whole : Ok P w K mg base "is_whole" ["thing"] 1 sp_is_whole) : Ok P w K mg base "check_wheels" ["wheels"] 2 (sp_check_wheels K) := by
  refine D.ok sc_check_wheels (fun vs H Q E h => ?_) (fun f cdv A outer s H vs Q E hr h => ?_)
  · obtain ⟨a, ws, rfl, _⟩ := h
    rfl
  · obtain ⟨a, ws, rfl, hS, ho, q⟩ := h
    refine ⟨_, (pss_cons (ps_if (pt_not (pt_val (pe_callB (isiK K) (by rfl) B.isinstance (by decide +kernel) (pa_cons (pv 0) (pa_cons (pe_bltn (v := .ty "list") (by rfl) B.list boot_list rfl) pa_nil)))))
        (pss_one ps_never)
        pss_nil)
      (pss_one (ps_for PassesOwn.never rfl (pi_list (pv 0)) (pg_name (i := 1) sc_check_wheels.nd rfl (.inl rfl))
        (pss_one (ps_if (PW.pt (pw_or (pt_not (pt_val (pe_ok G_is_whole hr (by decide) (pa_cons (pv 1) pa_nil)))) (pw_or1 (pt_cmpR op_lt (pv 1) pe_int (nomark _)))))
          (pss_one ps_never)
          pss_nil))))), ?_⟩
    refine ⟨_, rfl, _, _, _, _, true, rfl, .ty "list", tyx_list hS, kit_ty (by decide +kernel), _, rfl, ?_⟩
    refine ⟨_, rfl, a, rfl, ⟨_, hS⟩, for_list (K := K) (a := a) (xs := ws.map V.int) (fun i σ H3 => ∃ y1 : Option V, σ = [some (.ref a), y1] ∧ H3 = H) ⟨none, rfl, rfl⟩ (fun i σ H3 _ ⟨_, _, e⟩ => by rw [e]; exact hS) ?_ ?_⟩
    · rintro i x σ H3 hx ⟨y1, rfl, rfl⟩
      obtain ⟨z, hz, rfl⟩ := map_int_at hx
      have h1 := ho z (List.mem_of_getElem? hz)
      refine ⟨_, rfl, z, rfl, _, rfl, ?_⟩
      refine ⟨_, rfl, _, _, rfl, rfl, _, rfl, ite2 (fun c => ?_) (fun _ => ⟨_, rfl, rfl⟩)⟩
      have := of_decide_eq_true c
      omega
    · rintro σ H3 ⟨y1, rfl, rfl⟩
      exact q
/-- whether a list of ints is a setting of a list of ints, whatever the ints -/
def sp_is_set (K : PySem.W.Frag) : Sp := fun vs H Q _ => ∃ (a b : Addr) (ws st : List Int), vs = [.ref a, .ref b] ∧ SqL K H a (ws.map V.int) ∧ SqL K H b (st.map V.int) ∧ ∀ H' : Hp, Same H H' → Q (.bl (isB ws st)) H'
theorem isB_not {ws st : List Int} (h : ¬ okS ws st) : isB ws st = false := by
  cases e : isB ws st with
  | false => rfl
  | true => exact absurd (of_isB e) h
theorem ok_is_set (D : Df K mg "is_setting" s_is_setting ["wheels", "setting"]) (B : Bi mg) (G_is_whole : Ok P w K mg base "is_whole" ["thing"] 1 sp_is_whole) : Ok P w K mg base "is_setting" ["wheels", "setting"] 2 (sp_is_set K) := by
  refine D.ok sc_is_setting (fun vs H Q E h => ?_) (fun f cdv A outer s H vs Q E hr h => ?_)
  · obtain ⟨a, b, ws, st, rfl, _⟩ := h
    rfl
  · obtain ⟨a, b, ws, st, rfl, hW, hS, q⟩ := h
    refine ⟨_, (pss_cons (ps_if (PW.pt (pw_or (pt_not (pt_val (pe_callB (isiK K) (by rfl) B.isinstance (by decide +kernel) (pa_cons (pv 1) (pa_cons (pe_bltn (v := .ty "list") (by rfl) B.list boot_list rfl) pa_nil))))) (pw_or1 (pt_cmpR op_ne (pe_callB (lenK K) (by rfl) B.len PySem.boot_len (pa_cons (pv 1) pa_nil)) (pe_callB (lenK K) (by rfl) B.len PySem.boot_len (pa_cons (pv 0) pa_nil)) (nomark _)))))
        (pss_one (ps_ret pe_bl))
        pss_nil)
      (pss_cons (ps_for PassesOwn.never rfl (pi_zip (by rfl) B.zip (pa_cons (pv 0) (pa_cons (pv 1) pa_nil))) (pg_tup rfl (pgs_cons (pg_name (i := 2) sc_is_setting.nd rfl (.inl rfl)) (pgs_cons (pg_name (i := 3) sc_is_setting.nd rfl (.inl rfl)) pgs_nil)))
        (pss_one (ps_if (PW.pt (pw_or (pt_not (pt_val (pe_ok G_is_whole hr (by decide) (pa_cons (pv 3) pa_nil)))) (pw_or1 (pt_not (pt_chain op_le op_lt pe_int (pv 3) (pv 2))))))
          (pss_one (ps_ret pe_bl))
          pss_nil)))
      (pss_one (ps_ret pe_bl)))), ?_⟩
    refine ⟨_, rfl, _, _, _, _, true, rfl, .ty "list", tyx_list hS, kit_ty (by decide +kernel), _, rfl, ?_⟩
    refine ⟨_, rfl, b, _, rfl, .inl hS, _, rfl, a, _, rfl, .inl hW, rfl, _, rfl, ?_⟩
    rw [List.length_map, List.length_map, dec_int1]
    by_cases el : st.length = ws.length
    rotate_left
    · rw [decide_eq_false (show ¬ (st.length : Int) = (ws.length : Int) by omega)]
      rw [isB_not fun h => el (okS_len h)] at q
      exact q H (Same.refl H)
    rw [decide_eq_true (show (st.length : Int) = (ws.length : Int) by omega)]
    refine ⟨_, rfl, _, rfl, a, b, _, _, rfl, hW, hS, RZ.for_zipL (K := K) (a := a) (b := b) (by rw [List.length_map, List.length_map, el]) (fun i σ H3 => (∃ y2 y3 : Option V, σ = [some (.ref a), some (.ref b), y2, y3] ∧ Same H H3) ∧ ∀ (j : Nat) (s p : Int), j < i → ws[j]? = some s → st[j]? = some p → 0 ≤ p ∧ p < s)
      ⟨⟨none, none, rfl, Same.refl H⟩, fun _ _ _ h => absurd h (Nat.not_lt_zero _)⟩ (fun i σ H3 ⟨⟨_, _, _, s3⟩, _⟩ => ⟨s3.seq hW, s3.seq hS⟩) ?_ ?_⟩
    · rintro i x y T σ H3 hx hy ⟨⟨y2, y3, rfl, s3⟩, hall⟩ nT
      obtain ⟨sz, hsz, rfl⟩ := map_int_at hx
      obtain ⟨p, hp, rfl⟩ := map_int_at hy
      have sT : Same H (upd H3 T (.tup [.int sz, .int p])) := s3.trans (same_upd nT)
      refine ⟨T, [.int sz, .int p], rfl, SqT.of upd_same, rfl, .int sz, [.int p], rfl, .int p, [], rfl, rfl, ?_⟩
      refine ⟨_, rfl, p, rfl, _, rfl, ?_⟩
      have out : ¬ (0 ≤ p ∧ p < sz) → Q (.bl false) (upd H3 T (.tup [.int sz, .int p])) := fun hn => by
        rw [isB_not fun h => hn (okS_at h hsz hp)] at q
        exact q _ sT
      refine ⟨_, rfl, _, _, rfl, rfl, _, rfl, ite2 (fun c0 => ?_) (fun c0 => ⟨_, rfl, out fun h => c0 (decide_eq_true h.1)⟩)⟩
      refine ⟨_, rfl, _, _, rfl, rfl, _, rfl, ?_⟩
      by_cases c1 : p < sz
      · rw [decide_eq_true c1]
        refine ⟨⟨_, _, rfl, sT⟩, fun j s q hj e1 e2 => ?_⟩
        by_cases hji : j = i
        · subst hji
          have e3 := Option.some.inj (hsz.symm.trans e1)
          have e4 := Option.some.inj (hp.symm.trans e2)
          subst e3 e4
          exact ⟨of_decide_eq_true c0, c1⟩
        · exact hall j s q (by omega) e1 e2
      · rw [decide_eq_false c1]
        exact out fun h => c1 h.2
    · rintro σ H3 ⟨⟨y2, y3, rfl, s3⟩, hall⟩
      rw [List.length_map] at hall
      have hok : okS ws st := okS_of el fun i s p e1 e2 => hall i s p (List.getElem?_eq_some_iff.mp e1).1 e1 e2
      rw [isB_of hok] at q
      exact q H3 s3
def sp_check_setting (K : PySem.W.Frag) : Sp := fun vs H Q _ => ∃ (a b : Addr) (ws st : List Int), vs = [.ref a, .ref b] ∧ SqL K H a (ws.map V.int) ∧ SqL K H b (st.map V.int) ∧ okS ws st ∧ ∀ H' : Hp, Same H H' → Q .non H'
theorem ok_check_setting (D : Df K mg "check_setting" s_check_setting ["wheels", "setting"]) (G_is_setting : Ok P w K mg base "is_setting" ["wheels", "setting"] 2 (sp_is_set K)) : Ok P w K mg base "check_setting" ["wheels", "setting"] 3 (sp_check_setting K) := by
  refine D.ok sc_check_setting (fun vs H Q E h => ?_) (fun f cdv A outer s H vs Q E hr h => ?_)
  · obtain ⟨a, b, ws, st, rfl, _⟩ := h
    rfl
  · obtain ⟨a, b, ws, st, rfl, hW, hS, hok, q⟩ := h
    refine ⟨_, (pss_one (ps_if (pt_not (pt_val (pe_ok G_is_setting hr (by decide) (pa_cons (pv 0) (pa_cons (pv 1) pa_nil)))))
        (pss_one ps_never)
        pss_nil)), ?_⟩
    refine ⟨_, rfl, _, rfl, a, b, ws, st, rfl, hW, hS, fun H1 s1 => ?_⟩
    rw [isB_of hok]
    exact ⟨_, rfl, q H1 s1⟩
end
end Ww
namespace Ww
open PySem PySem.Spec PyProof.Rows L2
section
variable {P : Program} {w : World} {K : PySem.W.Frag} {mg : Str → Option Value} {base : Heap}
/-! ### _mirrored -/
def sp_mirrored : Sp := fun vs H Q _ => ∃ s p a : Int, vs = [.int s, .int p, .int a] ∧ Q (.int (mir s p a)) H
theorem ok_mirrored (D : Df K mg "_mirrored" s_mirrored ["size", "place", "ahead"]) (B : Bi mg) : Ok P w K mg base "_mirrored" ["size", "place", "ahead"] 1 sp_mirrored := by
  refine D.ok sc_mirrored (fun vs H Q E h => ?_) (fun f cdv A outer s H vs Q E hr h => ?_)
  · obtain ⟨s, p, a, rfl, _⟩ := h
    rfl
  · obtain ⟨s, p, a, rfl, q⟩ := h
    refine ⟨_, (pss_cons (ps_if (pt_truth (pe_op op_andM (pv 2) pe_int) (fun _ => rfl))
        (pss_one (ps_ret (pe_op op_sub (pe_op op_sub (pv 0) pe_int) (pv 1))))
        pss_nil)
      (pss_one (ps_ret (pv 1)))), ?_⟩
    refine ⟨_, rfl, a, 1, rfl, rfl, _, rfl, ?_⟩
    show if (a % 2 != 0) = true then _ else _
    rcases mir_cases s p a with ⟨h, e⟩ | ⟨h, e⟩
    · rw [h]
      rw [e] at q
      refine iteF ?_
      exact ⟨_, rfl, q⟩
    · rw [h]
      rw [e] at q
      refine iteT ?_
      exact ⟨_, rfl, _, _, rfl, rfl, _, rfl, _, _, rfl, rfl, q⟩
def sp_check_number : Sp := fun vs H Q _ => ∃ n m : Int, vs = [.int n, .int m] ∧ 0 ≤ n ∧ n < m ∧ Q .non H
theorem ok_check_number (D : Df K mg "check_number" s_check_number ["number", "many"]) (B : Bi mg) (G_is_whole : Ok P w K mg base "is_whole" ["thing"] 1 sp_is_whole) : Ok P w K mg base "check_number" ["number", "many"] 2 sp_check_number := by
  refine D.ok sc_check_number (fun vs H Q E h => ?_) (fun f cdv A outer s H vs Q E hr h => ?_)
  · obtain ⟨n, m, rfl, _⟩ := h
    rfl
  · obtain ⟨n, m, rfl, h0, h1, q⟩ := h
    refine ⟨_, (pss_one (ps_if (PW.pt (pw_or (pt_not (pt_val (pe_ok G_is_whole hr (by decide) (pa_cons (pv 0) pa_nil)))) (pw_or1 (pt_not (pt_chain op_le op_lt pe_int (pv 0) (pv 1))))))
        (pss_one ps_never)
        pss_nil)), ?_⟩
    refine ⟨_, rfl, n, rfl, _, rfl, ?_⟩
    refine ⟨_, rfl, _, _, rfl, rfl, _, rfl, ?_⟩
    rw [decide_eq_true h0]
    refine ⟨_, rfl, _, _, rfl, rfl, _, rfl, ?_⟩
    rw [decide_eq_true h1]
    exact q
/-! ### settings -/
theorem ok_settings (D : Df K mg "settings" s_settings ["wheels"]) (B : Bi mg) (G_check_wheels : Ok P w K mg base "check_wheels" ["wheels"] 2 (sp_check_wheels K)) : Ok P w K mg base "settings" ["wheels"] 3 (sp_count K) := by
  refine D.ok sc_settings (fun vs H Q E h => ?_) (fun f cdv A outer s H vs Q E hr h => ?_)
  · obtain ⟨a, ws, rfl, _⟩ := h
    rfl
  · obtain ⟨a, ws, rfl, hW, hs, hlen, q⟩ := h
    refine ⟨_, (pss_cons (ps_expr (pe_ok G_check_wheels hr (by decide) (pa_cons (pv 0) pa_nil)))
      (pss_cons (ps_set (i := 1) sc_settings.nd rfl (.inl rfl) pe_int)
      (pss_cons (ps_for PassesOwn.never rfl (pi_list (pv 0)) (pg_name (i := 2) sc_settings.nd rfl (.inl rfl))
        (pss_one (ps_set (i := 1) sc_settings.nd rfl (.inl rfl) (pe_op op_mulX (pv 1) (pv 2)))))
      (pss_one (ps_ret (pv 1)))))), ?_⟩
    refine ⟨_, rfl, a, ws, rfl, hW, hs.ones, ?_⟩
    refine ⟨_, rfl, a, rfl, ⟨_, hW⟩, for_list (K := K) (a := a) (xs := ws.map V.int) (fun i σ H3 => ∃ y2 : Option V, σ = [some (.ref a), some (.int (prd (ws.take i).reverse)), y2] ∧ H3 = H)
      ⟨none, rfl, rfl⟩ (fun i σ H3 _ ⟨_, _, e⟩ => by rw [e]; exact hW) ?_ ?_⟩
    · rintro i x σ H3 hx ⟨y2, rfl, rfl⟩
      obtain ⟨sz, hsz, rfl⟩ := map_int_at hx
      have hi : i < ws.length := (List.getElem?_eq_some_iff.mp hsz).1
      have b1 := prd_bits (l := (ws.take i).reverse) (hs.take i).reverse
      have b2 := size_bits (hs.at hsz).1 (hs.at hsz).2
      refine ⟨_, rfl, _, rfl, _, _, rfl, rfl, mulx_ok b1 b2 ?_, some (.int sz), ?_, rfl⟩
      · rw [List.length_reverse, List.length_take]
        omega
      · rw [prd_snoc hsz]
        rfl
    · rintro σ H3 ⟨y2, rfl, rfl⟩
      refine ⟨_, rfl, ?_⟩
      rw [List.length_map, List.take_length, prd_reverse]
      exact q
/-! ### the way forth -/
def setF (ws : List Int) (n : Int) : List Int := (sof ws.reverse n).reverse
def numF (ws st : List Int) : Int := nofR ws.reverse st.reverse
def sp_setting_of (K : PySem.W.Frag) : Sp := fun vs H Q _ => ∃ (a : Addr) (ws : List Int) (n : Int), vs = [.ref a, .int n] ∧ SqL K H a (ws.map V.int) ∧ sizes ws ∧ ws.length ≤ 1000 ∧ 0 ≤ n ∧ n < prd ws ∧
  ∀ (p : Addr) (H' : Hp), Same H H' → H p = none → H' p = some (.lst ((setF ws n).map V.int)) → Q (.ref p) H'
theorem ok_setting_of (D : Df K mg "setting_of" s_setting_of ["wheels", "number"]) (B : Bi mg) (G_settings : Ok P w K mg base "settings" ["wheels"] 3 (sp_count K))
    (G_check_number : Ok P w K mg base "check_number" ["number", "many"] 2 sp_check_number) (G_mirrored : Ok P w K mg base "_mirrored" ["size", "place", "ahead"] 1 sp_mirrored) :
    Ok P w K mg base "setting_of" ["wheels", "number"] 4 (sp_setting_of K) := by
  refine D.ok sc_setting_of (fun vs H Q E h => ?_) (fun f cdv A outer s H vs Q E hr h => ?_)
  · obtain ⟨a, ws, n, rfl, _⟩ := h
    rfl
  · obtain ⟨a, ws, n, rfl, hW, hs, hlen, h0, h1, q⟩ := h
    refine ⟨_, (pss_cons (ps_set (i := 2) sc_setting_of.nd rfl (.inl rfl) (pe_ok G_settings hr (by decide) (pa_cons (pv 0) pa_nil)))
      (pss_cons (ps_expr (pe_ok G_check_number hr (by decide) (pa_cons (pv 1) (pa_cons (pv 2) pa_nil))))
      (pss_cons (ps_set (i := 3) sc_setting_of.nd rfl (.inl rfl) (pe_lst pa_nil))
      (pss_cons (ps_set (i := 4) sc_setting_of.nd rfl (.inl rfl) (pv 1))
      (pss_cons (ps_for PassesOwn.never rfl (pi_reversed (by rfl) B.reversed (pa_cons (pv 0) pa_nil)) (pg_name (i := 5) sc_setting_of.nd rfl (.inl rfl))
        (pss_cons (ps_asg (pe_callB call_divmodW (by rfl) B.divmod (by decide +kernel) (pa_cons (pv 4) (pa_cons (pv 5) pa_nil))) (pg_tup rfl (pgs_cons (pg_name (i := 4) sc_setting_of.nd rfl (.inl rfl)) (pgs_cons (pg_name (i := 6) sc_setting_of.nd rfl (.inl rfl)) pgs_nil))))
        (pss_one (ps_expr (pe_bm PySem.F.plainAttrs_list PySem.F.slot_list_append PySem.F.type_list_append mt_append (pv 3) (pa_cons (pe_ok G_mirrored hr (by decide) (pa_cons (pv 5) (pa_cons (pv 6) (pa_cons (pv 4) pa_nil)))) pa_nil))))))
      (pss_one (ps_ret (pe_revL (pv 3))))))))), ?_⟩
    refine ⟨_, rfl, a, ws, rfl, hW, hs, hlen, ?_⟩
    refine ⟨_, rfl, _, rfl, n, _, rfl, h0, h1, ?_⟩
    refine ⟨Nat.zero_le _, fun o no => ?_⟩
    refine ⟨_, rfl, ?_⟩
    have sO : Same H (upd H o (.lst [])) := same_upd no
    refine ⟨_, rfl, a, ws.map V.int, rfl, sO.seq hW, for_revL (K := K) (a := a) (xs := ws.map V.int)
      (fun i σ H3 => ∃ y5 y6 : Option V, σ = [some (.ref a), some (.int n), some (.int (prd ws)), some (.ref o), some (.int (ahd (ws.reverse.take i) n)), y5, y6] ∧ Same H H3 ∧ H3 o = some (.lst ((sof (ws.reverse.take i) n).map V.int)))
      ⟨none, none, rfl, sO, upd_same⟩ (fun i σ H3 ⟨_, _, _, s3, _⟩ => s3.seq hW) ?_ ?_⟩
    · rintro i x σ H3 hx ⟨y5, y6, rfl, s3, eo⟩
      rw [← List.map_reverse] at hx
      obtain ⟨sz, hsz, rfl⟩ := map_int_at hx
      have hin := hs.reverse.at hsz
      have hi : i < ws.length := by
        have := (List.getElem?_eq_some_iff.mp hsz).1
        rw [List.length_reverse] at this
        exact this
      have b2 := size_bits hin.1 hin.2
      refine ⟨_, rfl, _, rfl, _, _, rfl, ⟨by omega, PyProof.noPylong_of_log2 (Nat.lt_of_lt_of_le (PySem.Flt.log2_lt_of (by decide) b2) (by decide))⟩, fun T nT => ?_⟩
      refine ⟨T, _, rfl, SqT.of upd_same, rfl, _, _, rfl, _, _, rfl, rfl, ?_⟩
      have sT : Same H3 (upd H3 T (.tup [.int (ahd (ws.reverse.take i) n / sz), .int (ahd (ws.reverse.take i) n % sz)])) := same_upd nT
      have eoT := sT _ _ eo
      refine ⟨_, rfl, .inl ⟨rfl, _, SqL.of eoT⟩, _, rfl, _, rfl, _, rfl, _, _, _, rfl, o, _, _, rfl, rfl, eoT, ?_, ?_⟩
      · rw [List.length_map, sof_len, List.length_take]
        exact lt_line (by omega)
      · refine ⟨some (.int sz), some (.int (ahd (ws.reverse.take i) n % sz)), ?_, fun c u e => ?_, ?_⟩
        · rw [take_more hsz, ahd_snoc]
          rfl
        · rw [upd_ne (ne_of_none e no)]
          exact (s3.trans sT) _ _ e
        · rw [upd_same, take_more hsz, sof_snoc, List.map_append]
          rfl
    · rintro σ H3 ⟨y5, y6, rfl, s3, eo⟩
      rw [List.length_map, ← List.length_reverse, List.take_length] at eo
      refine ⟨_, rfl, o, _, rfl, SqL.of eo, fun p np => ?_⟩
      refine q p _ (s3.trans (same_upd np)) (s3.free np) ?_
      rw [upd_same, ← List.map_reverse]
      rfl
theorem nofR_snoc {ws st : List Int} {i : Nat} {s p : Int} (e1 : ws[i]? = some s) (e2 : st[i]? = some p) :
    nofR (ws.take (i + 1)).reverse (st.take (i + 1)).reverse = nofR (ws.take i).reverse (st.take i).reverse * s + mir s p (nofR (ws.take i).reverse (st.take i).reverse) := by
  rw [take_more e1, take_more e2, List.reverse_append, List.reverse_append]
  rfl
theorem okS_take : ∀ {ws st : List Int} (i : Nat), okS ws st → okS (ws.take i) (st.take i)
  | [], [], i, _ => by simp [okS]
  | [], _ :: _, _, h => h.elim
  | _ :: _, [], _, h => h.elim
  | _ :: _, _ :: _, 0, _ => trivial
  | _ :: _, _ :: _, i + 1, h => ⟨h.1, h.2.1, okS_take i h.2.2⟩
def sp_number_of (K : PySem.W.Frag) : Sp := fun vs H Q _ => ∃ (a b : Addr) (ws st : List Int), vs = [.ref a, .ref b] ∧ SqL K H a (ws.map V.int) ∧ SqL K H b (st.map V.int) ∧ sizes ws ∧ ws.length ≤ 1000 ∧ okS ws st ∧
  ∀ H' : Hp, Same H H' → Q (.int (numF ws st)) H'
theorem ok_number_of (D : Df K mg "number_of" s_number_of ["wheels", "setting"]) (B : Bi mg) (G_check_wheels : Ok P w K mg base "check_wheels" ["wheels"] 2 (sp_check_wheels K))
    (G_check_setting : Ok P w K mg base "check_setting" ["wheels", "setting"] 3 (sp_check_setting K)) (G_mirrored : Ok P w K mg base "_mirrored" ["size", "place", "ahead"] 1 sp_mirrored) :
    Ok P w K mg base "number_of" ["wheels", "setting"] 4 (sp_number_of K) := by
  refine D.ok sc_number_of (fun vs H Q E h => ?_) (fun f cdv A outer s H vs Q E hr h => ?_)
  · obtain ⟨a, b, ws, st, rfl, _⟩ := h
    rfl
  · obtain ⟨a, b, ws, st, rfl, hW, hS, hs, hlen, hok, q⟩ := h
    have el := okS_len hok
    refine ⟨_, (pss_cons (ps_expr (pe_ok G_check_wheels hr (by decide) (pa_cons (pv 0) pa_nil)))
      (pss_cons (ps_expr (pe_ok G_check_setting hr (by decide) (pa_cons (pv 0) (pa_cons (pv 1) pa_nil))))
      (pss_cons (ps_set (i := 2) sc_number_of.nd rfl (.inl rfl) pe_int)
      (pss_cons (ps_for PassesOwn.never rfl (pi_zip (by rfl) B.zip (pa_cons (pv 0) (pa_cons (pv 1) pa_nil))) (pg_tup rfl (pgs_cons (pg_name (i := 3) sc_number_of.nd rfl (.inl rfl)) (pgs_cons (pg_name (i := 4) sc_number_of.nd rfl (.inl rfl)) pgs_nil)))
        (pss_one (ps_set (i := 2) sc_number_of.nd rfl (.inl rfl) (pe_op op_add (pe_op op_mulX (pv 2) (pv 3)) (pe_ok G_mirrored hr (by decide) (pa_cons (pv 3) (pa_cons (pv 4) (pa_cons (pv 2) pa_nil))))))))
      (pss_one (ps_ret (pv 2))))))), ?_⟩
    refine ⟨_, rfl, a, ws, rfl, hW, hs.ones, ?_⟩
    refine ⟨_, rfl, _, rfl, a, b, ws, st, rfl, hW, hS, hok, fun H1 s1 => ?_⟩
    refine ⟨_, rfl, _, rfl, a, b, _, _, rfl, s1.seq hW, s1.seq hS, RZ.for_zipL (K := K) (a := a) (b := b) (by rw [List.length_map, List.length_map, el])
      (fun i σ H3 => ∃ y3 y4 : Option V, σ = [some (.ref a), some (.ref b), some (.int (nofR (ws.take i).reverse (st.take i).reverse)), y3, y4] ∧ Same H H3)
      ⟨none, none, rfl, s1⟩ (fun i σ H3 ⟨_, _, _, s3⟩ => ⟨s3.seq hW, s3.seq hS⟩) ?_ ?_⟩
    · rintro i x y T σ H3 hx hy ⟨y3, y4, rfl, s3⟩ nT
      obtain ⟨sz, hsz, rfl⟩ := map_int_at hx
      obtain ⟨p, hp, rfl⟩ := map_int_at hy
      have hi : i < ws.length := (List.getElem?_eq_some_iff.mp hsz).1
      have hn := nof_in (okS_reverse (okS_take i hok))
      have b1 : (nofR (ws.take i).reverse (st.take i).reverse).natAbs < 2 ^ (200 * (ws.take i).reverse.length + 1) := wide_le hn.1 (Int.le_of_lt hn.2) (prd_bits (hs.take i).reverse)
      have b2 := size_bits (hs.at hsz).1 (hs.at hsz).2
      refine ⟨T, [.int sz, .int p], rfl, SqT.of upd_same, rfl, .int sz, [.int p], rfl, .int p, [], rfl, rfl, ?_⟩
      refine ⟨_, rfl, _, rfl, _, _, rfl, rfl, mulx_ok b1 b2 ?_, _, rfl, _, rfl, _, rfl, _, _, _, rfl, _, _, rfl, rfl, some (.int sz), some (.int p), ?_, s3.trans (same_upd nT)⟩
      · rw [List.length_reverse, List.length_take]
        omega
      · rw [nofR_snoc hsz hp]
        rfl
    · rintro σ H3 ⟨y3, y4, rfl, s3⟩
      refine ⟨_, rfl, ?_⟩
      rw [List.length_map, List.take_length, ← el, List.take_length]
      exact q H3 s3
end
end Ww
namespace Ww
open PySem PySem.Spec PyProof.Rows L2
section
variable {P : Program} {w : World} {K : PySem.W.Frag} {mg : Str → Option Value} {base : Heap}
theorem setF_zero {ws : List Int} (h : ones ws) : setF ws 0 = List.replicate ws.length 0 := by
  unfold setF
  rw [sof_zero (fun s hs => h s (List.mem_reverse.mp hs)), List.length_reverse, List.reverse_replicate]
theorem setF_ok {ws : List Int} (h : ones ws) (n : Int) : okS ws (setF ws n) := by
  have z := okS_reverse (sof_ok (l := ws.reverse) (n := n) fun s hs => h s (List.mem_reverse.mp hs))
  rw [List.reverse_reverse] at z
  exact z
theorem numF_setF {ws : List Int} (h : ones ws) {n : Int} (h0 : 0 ≤ n) (h1 : n < prd ws) : numF ws (setF ws n) = n := by
  unfold numF setF
  rw [List.reverse_reverse]
  exact nof_sof (fun s hs => h s (List.mem_reverse.mp hs)) h0 (by rw [prd_reverse]; exact h1)
theorem setF_numF {ws st : List Int} (h : okS ws st) : setF ws (numF ws st) = st := by
  unfold numF setF
  rw [sof_nof (okS_reverse h), List.reverse_reverse]
theorem numF_in {ws st : List Int} (h : okS ws st) : 0 ≤ numF ws st ∧ numF ws st < prd ws := by
  have z := nof_in (okS_reverse h)
  rw [prd_reverse] at z
  exact z
theorem setF_len (ws : List Int) (n : Int) : (setF ws n).length = ws.length := by
  unfold setF
  rw [List.length_reverse, sof_len, List.length_reverse]
theorem setF_step {ws : List Int} (h : ones ws) {n : Int} (h0 : 0 ≤ n) (h1 : n + 1 < prd ws) : dist (setF ws n) (setF ws (n + 1)) = 1 := by
  unfold setF
  rw [dist_reverse (by rw [sof_len, sof_len])]
  exact sof_step (fun s hs => h s (List.mem_reverse.mp hs)) h0 (by rw [prd_reverse]; exact h1)
def sp_law (K : PySem.W.Frag) : Sp := fun vs H Q _ => ∃ (a : Addr) (ns : List Int), vs = [.ref a] ∧ SqL K H a (ns.map V.int) ∧ ns.length ≤ 63 ∧ ∀ H', Q (.bl true) H'
theorem ok_law {f0 : Addr} {fd0 : FuncData} (D : At K mg "law" s_law ["_law_script"] f0 fd0) (B : Bi mg) (G_law_wheels : Ok P w K mg base "_law_wheels" ["_law_script"] 2 (sp_wheels K)) (G_law_count : Ok P w K mg base "_law_count" ["_law_wheels_here"] 1 (sp_count K))
    (G_settings : Ok P w K mg base "settings" ["wheels"] 3 (sp_count K)) (G_law_whole : Ok P w K mg base "_law_whole" ["_law_number"] 1 sp_whole) (G_setting_of : Ok P w K mg base "setting_of" ["wheels", "number"] 4 (sp_setting_of K))
    (G_number_of : Ok P w K mg base "number_of" ["wheels", "setting"] 4 (sp_number_of K)) (G_law_far : Ok P w K mg base "_law_far" ["_law_script", "_law_by", "_law_most"] 2 (sp_far K))
    (G_law_is_setting : Ok P w K mg base "_law_is_setting" ["_law_wheels_here", "_law_found"] 1 (sp_is_setting K)) (G_law_step : Ok P w K mg base "_law_step" ["_law_one", "_law_other"] 1 (sp_step K))
    (G_law_setting : Ok P w K mg base "_law_setting" ["_law_script", "_law_wheels_here", "_law_by"] 2 (sp_setting K)) : FnOk P w K mg base CX0 5 f0 fd0 ["_law_script"] (sp_law K) := by
  refine D.ok sc_law (fun vs H Q E h => ?_) (fun cdv A outer s H vs Q E hr h => ?_)
  · obtain ⟨a, ns, rfl, _⟩ := h
    rfl
  · obtain ⟨a, ns, rfl, hS, hlen, q⟩ := h
    refine ⟨_, (pss_cons (ps_set (i := 1) sc_law.nd rfl (.inl rfl) (pe_ok G_law_wheels hr (by decide) (pa_cons (pv 0) pa_nil)))
      (pss_cons (ps_set (i := 2) sc_law.nd rfl (.inr rfl) (pe_ok G_law_count hr (by decide) (pa_cons (pv 1) pa_nil)))
      (pss_cons (ps_set (i := 3) sc_law.nd rfl (.inl rfl) (pe_callTy (listK K) (by rfl) B.list boot_list (pa_cons (pv 1) pa_nil)))
      (pss_cons (ps_set (i := 4) sc_law.nd rfl (.inl rfl) (pe_ok G_settings hr (by decide) (pa_cons (pv 3) pa_nil)))
      (pss_cons (ps_if (PW.pt (pw_or (pt_cmpR op_ne (pv 4) (pv 2) (nomark _)) (pw_or (pt_not (pt_val (pe_ok G_law_whole hr (by decide) (pa_cons (pv 4) pa_nil)))) (pw_or1 (pt_cmpR (neIK K hr.units) (pe_ok G_setting_of hr (by decide) (pa_cons (pv 3) (pa_cons pe_int pa_nil))) (pe_op op_rep (pe_lst (pa_cons pe_int pa_nil)) (pe_callB (lenK K) (by rfl) B.len PySem.boot_len (pa_cons (pv 1) pa_nil))) (nomark _))))))
        (pss_one (ps_ret pe_bl))
        pss_nil)
      (pss_cons (ps_set (i := 5) sc_law.nd rfl (.inl rfl) (pe_op op_cat (pe_listRg rfl (by rfl) B.list (prg_1 (by rfl) B.range (pe_callB (call_min2 rfl) (by rfl) B.min (by decide +kernel) (pa_cons (pv 2) (pa_cons pe_int pa_nil))))) (pe_lst (pa_cons (pe_op op_sub (pv 2) pe_int) (pa_cons (pe_op op_fdiv (pv 2) pe_int) (pa_cons (pe_op op_sub (pe_op op_fdiv (pv 2) pe_int) pe_int) (pa_cons (pe_op op_sub (pv 2) pe_int) pa_nil)))))))
      (pss_cons (ps_set (i := 5) sc_law.nd rfl (.inl rfl) (pe_op op_cat (pv 5) (pe_lc (own := [("_law_by", 6)]) (g := gName 6) (tt := tYes) rfl sc_law.nd (pi_tup (pe_tup (pa_cons pe_int (pa_cons pe_int (pa_cons pe_int pa_nil))))) (blkOk_by (own := [("_law_by", 6)]) (N := ["_law_script", "_law_wheels_here", "_law_whole_here", "_law_handed", "_law_told", "_law_numbers", "_law_by", "_law_number", "_law_found", "_law_kept", "_law_setting_here", "_law_asked"]) (sc := defScope s_law) (by decide +kernel)) (fun _ _ _ _ _ => pg_name (i := 6) sc_law.nd rfl (.inl rfl)) (fun _ _ _ _ _ => pts_nil) (fun _ _ _ _ _ => (pe_ok G_law_far hr (by decide) (pa_cons (pv 0) (pa_cons (pv 6) (pa_cons (pv 2) pa_nil))))))))
      (pss_cons (ps_for PassesOwn.never rfl (pi_list (pv 5)) (pg_name (i := 7) sc_law.nd rfl (.inl rfl))
        (pss_one (ps_if (pt_chain op_le op_lt pe_int (pv 7) (pv 2))
          (pss_cons (ps_set (i := 8) sc_law.nd rfl (.inl rfl) (pe_ok G_setting_of hr (by decide) (pa_cons (pv 3) (pa_cons (pv 7) pa_nil))))
          (pss_cons (ps_if (PW.pt (pw_or (pt_not (pt_val (pe_ok G_law_is_setting hr (by decide) (pa_cons (pv 1) (pa_cons (pv 8) pa_nil))))) (pw_or (pt_cmpR op_ne (pe_ok G_number_of hr (by decide) (pa_cons (pv 3) (pa_cons (pv 8) pa_nil))) (pv 7) (nomark _)) (pw_or1 (pt_cmpR (neIK K hr.units) (pv 3) (pv 1) (nomark _))))))
            (pss_one (ps_ret pe_bl))
            pss_nil)
          (pss_cons (ps_if (PW.pt (pw_and (pt_cmpR op_lt (pe_op op_add (pv 7) pe_int) (pv 2) (nomark _)) (pw_and1 (pt_not (pt_val (pe_ok G_law_step hr (by decide) (pa_cons (pv 8) (pa_cons (pe_ok G_setting_of hr (by decide) (pa_cons (pv 3) (pa_cons (pe_op op_add (pv 7) pe_int) pa_nil))) pa_nil))))))))
            (pss_one (ps_ret pe_bl))
            pss_nil)
          (pss_cons (ps_set (i := 9) sc_law.nd rfl (.inl rfl) (pe_callTy (listK K) (by rfl) B.list boot_list (pa_cons (pv 8) pa_nil)))
          (pss_cons (ps_expr (pe_bm PySem.F.plainAttrs_list PySem.F.slot_list_append PySem.F.type_list_append mt_append (pv 8) (pa_cons pe_int pa_nil)))
          (pss_one (ps_if (pt_cmpR (neIK K hr.units) (pe_ok G_setting_of hr (by decide) (pa_cons (pv 3) (pa_cons (pv 7) pa_nil))) (pv 9) (nomark _))
            (pss_one (ps_ret pe_bl))
            pss_nil)))))))
          pss_nil)))
      (pss_cons (ps_for PassesOwn.never rfl (pi_tup (pe_tup (pa_cons pe_int (pa_cons pe_int (pa_cons pe_int pa_nil))))) (pg_name (i := 6) sc_law.nd rfl (.inl rfl))
        (pss_cons (ps_set (i := 10) sc_law.nd rfl (.inl rfl) (pe_ok G_law_setting hr (by decide) (pa_cons (pv 0) (pa_cons (pv 1) (pa_cons (pv 6) pa_nil)))))
        (pss_cons (ps_set (i := 11) sc_law.nd rfl (.inl rfl) (pe_callTy (listK K) (by rfl) B.list boot_list (pa_cons (pv 10) pa_nil)))
        (pss_cons (ps_set (i := 7) sc_law.nd rfl (.inl rfl) (pe_ok G_number_of hr (by decide) (pa_cons (pv 3) (pa_cons (pv 11) pa_nil))))
        (pss_cons (ps_if (PW.pt (pw_or (pt_not (pt_val (pe_ok G_law_whole hr (by decide) (pa_cons (pv 7) pa_nil)))) (pw_or (pt_not (pt_chain op_le op_lt pe_int (pv 7) (pv 2))) (pw_or1 (pt_cmpR (neIK K hr.units) (pv 11) (pv 10) (nomark _))))))
          (pss_one (ps_ret pe_bl))
          pss_nil)
        (pss_one (ps_if (pt_cmpR (neIK K hr.units) (pe_ok G_setting_of hr (by decide) (pa_cons (pv 3) (pa_cons (pv 7) pa_nil))) (pv 10) (nomark _))
          (pss_one (ps_ret pe_bl))
          pss_nil)))))))
      (pss_cons (ps_if (pt_cmpR (neIK K hr.units) (pv 3) (pv 1) (nomark _))
        (pss_one (ps_ret pe_bl))
        pss_nil)
      (pss_cons (ps_expr (pe_bm0 PySem.F.plainAttrs_list PySem.F.slot_list_reverse PySem.F.type_list_reverse mt_reverse (pv 3)))
      (pss_cons (ps_set (i := 8) sc_law.nd rfl (.inl rfl) (pe_ok G_setting_of hr (by decide) (pa_cons (pv 3) (pa_cons (pe_op op_fdiv (pv 2) pe_int) pa_nil))))
      (pss_cons (ps_if (PW.pt (pw_or (pt_cmpR op_ne (pe_ok G_settings hr (by decide) (pa_cons (pv 3) pa_nil)) (pv 2) (nomark _)) (pw_or1 (pt_cmpR (neIK K hr.units) (pv 8) (pe_ok G_setting_of hr (by decide) (pa_cons (pe_revL (pv 1)) (pa_cons (pe_op op_fdiv (pv 2) pe_int) pa_nil))) (nomark _)))))
        (pss_one (ps_ret pe_bl))
        pss_nil)
      (pss_one (ps_ret (pe_and (pe_cmpR op_eq (pe_ok G_number_of hr (by decide) (pa_cons (pe_lst pa_nil) (pa_cons (pe_lst pa_nil) pa_nil))) pe_int (nomark _)) (pe_one (pe_cmpR (eqIK K hr.units) (pe_ok G_setting_of hr (by decide) (pa_cons (pe_lst pa_nil) (pa_cons pe_int pa_nil))) (pe_lst pa_nil) (nomark _))))))))))))))))))), ?_⟩
    refine ⟨_, rfl, a, ns, rfl, hS, hlen, fun ws b H1 hs ew s1 nb eb => ?_⟩
    have hl : ws.length ≤ 1000 := by omega
    have ho := hs.ones
    have hW := prd_pos ho
    refine ⟨_, rfl, b, ws, rfl, SqL.of eb, hs, hl, ?_⟩
    refine ⟨_, rfl, b, _, rfl, .inl (SqL.of eb), fun hd nh => ?_⟩
    have s2 : Same H1 (upd H1 hd (.lst (ws.map V.int))) := same_upd nh
    have eh2 : (upd H1 hd (.lst (ws.map V.int))) hd = some (.lst (ws.map V.int)) := upd_same
    generalize upd H1 hd (.lst (ws.map V.int)) = H2 at s2 eh2 ⊢
    have eb2 := s2 _ _ eb
    refine ⟨_, rfl, hd, ws, rfl, SqL.of eh2, hs, hl, ?_⟩
    refine ⟨_, rfl, _, rfl, rfl, _, rfl, ?_⟩
    rw [decide_eq_true (rfl : V.int (prd ws) = V.int (prd ws))]
    refine ⟨_, rfl, _, rfl, _, rfl, ?_⟩
    refine ⟨_, rfl, hd, ws, 0, rfl, SqL.of eh2, hs, hl, Int.le_refl 0, (by omega), fun p3 H3 s3 n3 e3 => ?_⟩
    refine ⟨(by show 1 ≤ sizeLine; decide), fun z nz => ?_⟩
    have sz : Same H3 (upd H3 z (.lst [.int 0])) := same_upd nz
    have ez : (upd H3 z (.lst [.int 0])) z = some (.lst [.int 0]) := upd_same
    generalize upd H3 z (.lst [.int 0]) = H4 at sz ez ⊢
    have s24 := s3.trans sz
    refine ⟨_, rfl, b, _, rfl, .inl (SqL.of (s24 _ _ eb2)), z, _, _, rfl, rfl, ez, (by omega), (by rw [List.length_map]; omega), ?_, fun r nr => ?_⟩
    · rw [List.length_map, Int.toNat_natCast]
      exact le_line (by show 1 * ws.length ≤ 100000; omega)
    have sr : Same H4 (upd H4 r (.lst (List.replicate ((ws.map V.int).length : Int).toNat [V.int 0]).flatten)) := same_upd nr
    have er : (upd H4 r (.lst (List.replicate ((ws.map V.int).length : Int).toNat [V.int 0]).flatten)) r = some (.lst ((List.replicate ws.length 0).map V.int)) := by
      rw [upd_same, List.length_map, Int.toNat_natCast, rep_flat]
    generalize upd H4 r (.lst (List.replicate ((ws.map V.int).length : Int).toNat [V.int 0]).flatten) = H5 at sr er ⊢
    refine ⟨p3, r, setF ws 0, List.replicate ws.length 0, rfl, rfl, SqL.of (sr _ _ (sz _ _ e3)), SqL.of er, _, rfl, ?_⟩
    rw [setF_zero ho, decide_eq_true rfl]
    have s25 : Same H2 H5 := s24.trans sr
    have hS5 : SqL K H5 a (ns.map V.int) := ((s1.trans s2).trans s25).seq hS
    have eb5 := s25 _ _ eb2
    have eh5 := s25 _ _ eh2
    -- the numbers
    refine ⟨_, rfl, _, _, rfl, _, rfl, ⟨by decide, by decide, ?_, ?_, ?_⟩, fun q1 n1 => ?_⟩
    · split <;> omega
    · split <;> omega
    · split <;> omega
    have t1 : Same H5 (upd H5 q1 (.lst (rgV 0 (if 9 < prd ws then 9 else prd ws)))) := same_upd n1
    have f1 : ∃ ms : List Int, ms.length ≤ 9 ∧ (upd H5 q1 (.lst (rgV 0 (if 9 < prd ws then 9 else prd ws)))) q1 = some (.lst (ms.map V.int)) := by
      obtain ⟨ms, e, l⟩ := rgV_ints 0 (if 9 < prd ws then 9 else prd ws)
      refine ⟨ms, ?_, by rw [upd_same, e]⟩
      rw [l]
      split <;> omega
    generalize upd H5 q1 (.lst (rgV 0 (if 9 < prd ws then 9 else prd ws))) = H6 at t1 f1 ⊢
    obtain ⟨ms, hms, f1⟩ := f1
    refine ⟨_, rfl, _, _, rfl, rfl, _, rfl, _, _, rfl, rfl, ⟨by decide, by decide⟩, _, rfl, _, _, rfl, rfl, ⟨by decide, by decide⟩, _, _, rfl, rfl, _, rfl, _, _, rfl, rfl, (by show 4 ≤ sizeLine; decide), fun q2 n2 => ?_⟩
    have t2 : Same H6 (upd H6 q2 (.lst [.int (prd ws - 1), .int (prd ws / 2), .int (prd ws / 2 - 1), .int (prd ws - 2)])) := same_upd n2
    have f2 : (upd H6 q2 (.lst [.int (prd ws - 1), .int (prd ws / 2), .int (prd ws / 2 - 1), .int (prd ws - 2)])) q2 = some (.lst ([prd ws - 1, prd ws / 2, prd ws / 2 - 1, prd ws - 2].map V.int)) := upd_same
    generalize upd H6 q2 (.lst [.int (prd ws - 1), .int (prd ws / 2), .int (prd ws / 2 - 1), .int (prd ws - 2)]) = H7 at t2 f2 ⊢
    have f1' := t2 _ _ f1
    refine ⟨q1, q2, _, _, rfl, rfl, f1', f2, ?_, fun q3 n3 => ?_⟩
    · rw [List.length_map]
      exact le_line (by show ms.length + 4 ≤ 100000; omega)
    have t3 : Same H7 (upd H7 q3 (.lst (ms.map V.int ++ [prd ws - 1, prd ws / 2, prd ws / 2 - 1, prd ws - 2].map V.int))) := same_upd n3
    have f3 : ∃ mt : List Int, mt.length ≤ 13 ∧ (upd H7 q3 (.lst (ms.map V.int ++ [prd ws - 1, prd ws / 2, prd ws / 2 - 1, prd ws - 2].map V.int))) q3 = some (.lst (mt.map V.int)) := by
      refine ⟨ms ++ [prd ws - 1, prd ws / 2, prd ws / 2 - 1, prd ws - 2], ?_, by rw [upd_same, List.map_append]⟩
      rw [List.length_append]
      show ms.length + 4 ≤ 13
      omega
    generalize upd H7 q3 (.lst (ms.map V.int ++ [prd ws - 1, prd ws / 2, prd ws / 2 - 1, prd ws - 2].map V.int)) = H8 at t3 f3 ⊢
    clear f1 f1' f2 hms ms
    obtain ⟨ms, hms, f3⟩ := f3
    have s58 : Same H5 H8 := (t1.trans t2).trans t3
    -- the drawn ones
    refine ⟨_, rfl, (by show 3 ≤ sizeLine; decide), fun q4 n4 => ?_⟩
    have t4 : Same H8 (upd H8 q4 (.tup [.int 1, .int 4, .int 7])) := same_upd n4
    have f4 : (upd H8 q4 (.tup [.int 1, .int 4, .int 7])) q4 = some (.tup (([1, 4, 7] : List Int).map V.int)) := upd_same
    generalize upd H8 q4 (.tup [.int 1, .int 4, .int 7]) = H9 at t4 f4 ⊢
    refine ⟨q4, rfl, ⟨_, SqT.of f4⟩, fun D1 nD => ?_⟩
    refine lc_tup (K := K) (a := q4) (xs := ([1, 4, 7] : List Int).map V.int) (fun i H => ∃ zs : List Int, zs.length = i ∧ Same H9 H ∧ H D1 = some (.lst (zs.map V.int))) ⟨[], rfl, same_upd nD, upd_same⟩ (fun i H _ ⟨_, _, sm, _⟩ => SqT.of (sm _ _ f4)) ?_ ?_
    · rintro i x Hi hx ⟨zs, ez, sm, eD⟩
      obtain ⟨z, hz, rfl⟩ := map_int_at hx
      have hi : i < 3 := (List.getElem?_eq_some_iff.mp hz).1
      refine ⟨rfl, _, rfl, _, rfl, _, rfl, a, ns, z, prd ws, rfl, ((s58.trans t4).trans sm).seq hS5, (by omega), (by omega), fun y Hj _ _ sj => ?_⟩
      refine ⟨_, sj _ _ eD, ?_, zs ++ [y], (by rw [List.length_append, ez]; rfl), fun c u e => ?_, ?_⟩
      · rw [List.length_map]
        exact lt_line (by omega)
      · rw [upd_ne (ne_of_none e nD)]
        exact (sm.trans sj) _ _ e
      · rw [upd_same, List.map_append]
        rfl
    rintro H10 ⟨zs, ezs, s910, eD⟩
    have s510 : Same H5 H10 := (s58.trans t4).trans s910
    refine ⟨q3, D1, _, _, rfl, rfl, (t4.trans s910) _ _ f3, eD, ?_, fun q5 n5 => ?_⟩
    · rw [List.length_map, List.length_map, ezs]
      exact le_line (by show ms.length + 3 ≤ 100000; omega)
    have t5 : Same H10 (upd H10 q5 (.lst (ms.map V.int ++ zs.map V.int))) := same_upd n5
    have f5 : ∃ mt : List Int, (upd H10 q5 (.lst (ms.map V.int ++ zs.map V.int))) q5 = some (.lst (mt.map V.int)) := ⟨ms ++ zs, by rw [upd_same, List.map_append]⟩
    generalize upd H10 q5 (.lst (ms.map V.int ++ zs.map V.int)) = H11 at t5 f5 ⊢
    clear eD ezs zs f3 hms ms
    obtain ⟨ms, f5⟩ := f5
    have sA : Same H5 H11 := s510.trans t5
    have ebA := sA _ _ eb5
    have ehA := sA _ _ eh5
    have hSA := sA.seq hS5
    -- the loop over the numbers
    refine ⟨_, rfl, q5, rfl, ⟨_, SqL.of f5⟩, for_list (K := K) (a := q5) (xs := ms.map V.int)
      (fun i σ H => ∃ y7 y8 y9 : Option V, σ = [some (.ref a), some (.ref b), some (.int (prd ws)), some (.ref hd), some (.int (prd ws)), some (.ref q5), none, y7, y8, y9, none, none] ∧ Same H11 H)
      ⟨none, none, none, rfl, Same.refl _⟩ (fun i σ H _ ⟨_, _, _, _, sm⟩ => SqL.of (sm _ _ f5)) ?_ ?_⟩
    · rintro i x σ Hi hx ⟨y7, y8, y9, rfl, sm⟩
      obtain ⟨n, hn, rfl⟩ := map_int_at hx
      have ebi := sm _ _ ebA
      have ehi := sm _ _ ehA
      refine ⟨_, rfl, _, _, rfl, rfl, _, rfl, ite2 (fun c0 => ?_) (fun _ => ⟨_, rfl, _, _, _, rfl, sm⟩)⟩
      have h0 := of_decide_eq_true c0
      refine ⟨_, rfl, _, _, rfl, rfl, _, rfl, ite2 (fun c1 => ?_) (fun _ => ⟨_, _, _, rfl, sm⟩)⟩
      have h1 := of_decide_eq_true c1
      refine ⟨_, rfl, _, rfl, hd, ws, n, rfl, SqL.of ehi, hs, hl, h0, h1, fun p Hj sj np ep => ?_⟩
      have hok := setF_ok ho n
      have ebj := sj _ _ ebi
      have ehj := sj _ _ ehi
      refine ⟨_, rfl, _, rfl, b, p, ws, setF ws n, rfl, SqL.of ebj, SqL.of ep, hl, (by rw [setF_len]; exact hl), fun Hk sk => ?_⟩
      rw [isB_of hok]
      refine ⟨_, rfl, ?_⟩
      refine ⟨_, rfl, _, rfl, hd, p, ws, setF ws n, rfl, SqL.of (sk _ _ ehj), SqL.of (sk _ _ ep), hs, hl, hok, fun Hl sl => ?_⟩
      rw [numF_setF ho h0 h1]
      refine ⟨_, rfl, rfl, _, rfl, ?_⟩
      rw [decide_eq_true (rfl : V.int n = V.int n)]
      have sjl := sk.trans sl
      refine ⟨_, rfl, _, rfl, hd, b, ws, ws, rfl, rfl, SqL.of (sjl _ _ ehj), SqL.of (sjl _ _ ebj), _, rfl, ?_⟩
      rw [decide_eq_true rfl]
      -- the next one, the copy, the change, the same again
      refine ⟨_, rfl, _, _, rfl, rfl, _, rfl, _, _, rfl, rfl, _, rfl, ite2 (fun c2 => ?_) (fun _ => ?_)⟩
      rotate_left
      · have sm2 := Same.refl Hl
        have epm := sm2 _ _ (sjl _ _ ep)
        have ehm := sm2 _ _ (sjl _ _ ehj)
        refine ⟨_, rfl, p, _, rfl, .inl (SqL.of epm), fun kp nk => ?_⟩
        have npk : p ≠ kp := ne_of_none epm nk
        have hdp : hd ≠ p := ne_of_none ehi np
        have hdk : hd ≠ kp := ne_of_none ehm nk
        refine ⟨_, rfl, .inl ⟨rfl, _, SqL.of ((same_upd nk) _ _ epm)⟩, p, _, _, rfl, rfl, (same_upd nk) _ _ epm, ?_, ?_⟩
        · rw [List.length_map, setF_len]
          exact lt_line (by omega)
        refine ⟨_, rfl, _, rfl, hd, ws, n, rfl, SqL.of ?_, hs, hl, h0, h1, fun p4 Ho so np4 ep4 => ?_⟩
        · rw [upd_ne hdp, upd_ne hdk]
          exact ehm
        refine ⟨_, rfl, p4, kp, setF ws n, setF ws n, rfl, rfl, SqL.of ep4, SqL.of (so kp (.lst ((setF ws n).map V.int)) ?_), _, rfl, ?_⟩
        · rw [upd_ne npk.symm, upd_same]
        rw [decide_eq_true rfl]
        refine ⟨_, _, _, rfl, Same.trans (Same.put (((sm.trans sj).trans (sjl.trans sm2)).trans (same_upd nk)) (sm.free np)) so⟩
      · have h2 := of_decide_eq_true c2
        refine ⟨_, rfl, _, rfl, _, rfl, _, _, rfl, rfl, hd, ws, n + 1, rfl, SqL.of (sjl _ _ ehj), hs, hl, (by omega), h2, fun p2 Hm sm1 np2 ep2 => ?_⟩
        refine ⟨p, p2, setF ws n, setF ws (n + 1), rfl, SqL.of (sm1 _ _ (sjl _ _ ep)), SqL.of ep2, (by rw [setF_len, setF_len]), (by rw [setF_len]; exact hl), fun Hn sn => ?_⟩
        rw [decide_eq_true (setF_step ho h0 h2)]
        refine ⟨_, rfl, ?_⟩
        have sm2 := sm1.trans sn
        have epm := sm2 _ _ (sjl _ _ ep)
        have ehm := sm2 _ _ (sjl _ _ ehj)
        refine ⟨_, rfl, p, _, rfl, .inl (SqL.of epm), fun kp nk => ?_⟩
        have npk : p ≠ kp := ne_of_none epm nk
        have hdp : hd ≠ p := ne_of_none ehi np
        have hdk : hd ≠ kp := ne_of_none ehm nk
        refine ⟨_, rfl, .inl ⟨rfl, _, SqL.of ((same_upd nk) _ _ epm)⟩, p, _, _, rfl, rfl, (same_upd nk) _ _ epm, ?_, ?_⟩
        · rw [List.length_map, setF_len]
          exact lt_line (by omega)
        refine ⟨_, rfl, _, rfl, hd, ws, n, rfl, SqL.of ?_, hs, hl, h0, h1, fun p4 Ho so np4 ep4 => ?_⟩
        · rw [upd_ne hdp, upd_ne hdk]
          exact ehm
        refine ⟨_, rfl, p4, kp, setF ws n, setF ws n, rfl, rfl, SqL.of ep4, SqL.of (so kp (.lst ((setF ws n).map V.int)) ?_), _, rfl, ?_⟩
        · rw [upd_ne npk.symm, upd_same]
        rw [decide_eq_true rfl]
        refine ⟨_, _, _, rfl, Same.trans (Same.put (((sm.trans sj).trans (sjl.trans sm2)).trans (same_upd nk)) (sm.free np)) so⟩
    rintro σ HB ⟨y7, y8, y9, rfl, sB⟩
    have ebB := sB _ _ ebA
    have ehB := sB _ _ ehA
    have hSB := sB.seq hSA
    refine ⟨(by show 3 ≤ sizeLine; decide), fun q6 n6 => ?_⟩
    have t6 : Same HB (upd HB q6 (.tup [.int 1, .int 3, .int 5])) := same_upd n6
    have f6 : (upd HB q6 (.tup [.int 1, .int 3, .int 5])) q6 = some (.tup (([1, 3, 5] : List Int).map V.int)) := upd_same
    generalize upd HB q6 (.tup [.int 1, .int 3, .int 5]) = H12 at t6 f6 ⊢
    have eb12 := t6 _ _ ebB
    have eh12 := t6 _ _ ehB
    refine ⟨q6, rfl, ⟨_, SqT.of f6⟩, for_tup (K := K) (a := q6) (xs := ([1, 3, 5] : List Int).map V.int)
      (fun i σ H => ∃ y6 y7 y8 y9 y10 y11 : Option V, σ = [some (.ref a), some (.ref b), some (.int (prd ws)), some (.ref hd), some (.int (prd ws)), some (.ref q5), y6, y7, y8, y9, y10, y11] ∧ Same H12 H)
      ⟨none, y7, y8, y9, none, none, rfl, Same.refl _⟩ (fun i σ H _ ⟨_, _, _, _, _, _, _, sm⟩ => SqT.of (sm _ _ f6)) ?_ ?_⟩
    · rintro i x σ Hi hx ⟨y6, y7, y8, y9, y10, y11, rfl, sm⟩
      obtain ⟨z, hz, rfl⟩ := map_int_at hx
      have ebi := sm _ _ eb12
      have ehi := sm _ _ eh12
      refine ⟨_, rfl, _, rfl, _, rfl, a, b, ns, ws, z, rfl, (t6.trans sm).seq hSB, SqL.of ebi, (by omega), hl, ho, fun st p Hj hok sj np ep => ?_⟩
      refine ⟨_, rfl, p, _, rfl, .inl (SqL.of ep), fun k nk => ?_⟩
      have sk : Same Hj (upd Hj k (.lst (st.map V.int))) := same_upd nk
      have ek : (upd Hj k (.lst (st.map V.int))) k = some (.lst (st.map V.int)) := upd_same
      generalize upd Hj k (.lst (st.map V.int)) = Hk at sk ek ⊢
      have sik := sj.trans sk
      refine ⟨_, rfl, _, rfl, hd, k, ws, st, rfl, SqL.of (sik _ _ ehi), SqL.of ek, hs, hl, hok, fun Hl sl => ?_⟩
      have hin := numF_in hok
      refine ⟨_, rfl, _, rfl, _, rfl, ?_⟩
      refine ⟨_, rfl, _, _, rfl, rfl, _, rfl, ?_⟩
      rw [decide_eq_true hin.1]
      refine ⟨_, rfl, _, _, rfl, rfl, _, rfl, ?_⟩
      rw [decide_eq_true hin.2]
      refine ⟨_, rfl, _, rfl, k, p, st, st, rfl, rfl, SqL.of (sl _ _ ek), SqL.of (sl _ _ (sk _ _ ep)), _, rfl, ?_⟩
      rw [decide_eq_true rfl]
      refine ⟨_, rfl, _, rfl, hd, ws, numF ws st, rfl, SqL.of (sl _ _ (sik _ _ ehi)), hs, hl, hin.1, hin.2, fun p2 Hm sm2 np2 ep2 => ?_⟩
      refine ⟨_, rfl, p2, p, setF ws (numF ws st), st, rfl, rfl, SqL.of ep2, SqL.of (sm2 _ _ (sl _ _ (sk _ _ ep))), _, rfl, ?_⟩
      rw [setF_numF hok, decide_eq_true rfl]
      exact ⟨_, _, _, _, _, _, rfl, sm.trans (sik.trans (sl.trans sm2))⟩
    rintro σ HC ⟨y6, y7, y8, y9, y10, y11, rfl, sC⟩
    have ebC := sC _ _ eb12
    have ehC := sC _ _ eh12
    refine ⟨_, rfl, _, rfl, hd, b, ws, ws, rfl, rfl, SqL.of ehC, SqL.of ebC, _, rfl, ?_⟩
    rw [decide_eq_true rfl]
    -- the other way round
    refine ⟨_, rfl, .inl ⟨rfl, _, SqL.of ehC⟩, hd, _, rfl, rfl, ehC, ?_⟩
    have nbh : b ≠ hd := ne_of_none eb nh
    have e13h : (upd HC hd (.lst (ws.map V.int).reverse)) hd = some (.lst (ws.reverse.map V.int)) := by rw [upd_same, List.map_reverse]
    have e13b : (upd HC hd (.lst (ws.map V.int).reverse)) b = some (.lst (ws.map V.int)) := by rw [upd_ne nbh]; exact ebC
    generalize upd HC hd (.lst (ws.map V.int).reverse) = H13 at e13h e13b ⊢
    have hlr : ws.reverse.length ≤ 1000 := by rw [List.length_reverse]; exact hl
    have d0 : 0 ≤ prd ws / 2 := by omega
    have d1 : prd ws / 2 < prd ws.reverse := by rw [prd_reverse]; omega
    refine ⟨_, rfl, _, rfl, _, _, rfl, rfl, ⟨by decide, by decide⟩, hd, ws.reverse, prd ws / 2, rfl, SqL.of e13h, hs.reverse, hlr, d0, d1, fun p Hj sj np ep => ?_⟩
    refine ⟨_, rfl, hd, ws.reverse, rfl, SqL.of (sj _ _ e13h), hs.reverse, hlr, ?_⟩
    rw [prd_reverse]
    refine ⟨_, rfl, rfl, _, rfl, ?_⟩
    rw [decide_eq_true (rfl : V.int (prd ws) = V.int (prd ws))]
    refine ⟨_, rfl, _, rfl, b, _, rfl, SqL.of (sj _ _ e13b), fun u nu => ?_⟩
    have su : Same Hj (upd Hj u (.lst (ws.map V.int).reverse)) := same_upd nu
    have eu : (upd Hj u (.lst (ws.map V.int).reverse)) u = some (.lst (ws.reverse.map V.int)) := by rw [upd_same, List.map_reverse]
    generalize upd Hj u (.lst (ws.map V.int).reverse) = Hk at su eu ⊢
    refine ⟨_, rfl, _, _, rfl, rfl, ⟨by decide, by decide⟩, u, ws.reverse, prd ws / 2, rfl, SqL.of eu, hs.reverse, hlr, d0, d1, fun p2 Hl sl np2 ep2 => ?_⟩
    refine ⟨p, p2, setF ws.reverse (prd ws / 2), setF ws.reverse (prd ws / 2), rfl, rfl, SqL.of (sl _ _ (su _ _ ep)), SqL.of ep2, _, rfl, ?_⟩
    rw [decide_eq_true rfl]
    -- no wheels
    have h00 : sizes [] := fun _ h => by cases h
    refine ⟨Nat.zero_le _, fun v1 n1 => ⟨Nat.zero_le _, fun v2 n2 => ?_⟩⟩
    refine ⟨v1, v2, [], [], rfl, SqL.of ((same_upd n2) _ _ upd_same), SqL.of upd_same, h00, (by decide), trivial, fun Hn sn => ?_⟩
    refine ⟨rfl, _, rfl, ?_⟩
    rw [show numF [] [] = 0 from rfl, decide_eq_true rfl]
    refine ⟨Nat.zero_le _, fun v3 n3 => ?_⟩
    refine ⟨v3, [], 0, rfl, SqL.of upd_same, h00, (by decide), Int.le_refl 0, (by decide), fun p5 Ho so np5 ep5 => ?_⟩
    refine ⟨Nat.zero_le _, fun v4 n4 => ?_⟩
    refine ⟨p5, v4, setF [] 0, [], rfl, rfl, SqL.of ((same_upd n4) _ _ ep5), SqL.of upd_same, ?_⟩
    rw [show setF [] 0 = [] from rfl, decide_eq_true rfl]
    exact q _
end
end Ww
namespace Ww
open PySem PySem.Spec PyProof.Rows L2
/-! ### what the top has written of each def -/
theorem all_mk {l : PySem.W.OpenLaw} {w : World} {K : PySem.W.Frag} {h : Heap} {mg : Str → Option Value} {fa f1 f2 f3 f4 f5 f6 f7 f8 f9 f10 f11 f12 f13 f14 f15 f16 f17 f18 f19 : Addr} (X : K.In h) (G : h.Ns mainGlobals mg) (hfa : mg "law" = some (.ref fa))
    {od1 an1 od2 an2 od3 an3 od4 an4 od5 an5 od6 an6 od7 an7 od8 an8 od9 an9 od10 an10 od11 an11 od12 an12 od13 an13 od14 an14 od15 an15 od16 an16 od17 an17 od18 an18 od19 an19 : Option Addr} {sl1 sl2 sl3 sl4 sl5 sl6 sl7 sl8 sl9 sl10 sl11 sl12 sl13 sl14 sl15 sl16 sl17 sl18 sl19 : Array (Option Value)} {oc1 kV1 dc1 pm1 cd1 ct1 oc2 kV2 dc2 pm2 cd2 ct2 oc3 kV3 dc3 pm3 cd3 ct3 oc4 kV4 dc4 pm4 cd4 ct4 oc5 kV5 dc5 pm5 cd5 ct5 oc6 kV6 dc6 pm6 cd6 ct6 oc7 kV7 dc7 pm7 cd7 ct7 oc8 kV8 dc8 pm8 cd8 ct8 oc9 kV9 dc9 pm9 cd9 ct9 oc10 kV10 dc10 pm10 cd10 ct10 oc11 kV11 dc11 pm11 cd11 ct11 oc12 kV12 dc12 pm12 cd12 ct12 oc13 kV13 dc13 pm13 cd13 ct13 oc14 kV14 dc14 pm14 cd14 ct14 oc15 kV15 dc15 pm15 cd15 ct15 oc16 kV16 dc16 pm16 cd16 ct16 oc17 kV17 dc17 pm17 cd17 ct17 oc18 kV18 dc18 pm18 cd18 ct18 oc19 kV19 dc19 pm19 cd19 ct19 : Value}
    (a1 : PySem.W.nsIn K mainGlobals "is_whole" = some (some (.ref f1))) (l1 : K.lookup f1 = some ⟨oc1, od1, .func (PySem.W.fnOf "is_whole" "is_whole" (defArgs s_is_whole) (defBody s_is_whole) (defScope s_is_whole) .none kV1 dc1 pm1 an1 cd1 ct1), sl1⟩) (c1 : PySem.W.codeIn K cd1 "is_whole" = true) (k1 : PySem.W.keepIn K (.ref f1) = true)
    (a2 : PySem.W.nsIn K mainGlobals "check_wheels" = some (some (.ref f2))) (l2 : K.lookup f2 = some ⟨oc2, od2, .func (PySem.W.fnOf "check_wheels" "check_wheels" (defArgs s_check_wheels) (defBody s_check_wheels) (defScope s_check_wheels) .none kV2 dc2 pm2 an2 cd2 ct2), sl2⟩) (c2 : PySem.W.codeIn K cd2 "check_wheels" = true) (k2 : PySem.W.keepIn K (.ref f2) = true)
    (a3 : PySem.W.nsIn K mainGlobals "is_setting" = some (some (.ref f3))) (l3 : K.lookup f3 = some ⟨oc3, od3, .func (PySem.W.fnOf "is_setting" "is_setting" (defArgs s_is_setting) (defBody s_is_setting) (defScope s_is_setting) .none kV3 dc3 pm3 an3 cd3 ct3), sl3⟩) (c3 : PySem.W.codeIn K cd3 "is_setting" = true) (k3 : PySem.W.keepIn K (.ref f3) = true)
    (a4 : PySem.W.nsIn K mainGlobals "check_setting" = some (some (.ref f4))) (l4 : K.lookup f4 = some ⟨oc4, od4, .func (PySem.W.fnOf "check_setting" "check_setting" (defArgs s_check_setting) (defBody s_check_setting) (defScope s_check_setting) .none kV4 dc4 pm4 an4 cd4 ct4), sl4⟩) (c4 : PySem.W.codeIn K cd4 "check_setting" = true) (k4 : PySem.W.keepIn K (.ref f4) = true)
    (a5 : PySem.W.nsIn K mainGlobals "check_number" = some (some (.ref f5))) (l5 : K.lookup f5 = some ⟨oc5, od5, .func (PySem.W.fnOf "check_number" "check_number" (defArgs s_check_number) (defBody s_check_number) (defScope s_check_number) .none kV5 dc5 pm5 an5 cd5 ct5), sl5⟩) (c5 : PySem.W.codeIn K cd5 "check_number" = true) (k5 : PySem.W.keepIn K (.ref f5) = true)
    (a6 : PySem.W.nsIn K mainGlobals "settings" = some (some (.ref f6))) (l6 : K.lookup f6 = some ⟨oc6, od6, .func (PySem.W.fnOf "settings" "settings" (defArgs s_settings) (defBody s_settings) (defScope s_settings) .none kV6 dc6 pm6 an6 cd6 ct6), sl6⟩) (c6 : PySem.W.codeIn K cd6 "settings" = true) (k6 : PySem.W.keepIn K (.ref f6) = true)
    (a7 : PySem.W.nsIn K mainGlobals "setting_of" = some (some (.ref f7))) (l7 : K.lookup f7 = some ⟨oc7, od7, .func (PySem.W.fnOf "setting_of" "setting_of" (defArgs s_setting_of) (defBody s_setting_of) (defScope s_setting_of) .none kV7 dc7 pm7 an7 cd7 ct7), sl7⟩) (c7 : PySem.W.codeIn K cd7 "setting_of" = true) (k7 : PySem.W.keepIn K (.ref f7) = true)
    (a8 : PySem.W.nsIn K mainGlobals "number_of" = some (some (.ref f8))) (l8 : K.lookup f8 = some ⟨oc8, od8, .func (PySem.W.fnOf "number_of" "number_of" (defArgs s_number_of) (defBody s_number_of) (defScope s_number_of) .none kV8 dc8 pm8 an8 cd8 ct8), sl8⟩) (c8 : PySem.W.codeIn K cd8 "number_of" = true) (k8 : PySem.W.keepIn K (.ref f8) = true)
    (a9 : PySem.W.nsIn K mainGlobals "_mirrored" = some (some (.ref f9))) (l9 : K.lookup f9 = some ⟨oc9, od9, .func (PySem.W.fnOf "_mirrored" "_mirrored" (defArgs s_mirrored) (defBody s_mirrored) (defScope s_mirrored) .none kV9 dc9 pm9 an9 cd9 ct9), sl9⟩) (c9 : PySem.W.codeIn K cd9 "_mirrored" = true) (k9 : PySem.W.keepIn K (.ref f9) = true)
    (a10 : PySem.W.nsIn K mainGlobals "_law_cell_at" = some (some (.ref f10))) (l10 : K.lookup f10 = some ⟨oc10, od10, .func (PySem.W.fnOf "_law_cell_at" "_law_cell_at" (defArgs s_law_cell_at) (defBody s_law_cell_at) (defScope s_law_cell_at) .none kV10 dc10 pm10 an10 cd10 ct10), sl10⟩) (c10 : PySem.W.codeIn K cd10 "_law_cell_at" = true) (k10 : PySem.W.keepIn K (.ref f10) = true)
    (a11 : PySem.W.nsIn K mainGlobals "_law_draw" = some (some (.ref f11))) (l11 : K.lookup f11 = some ⟨oc11, od11, .func (PySem.W.fnOf "_law_draw" "_law_draw" (defArgs s_law_draw) (defBody s_law_draw) (defScope s_law_draw) .none kV11 dc11 pm11 an11 cd11 ct11), sl11⟩) (c11 : PySem.W.codeIn K cd11 "_law_draw" = true) (k11 : PySem.W.keepIn K (.ref f11) = true)
    (a12 : PySem.W.nsIn K mainGlobals "_law_wheels" = some (some (.ref f12))) (l12 : K.lookup f12 = some ⟨oc12, od12, .func (PySem.W.fnOf "_law_wheels" "_law_wheels" (defArgs s_law_wheels) (defBody s_law_wheels) (defScope s_law_wheels) .none kV12 dc12 pm12 an12 cd12 ct12), sl12⟩) (c12 : PySem.W.codeIn K cd12 "_law_wheels" = true) (k12 : PySem.W.keepIn K (.ref f12) = true)
    (a13 : PySem.W.nsIn K mainGlobals "_law_far" = some (some (.ref f13))) (l13 : K.lookup f13 = some ⟨oc13, od13, .func (PySem.W.fnOf "_law_far" "_law_far" (defArgs s_law_far) (defBody s_law_far) (defScope s_law_far) .none kV13 dc13 pm13 an13 cd13 ct13), sl13⟩) (c13 : PySem.W.codeIn K cd13 "_law_far" = true) (k13 : PySem.W.keepIn K (.ref f13) = true)
    (a14 : PySem.W.nsIn K mainGlobals "_law_setting" = some (some (.ref f14))) (l14 : K.lookup f14 = some ⟨oc14, od14, .func (PySem.W.fnOf "_law_setting" "_law_setting" (defArgs s_law_setting) (defBody s_law_setting) (defScope s_law_setting) .none kV14 dc14 pm14 an14 cd14 ct14), sl14⟩) (c14 : PySem.W.codeIn K cd14 "_law_setting" = true) (k14 : PySem.W.keepIn K (.ref f14) = true)
    (a15 : PySem.W.nsIn K mainGlobals "_law_count" = some (some (.ref f15))) (l15 : K.lookup f15 = some ⟨oc15, od15, .func (PySem.W.fnOf "_law_count" "_law_count" (defArgs s_law_count) (defBody s_law_count) (defScope s_law_count) .none kV15 dc15 pm15 an15 cd15 ct15), sl15⟩) (c15 : PySem.W.codeIn K cd15 "_law_count" = true) (k15 : PySem.W.keepIn K (.ref f15) = true)
    (a16 : PySem.W.nsIn K mainGlobals "_law_is_setting" = some (some (.ref f16))) (l16 : K.lookup f16 = some ⟨oc16, od16, .func (PySem.W.fnOf "_law_is_setting" "_law_is_setting" (defArgs s_law_is_setting) (defBody s_law_is_setting) (defScope s_law_is_setting) .none kV16 dc16 pm16 an16 cd16 ct16), sl16⟩) (c16 : PySem.W.codeIn K cd16 "_law_is_setting" = true) (k16 : PySem.W.keepIn K (.ref f16) = true)
    (a17 : PySem.W.nsIn K mainGlobals "_law_step" = some (some (.ref f17))) (l17 : K.lookup f17 = some ⟨oc17, od17, .func (PySem.W.fnOf "_law_step" "_law_step" (defArgs s_law_step) (defBody s_law_step) (defScope s_law_step) .none kV17 dc17 pm17 an17 cd17 ct17), sl17⟩) (c17 : PySem.W.codeIn K cd17 "_law_step" = true) (k17 : PySem.W.keepIn K (.ref f17) = true)
    (a18 : PySem.W.nsIn K mainGlobals "_law_whole" = some (some (.ref f18))) (l18 : K.lookup f18 = some ⟨oc18, od18, .func (PySem.W.fnOf "_law_whole" "_law_whole" (defArgs s_law_whole) (defBody s_law_whole) (defScope s_law_whole) .none kV18 dc18 pm18 an18 cd18 ct18), sl18⟩) (c18 : PySem.W.codeIn K cd18 "_law_whole" = true) (k18 : PySem.W.keepIn K (.ref f18) = true)
    (a19 : PySem.W.nsIn K mainGlobals "law" = some (some (.ref f19))) (l19 : K.lookup f19 = some ⟨oc19, od19, .func (PySem.W.fnOf "law" "law" (defArgs s_law) (defBody s_law) (defScope s_law) .none kV19 dc19 pm19 an19 cd19 ct19), sl19⟩) (c19 : PySem.W.codeIn K cd19 "law" = true) (k19 : PySem.W.keepIn K (.ref f19) = true)
    (z_len : PySem.W.nsIn K mainGlobals "len" = some none)
    (z_range : PySem.W.nsIn K mainGlobals "range" = some none)
    (z_zip : PySem.W.nsIn K mainGlobals "zip" = some none)
    (z_reversed : PySem.W.nsIn K mainGlobals "reversed" = some none)
    (z_divmod : PySem.W.nsIn K mainGlobals "divmod" = some none)
    (z_enumerate : PySem.W.nsIn K mainGlobals "enumerate" = some none)
    (z_any : PySem.W.nsIn K mainGlobals "any" = some none)
    (z_all : PySem.W.nsIn K mainGlobals "all" = some none)
    (z_sum : PySem.W.nsIn K mainGlobals "sum" = some none)
    (z_abs : PySem.W.nsIn K mainGlobals "abs" = some none)
    (z_min : PySem.W.nsIn K mainGlobals "min" = some none)
    (z_list : PySem.W.nsIn K mainGlobals "list" = some none)
    (z_int : PySem.W.nsIn K mainGlobals "int" = some none)
    (z_bool : PySem.W.nsIn K mainGlobals "bool" = some none)
    (z_str : PySem.W.nsIn K mainGlobals "str" = some none)
    (z_tuple : PySem.W.nsIn K mainGlobals "tuple" = some none)
    (z_isinstance : PySem.W.nsIn K mainGlobals "isinstance" = some none)
    (z_sorted : PySem.W.nsIn K mainGlobals "sorted" = some none)
    : ∃ fd : FuncData, (∀ (s : Shared) (v : Value), BindsTo s fd ⟨[v], []⟩ [("_law_script", v)]) ∧ ∀ base : Heap, K.In base → base.Ns mainGlobals mg → FnOk l.prog w K mg base CX0 5 fa fd ["_law_script"] (sp_law K) := by
  have e := hfa.symm.trans (PySem.W.mg_of X G a19)
  cases e
  have B : Bi mg := ⟨PySem.W.mg_none_of X G z_len, PySem.W.mg_none_of X G z_range, PySem.W.mg_none_of X G z_zip, PySem.W.mg_none_of X G z_reversed, PySem.W.mg_none_of X G z_divmod, PySem.W.mg_none_of X G z_enumerate, PySem.W.mg_none_of X G z_any, PySem.W.mg_none_of X G z_all, PySem.W.mg_none_of X G z_sum, PySem.W.mg_none_of X G z_abs, PySem.W.mg_none_of X G z_min, PySem.W.mg_none_of X G z_list, PySem.W.mg_none_of X G z_int, PySem.W.mg_none_of X G z_bool, PySem.W.mg_none_of X G z_str, PySem.W.mg_none_of X G z_tuple, PySem.W.mg_none_of X G z_isinstance, PySem.W.mg_none_of X G z_sorted⟩
  have F1 := fun_mk (st := s_is_whole) l1 c1 k1
  have D_is_whole : Df K mg "is_whole" s_is_whole ["thing"] := ⟨_, _, F1, PySem.W.mg_of X G a1, F1.binds (ps := ["thing"]) fun _ _ _ _ _ _ us hl => match us, hl with | [_], _ => rfl⟩
  have F2 := fun_mk (st := s_check_wheels) l2 c2 k2
  have D_check_wheels : Df K mg "check_wheels" s_check_wheels ["wheels"] := ⟨_, _, F2, PySem.W.mg_of X G a2, F2.binds (ps := ["wheels"]) fun _ _ _ _ _ _ us hl => match us, hl with | [_], _ => rfl⟩
  have F3 := fun_mk (st := s_is_setting) l3 c3 k3
  have D_is_setting : Df K mg "is_setting" s_is_setting ["wheels", "setting"] := ⟨_, _, F3, PySem.W.mg_of X G a3, F3.binds (ps := ["wheels", "setting"]) fun _ _ _ _ _ _ us hl => match us, hl with | [_, _], _ => rfl⟩
  have F4 := fun_mk (st := s_check_setting) l4 c4 k4
  have D_check_setting : Df K mg "check_setting" s_check_setting ["wheels", "setting"] := ⟨_, _, F4, PySem.W.mg_of X G a4, F4.binds (ps := ["wheels", "setting"]) fun _ _ _ _ _ _ us hl => match us, hl with | [_, _], _ => rfl⟩
  have F5 := fun_mk (st := s_check_number) l5 c5 k5
  have D_check_number : Df K mg "check_number" s_check_number ["number", "many"] := ⟨_, _, F5, PySem.W.mg_of X G a5, F5.binds (ps := ["number", "many"]) fun _ _ _ _ _ _ us hl => match us, hl with | [_, _], _ => rfl⟩
  have F6 := fun_mk (st := s_settings) l6 c6 k6
  have D_settings : Df K mg "settings" s_settings ["wheels"] := ⟨_, _, F6, PySem.W.mg_of X G a6, F6.binds (ps := ["wheels"]) fun _ _ _ _ _ _ us hl => match us, hl with | [_], _ => rfl⟩
  have F7 := fun_mk (st := s_setting_of) l7 c7 k7
  have D_setting_of : Df K mg "setting_of" s_setting_of ["wheels", "number"] := ⟨_, _, F7, PySem.W.mg_of X G a7, F7.binds (ps := ["wheels", "number"]) fun _ _ _ _ _ _ us hl => match us, hl with | [_, _], _ => rfl⟩
  have F8 := fun_mk (st := s_number_of) l8 c8 k8
  have D_number_of : Df K mg "number_of" s_number_of ["wheels", "setting"] := ⟨_, _, F8, PySem.W.mg_of X G a8, F8.binds (ps := ["wheels", "setting"]) fun _ _ _ _ _ _ us hl => match us, hl with | [_, _], _ => rfl⟩
  have F9 := fun_mk (st := s_mirrored) l9 c9 k9
  have D_mirrored : Df K mg "_mirrored" s_mirrored ["size", "place", "ahead"] := ⟨_, _, F9, PySem.W.mg_of X G a9, F9.binds (ps := ["size", "place", "ahead"]) fun _ _ _ _ _ _ us hl => match us, hl with | [_, _, _], _ => rfl⟩
  have F10 := fun_mk (st := s_law_cell_at) l10 c10 k10
  have D_law_cell_at : Df K mg "_law_cell_at" s_law_cell_at ["_law_script", "_law_k"] := ⟨_, _, F10, PySem.W.mg_of X G a10, F10.binds (ps := ["_law_script", "_law_k"]) fun _ _ _ _ _ _ us hl => match us, hl with | [_, _], _ => rfl⟩
  have F11 := fun_mk (st := s_law_draw) l11 c11 k11
  have D_law_draw : Df K mg "_law_draw" s_law_draw ["_law_cell", "_law_k", "_law_many"] := ⟨_, _, F11, PySem.W.mg_of X G a11, F11.binds (ps := ["_law_cell", "_law_k", "_law_many"]) fun _ _ _ _ _ _ us hl => match us, hl with | [_, _, _], _ => rfl⟩
  have F12 := fun_mk (st := s_law_wheels) l12 c12 k12
  have D_law_wheels : Df K mg "_law_wheels" s_law_wheels ["_law_script"] := ⟨_, _, F12, PySem.W.mg_of X G a12, F12.binds (ps := ["_law_script"]) fun _ _ _ _ _ _ us hl => match us, hl with | [_], _ => rfl⟩
  have F13 := fun_mk (st := s_law_far) l13 c13 k13
  have D_law_far : Df K mg "_law_far" s_law_far ["_law_script", "_law_by", "_law_most"] := ⟨_, _, F13, PySem.W.mg_of X G a13, F13.binds (ps := ["_law_script", "_law_by", "_law_most"]) fun _ _ _ _ _ _ us hl => match us, hl with | [_, _, _], _ => rfl⟩
  have F14 := fun_mk (st := s_law_setting) l14 c14 k14
  have D_law_setting : Df K mg "_law_setting" s_law_setting ["_law_script", "_law_wheels_here", "_law_by"] := ⟨_, _, F14, PySem.W.mg_of X G a14, F14.binds (ps := ["_law_script", "_law_wheels_here", "_law_by"]) fun _ _ _ _ _ _ us hl => match us, hl with | [_, _, _], _ => rfl⟩
  have F15 := fun_mk (st := s_law_count) l15 c15 k15
  have D_law_count : Df K mg "_law_count" s_law_count ["_law_wheels_here"] := ⟨_, _, F15, PySem.W.mg_of X G a15, F15.binds (ps := ["_law_wheels_here"]) fun _ _ _ _ _ _ us hl => match us, hl with | [_], _ => rfl⟩
  have F16 := fun_mk (st := s_law_is_setting) l16 c16 k16
  have D_law_is_setting : Df K mg "_law_is_setting" s_law_is_setting ["_law_wheels_here", "_law_found"] := ⟨_, _, F16, PySem.W.mg_of X G a16, F16.binds (ps := ["_law_wheels_here", "_law_found"]) fun _ _ _ _ _ _ us hl => match us, hl with | [_, _], _ => rfl⟩
  have F17 := fun_mk (st := s_law_step) l17 c17 k17
  have D_law_step : Df K mg "_law_step" s_law_step ["_law_one", "_law_other"] := ⟨_, _, F17, PySem.W.mg_of X G a17, F17.binds (ps := ["_law_one", "_law_other"]) fun _ _ _ _ _ _ us hl => match us, hl with | [_, _], _ => rfl⟩
  have F18 := fun_mk (st := s_law_whole) l18 c18 k18
  have D_law_whole : Df K mg "_law_whole" s_law_whole ["_law_number"] := ⟨_, _, F18, PySem.W.mg_of X G a18, F18.binds (ps := ["_law_number"]) fun _ _ _ _ _ _ us hl => match us, hl with | [_], _ => rfl⟩
  have F19 := fun_mk (st := s_law) l19 c19 k19
  have D_law : At K mg "law" s_law ["_law_script"] _ _ := ⟨F19, PySem.W.mg_of X G a19, F19.binds (ps := ["_law_script"]) fun _ _ _ _ _ _ us hl => match us, hl with | [_], _ => rfl⟩
  refine ⟨PySem.W.fnOf "law" "law" (defArgs s_law) (defBody s_law) (defScope s_law) .none kV19 dc19 pm19 an19 cd19 ct19, fun s v => .of_eq rfl, fun base _ _ => ?_⟩
  have G_is_whole := ok_is_whole (P := l.prog) (w := w) (base := base) D_is_whole B
  have G_mirrored := ok_mirrored (P := l.prog) (w := w) (base := base) D_mirrored B
  have G_check_wheels := ok_check_wheels (P := l.prog) (w := w) (base := base) D_check_wheels B G_is_whole
  have G_is_setting := ok_is_set (P := l.prog) (w := w) (base := base) D_is_setting B G_is_whole
  have G_check_setting := ok_check_setting (P := l.prog) (w := w) (base := base) D_check_setting G_is_setting
  have G_check_number := ok_check_number (P := l.prog) (w := w) (base := base) D_check_number B G_is_whole
  have G_settings := ok_settings (P := l.prog) (w := w) (base := base) D_settings B G_check_wheels
  have G_setting_of := ok_setting_of (P := l.prog) (w := w) (base := base) D_setting_of B G_settings G_check_number G_mirrored
  have G_number_of := ok_number_of (P := l.prog) (w := w) (base := base) D_number_of B G_check_wheels G_check_setting G_mirrored
  have G_law_cell_at := ok_cell_at (P := l.prog) (w := w) (base := base) D_law_cell_at B
  have G_law_draw := ok_draw (P := l.prog) (w := w) (base := base) D_law_draw B
  have G_law_wheels := ok_wheels (P := l.prog) (w := w) (base := base) D_law_wheels B G_law_cell_at G_law_draw
  have G_law_far := ok_far (P := l.prog) (w := w) (base := base) (K := K) D_law_far B G_law_draw
  have G_law_setting := ok_setting (P := l.prog) (w := w) (base := base) D_law_setting B G_law_cell_at G_law_draw
  have G_law_count := ok_count (P := l.prog) (w := w) (base := base) D_law_count B
  have G_law_is_setting := ok_is_setting (P := l.prog) (w := w) (base := base) D_law_is_setting B
  have G_law_step := ok_step (P := l.prog) (w := w) (base := base) D_law_step B
  have G_law_whole := ok_whole (P := l.prog) (w := w) (base := base) D_law_whole B
  exact ok_law D_law B G_law_wheels G_law_count G_settings G_law_whole G_setting_of G_number_of G_law_far G_law_is_setting G_law_step G_law_setting
end Ww
open PySem PySem.W PyProof.Rows
set_option maxHeartbeats 0 in
theorem PySem.Challenge.cw_wheelways_k01_whole_forth_holds : PySem.Challenge.rw_wheelways_k01_whole_forth.Holds := by
  w_on; o_law; k_head; (case hw => w_witness2)
  k_fill
  refine L2.walk_of (l := PySem.Challenge.rw_wheelways_k01_whole_forth) (n := 63) (k := 5) (x := "_law_script") (CX := fun _ => L2.CX0) (sp := fun w => Ww.sp_law _) rfl (by decide) rfl ⟨rfl, by decide, by decide⟩ (fun w h Y => PySem.W.kIn_of Y) ?F (fun _ _ a ns hl _ hS => ⟨a, ns, rfl, hS, hl, fun _ => rfl⟩) (fun _ _ _ _ _ h => h)
  case F =>
    intro w mg fa h KX G hmg
    refine' Ww.all_mk KX G hmg ?a1 ?l1 ?c1 ?k1 ?a2 ?l2 ?c2 ?k2 ?a3 ?l3 ?c3 ?k3 ?a4 ?l4 ?c4 ?k4 ?a5 ?l5 ?c5 ?k5 ?a6 ?l6 ?c6 ?k6 ?a7 ?l7 ?c7 ?k7 ?a8 ?l8 ?c8 ?k8 ?a9 ?l9 ?c9 ?k9 ?a10 ?l10 ?c10 ?k10 ?a11 ?l11 ?c11 ?k11 ?a12 ?l12 ?c12 ?k12 ?a13 ?l13 ?c13 ?k13 ?a14 ?l14 ?c14 ?k14 ?a15 ?l15 ?c15 ?k15 ?a16 ?l16 ?c16 ?k16 ?a17 ?l17 ?c17 ?k17 ?a18 ?l18 ?c18 ?k18 ?a19 ?l19 ?c19 ?k19 ?z_len ?z_range ?z_zip ?z_reversed ?z_divmod ?z_enumerate ?z_any ?z_all ?z_sum ?z_abs ?z_min ?z_list ?z_int ?z_bool ?z_str ?z_tuple ?z_isinstance ?z_sorted
    (case a1 => k_is)
    (case l1 => k_is)
    (case c1 => k_is)
    (case k1 => k_is)
    (case a2 => k_is)
    (case l2 => k_is)
    (case c2 => k_is)
    (case k2 => k_is)
    (case a3 => k_is)
    (case l3 => k_is)
    (case c3 => k_is)
    (case k3 => k_is)
    (case a4 => k_is)
    (case l4 => k_is)
    (case c4 => k_is)
    (case k4 => k_is)
    (case a5 => k_is)
    (case l5 => k_is)
    (case c5 => k_is)
    (case k5 => k_is)
    (case a6 => k_is)
    (case l6 => k_is)
    (case c6 => k_is)
    (case k6 => k_is)
    (case a7 => k_is)
    (case l7 => k_is)
    (case c7 => k_is)
    (case k7 => k_is)
    (case a8 => k_is)
    (case l8 => k_is)
    (case c8 => k_is)
    (case k8 => k_is)
    (case a9 => k_is)
    (case l9 => k_is)
    (case c9 => k_is)
    (case k9 => k_is)
    (case a10 => k_is)
    (case l10 => k_is)
    (case c10 => k_is)
    (case k10 => k_is)
    (case a11 => k_is)
    (case l11 => k_is)
    (case c11 => k_is)
    (case k11 => k_is)
    (case a12 => k_is)
    (case l12 => k_is)
    (case c12 => k_is)
    (case k12 => k_is)
    (case a13 => k_is)
    (case l13 => k_is)
    (case c13 => k_is)
    (case k13 => k_is)
    (case a14 => k_is)
    (case l14 => k_is)
    (case c14 => k_is)
    (case k14 => k_is)
    (case a15 => k_is)
    (case l15 => k_is)
    (case c15 => k_is)
    (case k15 => k_is)
    (case a16 => k_is)
    (case l16 => k_is)
    (case c16 => k_is)
    (case k16 => k_is)
    (case a17 => k_is)
    (case l17 => k_is)
    (case c17 => k_is)
    (case k17 => k_is)
    (case a18 => k_is)
    (case l18 => k_is)
    (case c18 => k_is)
    (case k18 => k_is)
    (case a19 => k_is)
    (case l19 => k_is)
    (case c19 => k_is)
    (case k19 => k_is)
    (case z_len => k_is)
    (case z_range => k_is)
    (case z_zip => k_is)
    (case z_reversed => k_is)
    (case z_divmod => k_is)
    (case z_enumerate => k_is)
    (case z_any => k_is)
    (case z_all => k_is)
    (case z_sum => k_is)
    (case z_abs => k_is)
    (case z_min => k_is)
    (case z_list => k_is)
    (case z_int => k_is)
    (case z_bool => k_is)
    (case z_str => k_is)
    (case z_tuple => k_is)
    (case z_isinstance => k_is)
    (case z_sorted => k_is)
#print axioms PySem.Challenge.cw_wheelways_k01_whole_forth_holds
