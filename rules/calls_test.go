package rules_test

import (
	"bailment/api"
	"bailment/atoms"
	"bailment/bdd"
	"bailment/cause"
	"bailment/code"
	"bailment/expr"
	"bailment/flat"
	"bailment/frame"
	"bailment/image"
	"bailment/inits"
	"bailment/lex"
	"bailment/list"
	"bailment/machine"
	"bailment/modes"
	"bailment/monitor"
	"bailment/names"
	"bailment/norm"
	"bailment/num"
	"bailment/past"
	"bailment/prog"
	"bailment/sched"
	"bailment/show"
	"bailment/simplex"
	"bailment/tree"
	"bailment/types"
)

// The calls and types that the chapters list: this does not build where one is
// missing, or is of another shape.
var (
	_ func(op int, a int, b int, c int) (int, api.Errno)                       = num.Do
	_ func(n int) bool                                                         = num.Fits
	_ func(op int) int                                                         = num.Operands
	_ func(s string) ([]api.Token, api.Fault)                                  = lex.Lex
	_ func(s string) bool                                                      = lex.IsName
	_ func(s string) bool                                                      = lex.IsWord
	_ func(l []api.Token) string                                               = lex.Join
	_ func(e api.Expr) bool                                                    = tree.May
	_ func(e api.Expr) int                                                     = tree.Depth
	_ func(op int, n int, name string, parts ...api.Expr) api.Expr             = tree.Join
	_ func(e api.Expr, i int) api.Expr                                         = tree.Sub
	_ func(n api.Node) []int                                                   = tree.Kids
	_ func(e api.Expr) []string                                                = tree.Vars
	_ func(e api.Expr, names []string, by []api.Expr) api.Expr                 = tree.Put
	_ func(l []api.Token, from int) (api.Expr, int, api.Fault)                 = expr.Parse
	_ func(s string) (api.Expr, api.Fault)                                     = expr.Read
	_ func(l []api.Token, i int) int                                           = expr.At
	_ func(e api.Expr) string                                                  = show.Show
	_ func(e api.Expr) bool                                                    = show.May
	_ func(op int) string                                                      = show.Op
	_ func(op int) int                                                         = show.Level
	_ func(s string) (api.Prog, api.Fault)                                     = prog.Parse
	_ func(p api.Prog) bool                                                    = list.May
	_ func(p api.Prog) string                                                  = list.Write
	_ func(p api.Prog) api.Prog                                                = list.Order
	_ func(p api.Prog) (api.Prog, api.Fault)                                   = names.Resolve
	_ func(p api.Prog, name string) int                                        = names.Find
	_ func(e api.Expr, streams []api.Param, units []api.Unit) (int, api.Errno) = types.Of
	_ func(p api.Prog) api.Fault                                               = types.Check
	_ func(e api.Expr) (int, api.Errno)                                        = inits.Of
	_ func(p api.Prog) api.Fault                                               = inits.Check
	_ func(e api.Expr) []string                                                = cause.Needs
	_ func(l []api.Equation) ([]int, api.Errno)                                = cause.Order
	_ func(p api.Prog) api.Fault                                               = cause.Check
	_ func(p api.Prog, node string) ([]api.Stream, api.Errno)                  = flat.Make
	_ func(l []api.Stream, name string) int                                    = flat.Find
	_ func(l []api.Stream, in [][]int) ([][]int, api.Errno)                    = flat.Run
	_ func(l []api.Stream) ([]api.Stream, api.Errno)                           = past.Free
	_ func(e api.Expr) bool                                                    = past.Has
	_                                                                          = struct {
		Op int
		A  int
		B  int
		C  int
		N  int
	}(norm.Op{})
	_ = struct {
		Ops    []norm.Op
		Roots  []int
		Inputs []int
	}(norm.Net{})
	_ func(l []api.Stream) (norm.Net, api.Errno) = norm.Make
	_ func(n norm.Net) api.Errno                 = norm.Check
	_ func(n norm.Net) ([]int, api.Errno)        = sched.Order
	_ func(n norm.Net) (norm.Net, api.Errno)     = sched.Sort
	_ func(n norm.Net) bool                      = sched.Is
	_ func(n norm.Net) []int                     = sched.Ends
	_                                            = struct {
		Op int
		D  int
		A  int
		B  int
		C  int
		N  int
	}(code.Ins{})
	_ = struct {
		Ins    []code.Ins
		Regs   int
		Slots  int
		Outs   []int
		Inputs []int
	}(code.Code{})
	_ func(n norm.Net, told []int) (code.Code, api.Errno)                 = code.Make
	_ func(c code.Code) api.Errno                                         = code.Check
	_ func(c code.Code) (string, api.Errno)                               = image.Encode
	_ func(s string) (code.Code, api.Errno)                               = image.Decode
	_ func(c code.Code) (*machine.Machine, api.Errno)                     = machine.New
	_ func(m *machine.Machine, in []int) ([]int, api.Errno)               = (*machine.Machine).Step
	_ func(m *machine.Machine) api.Errno                                  = (*machine.Machine).Fault
	_ func(m *machine.Machine) []int                                      = (*machine.Machine).State
	_ func(m *machine.Machine) int                                        = (*machine.Machine).Steps
	_ func(m *machine.Machine) *machine.Machine                           = (*machine.Machine).Copy
	_ func(p api.Prog, node string, told []string) (code.Code, api.Errno) = machine.Compile
	_                                                                     = struct {
		Kind   int
		Name   string
		Holds  int
		Active int
	}(monitor.Check{})
	_ func(p api.Prog, node string) ([]api.Stream, []monitor.Check, api.Errno) = monitor.Make
	_ func(l []monitor.Check) *monitor.Watch                                   = monitor.New
	_ func(w *monitor.Watch, row []int) []int                                  = (*monitor.Watch).Step
	_ func(w *monitor.Watch) []int                                             = (*monitor.Watch).First
	_ func(w *monitor.Watch) int                                               = (*monitor.Watch).Count
	_ func(vars int, budget int) (*bdd.Store, api.Errno)                       = bdd.New
	_ func(s *bdd.Store, b bool) int                                           = (*bdd.Store).Const
	_ func(s *bdd.Store, i int) (int, api.Errno)                               = (*bdd.Store).Var
	_ func(s *bdd.Store, f int, g int, h int) (int, api.Errno)                 = (*bdd.Store).Ite
	_ func(s *bdd.Store, f int) (int, api.Errno)                               = (*bdd.Store).Not
	_ func(s *bdd.Store, l ...int) (int, api.Errno)                            = (*bdd.Store).And
	_ func(s *bdd.Store, l ...int) (int, api.Errno)                            = (*bdd.Store).Or
	_ func(s *bdd.Store, f int, i int, b bool) (int, api.Errno)                = (*bdd.Store).Restrict
	_ func(s *bdd.Store, f int, at []bool) (bool, api.Errno)                   = (*bdd.Store).Value
	_ func(s *bdd.Store, f int) ([]bool, bool)                                 = (*bdd.Store).Witness
	_ func(s *bdd.Store, f int) (int, api.Errno)                               = (*bdd.Store).Count
	_ func(s *bdd.Store) int                                                   = (*bdd.Store).Size
	_ func(l []api.Expr) ([]api.Expr, []api.Expr, api.Errno)                   = atoms.Split
	_ func(e api.Expr, at []bool) (bool, api.Errno)                            = atoms.Value
	_ func(s *bdd.Store, e api.Expr) (int, api.Errno)                          = atoms.Make
	_                                                                          = struct {
		I       int
		J       int
		Verdict int
		Both    []bool
	}(modes.Pair{})
	_ = struct {
		Atoms      []api.Expr
		Modes      []string
		Exhaustive int
		Gap        []bool
		Pairs      []modes.Pair
	}(modes.Report{})
	_ func(l []api.Item, budget int) (modes.Report, api.Errno) = modes.Check
	_ func(types []int, s string) ([][]int, api.Fault)         = frame.Read
	_ func(types []int, rows [][]int) (string, api.Errno)      = frame.Write
	_                                                          = struct {
		Check int
		Kind  int
		Name  string
		At    int
	}(simplex.Verdict{})
	_ = struct {
		Outs    []int
		Latch   int
		Why     api.Errno
		Log     []simplex.Verdict
		Ended   api.Errno
		EndedAt int
	}(simplex.Result{})
	_ func(source string, inputs string) (simplex.Result, api.Fault) = simplex.Run
	_ func(p api.Prog, in [][]int) (simplex.Result, api.Errno)       = simplex.Exec
)
