package rules_test

import "testing"

// TestWays: each layer that is built leans on the ways that its chapter names.
func TestWays(t *testing.T) {
	for face, wanted := range map[string][]string{
		"codec":     {"errors-as", "fallthrough"},
		"simdisk":   {"errors-as", "method-value"},
		"simnet":    {"map", "struct-compared", "range-map"},
		"wal":       {"errors-as", "fallthrough"},
		"walindex":  {"fallthrough", "errors-is"},
		"raftlog":   {"closure", "range-function", "copy"},
		"quorum":    {"generic-function", "variadic"},
		"raftconf":  {"fallthrough", "struct-compared"},
		"raftsnap":  {"three-index", "copy"},
		"raftcore":  {"method-value", "fallthrough"},
		"beats":     {"map", "range-integer"},
		"multiraft": {"embedding", "promoted", "map", "errors-is"},
		"keyrange":  {"struct-compared", "method-value"},
		"records":   {"generic-function", "method-value"},
		"producers": {"generic-function", "closure"},
		"partfsm":   {"errors-is", "errors-as", "fallthrough"},
		"lineage":   {"errors-is", "closure"},
		"placement": {"fallthrough", "errors-as", "generic-function"},
		"plans":     {"closure", "array", "fallthrough"},
		"broker":    {"errors-as", "map", "range-map", "fallthrough"},
		"client":    {"method-expression", "generic-function"},
		"cluster":   {"method-expression", "embedding", "map"},
		"history":   {"errors-as", "fallthrough", "map"},
		"console":   {"map", "closure", "errors-is", "type-switch"},
	} {
		miss, err := WaysMissing("..", "gazette", []string{face}, wanted)
		if err != nil {
			t.Fatal(err)
		}
		for _, m := range miss {
			t.Errorf("%s: way missing: %s", face, m)
		}
	}
}
