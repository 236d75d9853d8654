package wire

import (
	"reflect"
	"strings"
	"testing"

	"hasp/api"
)

// TestReadWhatIsNoTable: bytes that are written just so are told, whatever they hold; of all others nothing is.
func TestReadWhatIsNoTable(t *testing.T) {
	odd := api.Table{Start: 900, Classes: strings.Repeat("\xff", 256), Accepts: []bool{true}, Next: [][]int{{5, 5, 7}}}
	for kind := range 2 {
		for _, big := range []bool{false, true} {
			b := Write(odd, kind, big)
			if got, ok := Read(b); !ok || !reflect.DeepEqual(got, odd) {
				t.Errorf("kind %d, big %v: Read = %v, %v", kind, big, got, ok)
			}
			for _, other := range []string{"", "H", b[:len(b)-1], b + "\x00", "X" + b[1:]} {
				if got, ok := Read(other); ok || !reflect.DeepEqual(got, api.Table{}) {
					t.Errorf("kind %d, big %v: Read of other bytes = %v, %v", kind, big, got, ok)
				}
			}
		}
	}
}
