package script_test

import (
	"fmt"

	"bondstore/script"
)

func ExampleRun() {
	told, line, err := script.Run(`new 600

account 7 1 1 0
account 8 1 1 2
send
move 1 7 8 5 0 0
send
find 7
arm 2
tick 60
power 0 0 0
told`)
	fmt.Print(told)
	fmt.Println(line, err)
	// Output:
	// ok
	// ok
	// ok
	// ok 0 0
	// ok
	// ok 0
	// ok account 7 0 5 0 0 0
	// ok
	// error 8
	// ok
	// 2 0 false
	// 0 0
}
