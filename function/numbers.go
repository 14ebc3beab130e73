package function

import (
	"math/big"

	"pluck/fault"
	"pluck/value"
)

func abs(n value.Number) value.Number { return max(n, -n) }

func floor(n value.Number) value.Number {
	rest := n % value.Unit
	if rest < 0 {
		rest += value.Unit
	}
	return n - rest
}

func ceil(n value.Number) value.Number { return -floor(-n) }

// total is great, since so many numbers may weigh little enough that an int64
// would not hold their sum.
func total(nums value.List) *big.Int {
	sum := new(big.Int)
	for _, n := range nums {
		sum.Add(sum, big.NewInt(int64(n.(value.Number))))
	}
	return sum
}

func sum(args []Arg) (value.Value, error) {
	sum := total(args[0].Value.(value.List))
	if sum.CmpAbs(big.NewInt(value.Limit)) > 0 {
		return nil, fault.Large
	}
	return value.Number(sum.Int64()), nil
}

func avg(nums value.List) value.Value {
	if len(nums) == 0 {
		return value.Null{}
	}
	count := int64(len(nums))
	below, rest := new(big.Int).DivMod(total(nums), big.NewInt(count), new(big.Int))
	n, twice := below.Int64(), 2*rest.Int64()
	if twice > count || twice == count && n%2 != 0 {
		n++
	}
	return value.Number(n)
}
