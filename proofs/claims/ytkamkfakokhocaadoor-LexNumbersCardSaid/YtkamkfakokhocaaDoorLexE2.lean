/- Words, and the errors that they are refused with. -/
import Derived.Test.YtkamkfakokhocaaDoorLexG
import Derived.Test.YtkamkfakokhocaaDoorFErr
