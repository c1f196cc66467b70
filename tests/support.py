"""What several tests need."""

from toldwhensure import errors

OWN_ERRORS = (
    "InvalidPlan", "InvalidLetter", "InvalidAlarm", "InvalidEntry", "BadText",
    "NotPossible", "NoNote", "NoSlot", "Closed", "NoLetter",
)

# Python refuses to write out integers of more than 4300 digits, so messages must not try.
HUGE = 10 ** 5000


def error_of(call, *arguments):
    """The error that the call raises; None if it raises none."""
    try:
        call(*arguments)
    except Exception as error:
        return error
    return None


def assert_raises_only(test, name, call, *arguments):
    """The call raises this error of the package, and none that is another one of them as well."""
    error = error_of(call, *arguments)
    test.assertIsInstance(error, getattr(errors, name))
    test.assertIsInstance(error, errors.GatherError)
    test.assertIsInstance(error, ValueError)
    for other in OWN_ERRORS:
        if other != name:
            test.assertNotIsInstance(error, getattr(errors, other))
    # The message can be shown, whatever the size of the integers that were passed.
    str(error)
    return error
