"""Runs the tests of the project, and those under ../shared/tests, each folder by itself."""

import os
import subprocess
import sys
import unittest

OWN = "tests"
SHARED = os.path.join("..", "shared", "tests")


def run_folder(folder):
    """Runs the tests of one folder in this process; the exit code is 0 if all pass.

    The project's own folder must have some.
    """
    loader = unittest.TestLoader()
    suite = loader.discover(folder, pattern="test_*.py", top_level_dir=folder)
    result = unittest.TextTestRunner(stream=sys.stdout, verbosity=1).run(suite)
    failed = len(result.failures) + len(result.errors) + len(result.unexpectedSuccesses)
    skipped = len(result.skipped)
    passed = result.testsRun - failed - skipped
    print(f"{passed} passed, {failed} failed, {skipped} skipped", flush=True)
    ran = result.testsRun > 0 or folder != OWN
    return 0 if result.wasSuccessful() and ran else 1


def folders():
    """The folders that hold tests; that of the project is always one."""
    found = [OWN]
    for folder, inner, files in sorted(os.walk(SHARED)):
        if [name for name in files if name.startswith("test_") and name.endswith(".py")]:
            found.append(folder)
    return found


def main():
    if len(sys.argv) > 1:
        return run_folder(sys.argv[1])
    code = 0
    for folder in folders():
        print(f"tests in {folder}", flush=True)
        # A process for each folder: files in two folders can have one name.
        code = subprocess.call([sys.executable, __file__, folder]) or code
    return code


if __name__ == "__main__":
    sys.exit(main())
