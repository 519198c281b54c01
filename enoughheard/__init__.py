"""What protocols that wait until enough members have said something can do."""
